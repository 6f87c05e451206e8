import PyProof.Rows.All
import Wide.All
import OpenK.AllK
import Wide.FinOn
import Lean
import PyProof.EqAt
import PyProof.EqKinds
import PyProof.TupleCall
import PyProof.Rows.SortShellK
import PyProof.Rows.SortStr
import PyProof.Rows.SortWalk
import PyProof.StrBlockH
import PyProof.StrLawsIn
import PyProof.Rows.SetFrom
import PyProof.CollectWalk
import KE.KDictSum
import PyProof.ListStr
import PyProof.SeqI3
import PyProof.Rows.CallKwBuiltin
import PyProof.ListRange
import PyProof.AttrMissSeq
import PyProof.DictUpdate
import PyProof.DictList
import PyProof.ListNew
import PyProof.FactsAll.dict_1
import PyProof.SliceList
import PyProof.WalkInts
import PyProof.StationsW
import OpenK.KOwn
import KE.KTryMore
import PyProof.NsDelKeeps
import PyProof.ExcArgsOwn
import PyProof.ExcAttrAll.Exception
import OpenK.KDescr
import KE.KIsAll
import PyProof.ExcBaseAll.ValueError
import PyProof.StrBlock
import PyProof.StrCalls
import PyProof.StrLawsOccR
import KE.KDictOf
import PyProof.Rows.Range3
import PyProof.Rows.ZipForRows
import PyProof.Draws
import KE.KLam
import PySem.Challenge.RW_allparts_k39_whole_lacking_put_in
set_option linter.all false
set_option bootstrap.genMatcherCode false
set_option genSizeOf false
set_option genInjectivity false
noncomputable section
namespace PySem.W.Fast
def tw9837022935610397304:True:=⟨⟩
def tw7141513349352052859:True:=⟨⟩
def tw10300740211840076311:True:=⟨⟩
def tw5126552249769719670:True:=⟨⟩
def tw1535093739758887971:True:=⟨⟩
def tw11566963119530862851:True:=⟨⟩
def tw3567109527406847949:True:=⟨⟩
def tw8623213375033745461:True:=⟨⟩
def tw16965558886564269027:True:=⟨⟩
def tw10389754050202538720:True:=⟨⟩
def tw14668222869754085459:True:=⟨⟩
def tw803284437035691717:True:=⟨⟩
def tw6039800456437092977:True:=⟨⟩
def tw2333589707427096520:True:=⟨⟩
def tw2702605138863523589:True:=⟨⟩
def tw3689290674825598019:True:=⟨⟩
def tw10688210801015813881:True:=⟨⟩
def tw12490308966816149527:True:=⟨⟩
def tw5431196219739747471:True:=⟨⟩
def tw17622454757627534549:True:=⟨⟩
def tw14725985900508513455:True:=⟨⟩
def tw8177867508802780409:True:=⟨⟩
def tw9206966995972619880:True:=⟨⟩
def tw2311442513975658302:True:=⟨⟩
def tw15046464442622187687:True:=⟨⟩
def tw6409460084315004256:True:=⟨⟩
def tw8101413598211071179:True:=⟨⟩
def tw13136255399392697276:True:=⟨⟩
def tw3500520606021035554:True:=⟨⟩
def tw15205763534459368873:True:=⟨⟩
def tw9296444828355911344:True:=⟨⟩
def tw2862264453753690912:True:=⟨⟩
def tw3884363945919897008:True:=⟨⟩
def tw2435731288272645500:True:=⟨⟩
def tw10336872342700273045:True:=⟨⟩
def tw7637648902878099111:True:=⟨⟩
def tw13506299586576930336:True:=⟨⟩
def tw10611966029424130611:True:=⟨⟩
def tw16786673230685272801:True:=⟨⟩
def tw6154214666783760844:True:=⟨⟩
def tw10170540515191964829:True:=⟨⟩
def tw140118631788068239:True:=⟨⟩
def tw11854254397183131028:True:=⟨⟩
def tw3997594471120164182:True:=⟨⟩
def tw14982489111117179160:True:=⟨⟩
def tw11888340657500211840:True:=⟨⟩
def tw13285245052030553415:True:=⟨⟩
def tw6919091514436847564:True:=⟨⟩
def tw10783707310399428688:True:=⟨⟩
def tw6555996215809032424:True:=⟨⟩
def tw4741938466822468647:True:=⟨⟩
def tw8579007305757021677:True:=⟨⟩
def tw687308999310981456:True:=⟨⟩
def tw13256888472338172327:True:=⟨⟩
def tw928563746325327521:True:=⟨⟩
def tw8087520601105114501:True:=⟨⟩
def tw16741008789232370937:True:=⟨⟩
def tw8830513883884974336:True:=⟨⟩
def tw1369331577337485380:True:=⟨⟩
def tw13902255002716187350:True:=⟨⟩
def tw10817925632421144928:True:=⟨⟩
def tw12563263515065119854:True:=⟨⟩
def tw4169704270781079674:True:=⟨⟩
def tw437194762591239541:True:=⟨⟩
def tw1984696217686802788:True:=⟨⟩
def tw1689735948885738447:True:=⟨⟩
def tw8423736593974110977:True:=⟨⟩
def tw9296385901761598817:True:=⟨⟩
def tw5635466839863949102:True:=⟨⟩
def tw3339628801466911768:True:=⟨⟩
def tw2690845539883102302:True:=⟨⟩
def tw14462492932795051219:True:=⟨⟩
def tw247614701075976257:True:=⟨⟩
def tw9945656004336142407:True:=⟨⟩
def tw2334959296844583013:True:=⟨⟩
def tw13617262435101755093:True:=⟨⟩
def tw2989492474541763494:True:=⟨⟩
def tw13827713069576467772:True:=⟨⟩
def tw1161279749821194935:True:=⟨⟩
def tw15531167307314348583:True:=⟨⟩
def tw7794915895119713482:True:=⟨⟩
def tw9239807061301309341:True:=⟨⟩
def tw7298908922316160985:True:=⟨⟩
def tw5288467784748088148:True:=⟨⟩
def tw13887981738768011555:True:=⟨⟩
def tw438145264781041723:True:=⟨⟩
def tw17475593237893638538:True:=⟨⟩
def tw15993486845187917259:True:=⟨⟩
def tw1361246573485378128:True:=⟨⟩
def tw1337932050923639072:True:=⟨⟩
def tw2010093653148602385:True:=⟨⟩
def tw6937893483201107893:True:=⟨⟩
def tw7559572662236256215:True:=⟨⟩
def tw6965501360842185880:True:=⟨⟩
def tw1149489855315090815:True:=⟨⟩
def tw14875655866192583307:True:=⟨⟩
def tw6418951179292507678:True:=⟨⟩
def tw4675354716625368744:True:=⟨⟩
def tw9521627687924642006:True:=⟨⟩
def tw3872949535069777632:True:=⟨⟩
def tw18355621926984213754:True:=⟨⟩
def tw16995436268877814826:True:=⟨⟩
def tw18436109725269633720:True:=⟨⟩
def tw14671361543345191082:True:=⟨⟩
def tw5845077520710223556:True:=⟨⟩
def tw6410103815077248055:True:=⟨⟩
def tw2339470057328864688:True:=⟨⟩
def tw9519391110880427725:True:=⟨⟩
def tw9320614883808505433:True:=⟨⟩
def tw8335943233718777240:True:=⟨⟩
def tw7613556209483994061:True:=⟨⟩
def tw7316378988919366922:True:=⟨⟩
def tw66244901015632862:True:=⟨⟩
def tw6613184266682259173:True:=⟨⟩
def tw6524177279771253735:True:=⟨⟩
def tw6470192186031648412:True:=⟨⟩
def tw6421473917356214126:True:=⟨⟩
def tw6200979294885080028:True:=⟨⟩
def tw5799464255098516691:True:=⟨⟩
def tw3637659787658748727:True:=⟨⟩
def tw3478658327478106032:True:=⟨⟩
def tw18195805448755133189:True:=⟨⟩
def tw17921784356824219857:True:=⟨⟩
def tw17665969956368566953:True:=⟨⟩
def tw17404269131503609239:True:=⟨⟩
def tw16765158899337460706:True:=⟨⟩
def tw16053322528438424749:True:=⟨⟩
def tw15430569781185348648:True:=⟨⟩
def tw14548105933030333926:True:=⟨⟩
def tw14490106337950154505:True:=⟨⟩
def tw13931989223287275294:True:=⟨⟩
def tw13059483262465583540:True:=⟨⟩
def tw13037051944563115605:True:=⟨⟩
def tw1276711650882443481:True:=⟨⟩
def tw12285441726129554877:True:=⟨⟩
def tw12207532040062243821:True:=⟨⟩
def tw12041929395222454673:True:=⟨⟩
def tw11706244428594054331:True:=⟨⟩
def tw11313969549405166861:True:=⟨⟩
def tw11205336344602454770:True:=⟨⟩
def tw11168979925179452406:True:=⟨⟩
def tw10573703277622751791:True:=⟨⟩
def tw10377698983689248981:True:=⟨⟩
end PySem.W.Fast
open Option renaming some->Y, none->O
open Bool renaming true->L, false->B
set_option hygiene false
set_option compiler.extract_closed false
local macro_rules|`({`bn,$x})=>`(ab (aa $x) ai)|`({`bt,$x})=>`(aU $x M (Or.inr Q4) M M)|`({`bv,$x})=>`((.fr,.int $x))|`({`b3,$x,$y})=>`(aF [$x,(.px (xI $y))] ar)|`({`b5,$x,$y})=>`(bV (w_fld gJ ($x O) (qv 0)) (qv $y) (λ_ _=>rfl))
local macro_rules|`(`am)=>`(by lia)|`(`ao)=>`(by decide)|`(`ax)=>`(KB prog w)|`(`ay)=>`(KB X.prog X.w)|`(`a_)=>`(Inv X pins J H s)|`(`bd)=>`(by decide +kernel)|`(`be)=>`([e].length+([]:List Keyword).length+(if ([]:List Keyword).isEmpty then 0 else 1)<30)|`(`bi)=>`(S.wy.getD n [])
local macro_rules|`(`bm)=>`(arrOf b)
theorem q0(h:True:=by decide):True:=h
theorem q1(h:True:=by rfl):True:=h
theorem q2(h:True:=by intro _;rfl):True:=h
theorem q3(h:True:=by with_unfolding_all rfl):True:=h
theorem q4(h:True:=by first | exact Or.inl M | exact Or.inr (Or.inl M) | exact Or.inr (Or.inr M)):True:=h
theorem q5(h:True:=by first | exact Or.inl M | exact Or.inr M):True:=h
theorem q6(h:True:=by first | exact .inl M | exact .inr M):True:=h
theorem q7(h:True:=by exact rfl):True:=h
set_option hygiene false
local macro_rules|`({`q0,$x})=>`(autoParam $x q0._auto_1)|`({`q1,$x})=>`(autoParam $x q1._auto_1)|`({`q2,$x})=>`(autoParam $x q2._auto_1)|`({`q3,$x})=>`(autoParam $x q3._auto_1)|`({`q4,$x})=>`(autoParam $x q4._auto_1)|`({`q5,$x})=>`(autoParam $x q5._auto_1)|`({`q6,$x})=>`(autoParam $x q6._auto_1)|`({`q7,$x})=>`(autoParam $x q7._auto_1)
theorem M.{u}{α:Sort u}{a:α}:a=a:=rfl
open PySem renaming Shared->IR, model->KB, sizeLine->KF, Addr->KM, Value->On, wpAny->PP, starEach->Pv, FuncData->P3, Program->Re, Around->SC, keywordEach->SZ, compareOp->UV, Heap->XAA, World->XAB, attributeBase->XAC, foldedSetIterable->XAD
open PyProof.Rows renaming Keyed->Pi, SortSt->SL, pendingOf->UF
set_option linter.all false
set_option maxRecDepth 100000
set_option Elab.async false
set_option maxHeartbeats 4000000
abbrev Yx:=PySem.Value->PySem.Shared->Prop
abbrev Yw:=List (PySem.Addr×PySem.Obj)
abbrev Xz:=List (List PySem.Addr)
abbrev X0:=PySem.W.Frag
abbrev Wq:=PySem.Str->Option PySem.Value
abbrev Wp:=List PySem.Addr
abbrev W7:=List PySem.Value
abbrev Vv:=Option PySem.Value
abbrev Vu:=List Nat
abbrev Vg:=List Int
abbrev V5:=List (List (List Nat))
abbrev Zo:=@if_pos
abbrev Zl:=@if_neg
abbrev ZM:=@decide_eq_false
abbrev KS:=@beq_eq_false_iff_ne
open Option renaming bind_eq_some_iff->Zz,map_eq_some_iff->Zy,bind_some->Zs,isSome_iff_exists->Yb,isSome_map->Xu,getD_some->WX
open List renaming mem_cons_self->Zx,length_append->Zw,mem_cons_of_mem->Zv,length_map->Zt,getD_eq_getElem?_getD->Zr,getElem?_eq_getElem->Zq,mem_singleton->Zk,mem_cons->Zj,mem_append->Zi,length_cons->Zg,append_assoc->Zf,map_cons->Zc,nodup_cons->ZY,mem_append_right->ZX,getElem?_eq_some_iff->ZW,getElem?_map->ZP,size_toArray->ZJ,flatten_cons->ZI,nodup_append->ZG,zip_cons_cons->ZF,append_nil->ZE,length_range->ZC,pairwise_append->ZA,mem_map->JD,length_take->Kw,length_singleton->LI,getElem?_append_right->Mv,getElem?_append_left->Mu,mem_append_left->LH,length_drop->Yz,getElem?_eq_none->Yy,take_of_length_le->Yv,map_append->Yu,nodup_nil->Yt,getElem_mem->Ys,all_eq_true->Yr,find?_cons->Yq,map_map->Yp,flatten_append->Yo,take_append_drop->Yi,length_set->Yg,suffix_refl->Yf,sublist_cons_self->Yd,nil_append->Yc,getElem_of_mem->Ya,mem_range->YV,mem_of_getElem?->YU,getElem?_set_ne->YT,length_zip->YQ,lookup_cons->YO,drop_eq_nil_of_le->YN,getElem?_eq_none_iff->YL,drop_eq_getElem_cons->YK,mem_of_mem_take->YC,cons_append->YB,mem_filter->Y4,pairwise_iff_getElem->Y5,perm_append_comm->Y8,cons_lt_cons_iff->Y9,any_cons->Xy,mem_of_mem_drop->Xw,length_eq_zero_iff->Xs,getElem?_replicate->Xr,foldl_cons->Xq,any_eq_true->Xm,length_filter_le->Xk,sublist_append_right->Xj,getElem?_zip_eq_some->Xi,suffix_nil->Xh,getD_cons_succ->Xd,not_mem_nil->XZ,mem_reverse->XY,lt_irrefl->XX,drop_of_length_le->XQ,length_replicate->XI,getElem_take->XF,getElem_drop->XE,replicate_succ->X5,sum_cons->X9,sublist_append_left->Wz,idxOf_lt_length_iff->Wy,forIn_cons->Wx,pairwise_cons->Wv,find?_eq_none->Wu,pairwise_singleton->Wt,getElem?_set_self->Wg,ext_getElem?->Wf,drop_zero->We,drop_append->WV,all_cons->WU,take_append_of_le_length->WQ,eq_nil_of_length_eq_zero->WO,nil_suffix->WM,take_left->W0,length_range'->W3,isSuffixOf_iff_suffix->W4,getElem_idxOf->W5,pairwise_map->Vz,range'_succ->Vt,getElem?_cons_succ->Vs,map_nil->Vq,flatten_singleton->Vp,set_getElem_self->Vk,cons_prefix_cons->Vj,not_lt->Vd,map_congr_left->VX,flatMap_append->VW,filter_sublist->VU,filterMap_cons->VT,lt_trans->VP,findIdx?_cons->VM,take_sublist->VC,mem_range'_1->VB,map_set->VA,getElem?_set->V0,flatMap_cons->V1,all_map->V2,take_prefix->V8,sublist_nil->V9,mem_flatten->Uz,mem_flatMap->Uy,map_fst_zip->Ux
open PySem renaming wpAny_bind->Zu,wpAny_pure->Zn,wpAny_holding->YE,wpAny_mono->Y7,wpAny_call_entry->Xv,codeAny_builtin->Xp,wpAny_setState_of->Xc,wpAny_newObj_type->Xb,wpAny_setField->XM,wpAny_passesOwn->XD,wpAny_truthy_bool->X3,mem_of_lookup->X4,plainId_quiet->Wr,tupleKind_room_in1->WZ,sizeLine_eq->WY,fits_of_scanBound->WT,codeAny_mono->WR,builtinLookup_eq_fast->WJ,wpAny_askSetting->WI,wpAny_typeNameOfWhole_keyiter->WB,wpAny_rule->Vy,wpAny_Call_Name_kw->Vx,typeIs_str->Vw,wpAny_pyIter_slot->Vn,wpAny_isInstance->Vh,wpAny_execs_nil->VR,typeLookup_type->VQ,isSubtype_type->VL
open Nat renaming le_refl->Zp,ne_of_lt->Ze,lt_of_lt_of_le->ZZ,le_of_lt->ZS,le_add_right->ZQ,le_trans->ZL,le_of_not_lt->ZK,zero_le->ZD,pos_of_ne_zero->KR,lt_succ_self->Yn,lt_succ_of_lt->Ym,lt_of_le_of_lt->Yj,min_eq_left->Yh,sub_le->YW,le_add_left->YG,add_sub_cancel_left->YD,lt_irrefl->YA,add_lt_add_left->Y2,le_antisymm->Y3,succ_le_succ->Xo,min_le_right->Xn,zero_add->Xg,le_sub_one_of_lt->Xf,add_le_add_left->Xe,le_succ->XT,ne_of_gt->XS,lt_of_le_of_ne->XR,lt_of_succ_lt->XH,le_of_lt_succ->XG,le_of_not_le->X1,le_of_eq->X2,add_assoc->X8,add_sub_cancel->Ww,zero_lt_of_lt->Wk,sub_pos_of_lt->Wj,min_self->Wi,lt_or_ge->Wh,min_eq_right->WW,succ_mul->WE,lt_trans->WD,add_comm->WC,sub_lt->WA,add_sub_assoc->W9,zero_lt_one->Vm,sub_one_lt_of_le->Vf,mul_le_mul_right->Ve,sub_le_sub_left->VZ,add_sub_cancel'->VY,succ_le_of_lt->VJ,sub_self->VH,lt_of_succ_le->VG,le_succ_of_le->VF,add_zero->VE,add_sub_of_le->VD,lt_of_not_le->V7
open PySem.Heap renaming get?_push_of_some->Zm,get?_push_size->ZV,lt_size->ZO,get?_update_self->Ye,size_push->YJ,get?_update_other->YI,get?_push_ne->XW,size_update->Vc
open Option.some renaming inj->Zh
open Bool renaming false_ne_true->Zd,and_eq_true_iff->ZU,false_eq_true->YS,and_eq_true->YM,eq_iff_iff->YF,false_or->VO,not_eq_true'->V3
open Array renaming getElem_mem->Zb,length_toList->KL,getElem?_toList->Lj,toList_append->YZ,getElem?_eq_getElem->Y6,perm_iff_toList_perm->XA,toList_push->Wb,getElem?_eq_none->Wa,toList_extract->WN,toList_reverse->Vb
open PyProof.Rows renaming wpS_pure->Za,wpS_bind->ZR,wpS_forRange->YY,wpS_mono->XU,wpS_modify->WK,callWith_type1->WG,wpS_get->Vi
open Int renaming toNat_natCast->Yl,emod_lt_of_pos->Xl,emod_nonneg->XJ,natCast_nonneg->W6
open PySem.PassesOwn renaming never->Yk
open PySem.W renaming mg_none_of->YX,mg_of->YR,plainGet_of->Va
open Ne renaming symm->YH
open List.Perm renaming refl->Y0
open PySem.Around renaming under_plainId->Y1
open PySem.F renaming plainAttrs_list->Xa,slot_dict_keyiterator_next->XB,type_list_append->X6,slot_list_append->X7,plainAttrs_str->Wo,slot_tuple_getattribute->Vo,slot_dict_get->Vl
open PySem.Heap.SameBut renaming update->XO
open PySem.Paired renaming length->Wm
open List.Sublist renaming refl->Wc
open Prod.mk renaming inj->W8
open PySem.StrLaws renaming subAt_eq->Vr
open Nat.succ renaming inj->VI
open PyProof.Rows.F renaming plain_set_update_loop->V4
open PySem.Value renaming isStrOf_shape->V6
section
namespace L2
def jG{G:Prop}(h:∀P:Prop,(G->P)->P):G:=h G id
end L2
namespace VS
noncomputable abbrev Tx:=Vu
inductive T where
 |non | bl (b:Bool) | int (i:Int) | str (s:Tx) | scr (ns:Vg)
 |tup (l:List T) | lst (l:List T) | dct (kd:Nat) (l:List (T×T)) | obj (c:Nat) (fs:List (Nat×T))
 deriving Inhabited
abbrev Ut:=List T
noncomputable def dZ:Nat:=16777216
mutual
def Ir:T->Bool
 |.lst _=>B
 |.dct _ _=>B
 |.obj _ _=>B
 |.tup l=>dJ l
 |_=>L
def dJ:Ut->Bool
 |[]=>L
 |t :: r=>Ir t&&dJ r
end
mutual
@[simp] def eqT:T->T->Bool
 |.non,.non=>L
 |.bl a,.bl b=>a==b
 |.bl a,.int i=>(if a then 1 else 0)==i
 |.int i,.bl a=>i==(if a then 1 else 0)
 |.int i,.int j=>i==j
 |.str s,.str t=>s==t
 |.tup a,.tup b=>zk a b
 |.lst a,.lst b=>zk a b
 |_,_=>B
def zk:Ut->Ut->Bool
 |[],[]=>L
 |a :: d,b :: bs=>eqT a b&&zk d bs
 |_,_=>B
end
noncomputable def JK:Nat->T->Bool
 |_,.non=>L
 |_,.bl _=>L
 |_,.int _=>L
 |_,.str _=>L
 |n+1,.tup l=>l.all (JK n)
 |n+1,.lst l=>l.all (JK n)
 |_,_=>B
inductive Md where | fr | pu | bo
 deriving DecidableEq,Inhabited
noncomputable def Md.join:Md->Md->Md
 |.bo,_=>.bo
 |_,.bo=>.bo
 |.pu,_=>.pu
 |_,.pu=>.pu
 |.fr,.fr=>.fr
inductive Cell where | pu (t:T) | ow (t:T)
 deriving Inhabited
abbrev Uw:=Option Cell
noncomputable abbrev Env:=List (Uw)
noncomputable abbrev Val:=Md×T
abbrev Uu:=Option Val
abbrev Uv:=List Val
abbrev Ex:=Env->Uu
abbrev IZ:=Env->Option (Uv)
@[simp] def up(m:Md)(t:T):Val:=(if Ir t then .fr else m,t)
noncomputable def oA:T->Bool
 |.lst _=>L
 |.dct _ _=>L
 |.obj _ _=>L
 |_=>B
@[simp] def cellOf:Val->Uw
 | (.fr,t)=>Y (if oA t then .ow t else .pu t)
 | (.pu,t)=>Y (.pu t)
 | (.bo,_)=>O
inductive Out where | nx (U:Env) | rt (v:Val) (U:Env) | bk (U:Env) | ct (U:Env)
abbrev Sx:=Env->Option Out
@[simp] noncomputable def eC(t:T)(_:Env):Uu:=Y (.fr,t)
abbrev Q3(i:Int):Ex:=eC (.int i)
@[simp] def aa(i:Nat)(U:Env):Uu:=match U[i]? with
 |some (some (.pu t))=>Y (up .pu t)
 |some (some (.ow t))=>Y (.bo,t)
 |_=>O
@[simp] noncomputable def e1(f:Val->Uu)(a:Ex)(U:Env):Uu:=(a U).bind f
@[simp] noncomputable def e2(f:Val->Val->Uu)(a b:Ex)(U:Env):Uu:=(a U).bind λx=>(b U).bind λy=>f x y
@[simp] noncomputable def ai(_:Env):Option (Uv):=Y []
@[simp] noncomputable def ab(a:Ex)(r:IZ)(U:Env):Option (Uv):=(a U).bind λx=>(r U).bind λxs=>Y (x :: xs)
@[simp] noncomputable def eN(f:Uv->Uu)(a:IZ)(U:Env):Uu:=(a U).bind f
@[simp] def cu:Uv->Md
 |[]=>.fr
 |v :: r=>v.1.join (cu r)
@[simp] noncomputable def trees(l:Uv):Ut:=l.map (·.2)
def K9(m:Md)(l:Ut):Uu:=if l.length<=dZ then Y (if dJ l then .fr else m,.lst l) else O
@[simp] def bW(a:IZ)(U:Env):Uu:=(a U).bind λl=>K9 (cu l) (trees l)
def rE(l:Uv):Uu:=if l.length<=dZ then Y (up (cu l) (.tup (trees l))) else O
@[simp] def jA(a:IZ)(U:Env):Uu:=(a U).bind rE
def dput(l:List (T×T))(k v:T):List (T×T):=if l.any (λp=>eqT p.1 k) then l.map (λp=>if eqT p.1 k then (p.1,v) else p) else l++[(k,v)]
noncomputable def iM:T->Bool
 |.int _=>L
 |.str _=>L
 |_=>B
def keyOk:Nat->T->Bool
 |0,t=>iM t
 |1,.tup l=>l.all iM
 |_,_=>B
noncomputable def pairs:List (Ex×Ex)->Env->Option (List (Val×Val))
 |[],_=>Y []
 | (a,b) :: r,U=>(a U).bind λx=>(b U).bind λy=>(pairs r U).map ((x,y) :: ·)
def sD(a:Nat)(b:List (Ex×Ex))(U:Env):Uu:=(pairs b U).bind λl=>if l.all (λp=>keyOk a p.1.2)/\l.length<=15 then
 Y (cu (l.map (·.2)),.dct a (l.foldl (λd p=>dput d p.1.2 p.2.2) [])) else O
noncomputable def MD:T->Option Bool
 |.bl b=>Y b
 |.int i=>Y (i != 0)
 |.str s=>Y (!s.isEmpty)
 |.lst l=>Y (!l.isEmpty)
 |.tup l=>Y (!l.isEmpty)
 |.dct 0 l=>Y (!l.isEmpty)
 |.non=>Y B
 |_=>O
@[simp] noncomputable def oy(a b:Ex)(U:Env):Uu:=(a U).bind λx=>match x.2 with
 |.bl true=>b U
 |.bl false=>Y (.fr,.bl B)
 |_=>O
@[simp] noncomputable def Og(a b:Ex)(U:Env):Uu:=(a U).bind λx=>match x.2 with
 |.bl true=>Y (.fr,.bl L)
 |.bl false=>b U
 |_=>O
@[simp] noncomputable def zA(a:Ex)(U:Env):Uu:=(a U).bind λx=>match x.2 with
 |.bl b=>Y (.fr,.bl (!b))
 |_=>O
noncomputable def Ph:T->Bool
 |.non=>L
 |_=>B
@[simp] def CJ(a:Ex)(U:Env):Uu:=(a U).bind λx=>Y (.fr,.bl (Ph x.2))
@[simp] def gP(a:Ex)(U:Env):Uu:=(a U).bind λx=>Y (.fr,.bl (!Ph x.2))
@[simp] noncomputable def fP(f g:Val->Val->Uu)(a b c:Ex)(U:Env):Uu:=(a U).bind λx=>(b U).bind λy=>(f x y).bind λr=>match r.2 with
 |.bl true=>(c U).bind λz=>g y z
 |.bl false=>Y (.fr,.bl B)
 |_=>O
@[simp] noncomputable def int?:T->Option Int
 |.int i=>Y i
 |_=>O
def aW:Val->Val->Uu
 | (_,.int i),(_,.int j)=>Y {`bv,i+j}
 | (_,.str s),(_,.str t)=>if s.length+t.length<=dZ then Y (.fr,.str (s++t)) else O
 | (m,.lst s),(n,.lst t)=>K9 (m.join n) (s++t)
 |_,_=>O
@[simp] noncomputable def rO:Val->Val->Uu
 | (_,.int i),(_,.int j)=>Y {`bv,i-j}
 |_,_=>O
noncomputable def NV:Int:=4611686018427387904
noncomputable def RM:Int:=18446744073709551616
def fC:Val->Val->Uu
 | (_,.int i),(_,.int j)=>if (-RM<i/\i<RM)\/(-RM<j/\j<RM) then Y {`bv,i*j} else O
 |_,_=>O
def vG:Val->Val->Uu
 | (_,.str s),(_,.int j)=>if s.length*j.toNat<=dZ/\-NV<=j/\j<NV then Y (.fr,.str (List.replicate j.toNat s).flatten) else O
 |_,_=>O
noncomputable def jH:Val->Val->Uu
 | (_,.int i),(_,.int j)=>if 0<j/\j<1073741824 then Y {`bv,i/j} else O
 |_,_=>O
noncomputable def oMod:Val->Val->Uu
 | (_,.int i),(_,.int j)=>if 0<j then Y {`bv,i%j} else O
 |_,_=>O
noncomputable def KD:Tx->Tx->Bool
 |[],[]=>B
 |[],_ :: _=>L
 |_ :: _,[]=>B
 |a :: d,b :: bs=>if a<b then L else if b<a then B else KD d bs
@[simp] def oLt:Val->Val->Uu
 | (_,.int i),(_,.int j)=>Y (.fr,.bl (decide (i<j)))
 | (_,.str s),(_,.str t)=>Y (.fr,.bl (KD s t))
 |_,_=>O
@[simp] def oLe:Val->Val->Uu
 | (_,.int i),(_,.int j)=>Y (.fr,.bl (decide (i<=j)))
 | (_,.str s),(_,.str t)=>Y (.fr,.bl (!KD t s))
 |_,_=>O
@[simp] def Nd(a b:Val):Uu:=oLt b a
@[simp] def R5(a b:Val):Uu:=oLe b a
@[simp] def oEq(a b:Val):Uu:=if JK 60 a.2/\JK 60 b.2 then Y (.fr,.bl (eqT a.2 b.2)) else O
@[simp] def Lp(a b:Val):Uu:=if JK 60 a.2/\JK 60 b.2 then Y (.fr,.bl (!eqT a.2 b.2)) else O
def fq(l:List (T×T))(k:T):Option T:=(l.find? λp=>eqT p.1 k).map (·.2)
noncomputable def Jx(n:Nat)(i:Int):Option Nat:=if 0<=i then (if i<n then Y i.toNat else O) else (if 0<=i+n then Y (i+n).toNat else O)
@[simp] def sub(m:Md)(t:T):Val:=up m t
@[simp] def aJ:Val->Val->Uu
 | (m,.lst l),(_,.int i)=>(Jx l.length i).bind λk=>(l[k]?).map (sub m)
 | (m,.tup l),(_,.int i)=>(Jx l.length i).bind λk=>(l[k]?).map (sub m)
 | (_,.scr l),(_,.int i)=>(Jx l.length i).bind λk=>(l[k]?).map λn=>{`bv,n}
 | (_,.str l),(_,.int i)=>(Jx l.length i).bind λk=>(l[k]?).map λn=>(.fr,.str [n])
 |_,_=>O
noncomputable def clip(n:Nat)(i:Int):Nat:=if i<0 then (i+n).toNat else min i.toNat n
def cut{α:Type}(l:List α)(a b:Option Int):List α :=
 let lo:=match a with | none=>0 | some i=>clip l.length i
 let d:=match b with | none=>l.length | some i=>clip l.length i
 (l.drop lo).take (d-lo)
@[simp] def oSl(v:Val)(a b:Option Int):Uu:=match v with
 | (_,.str s)=>Y (.fr,.str (cut s a b))
 | (m,.lst l)=>K9 m (cut l a b)
 |_=>O
@[simp] def pb(c:Option Ex)(U:Env):Option (Option Int):=match c with
 |none=>Y O
 |some e=>(e U).bind λy=>(int? y.2).map Y
@[simp] def LF(a:Ex)(b d:Option Ex)(U:Env):Uu:=(a U).bind λx=>(pb b U).bind λl=>(pb d U).bind λh=>oSl x l h
noncomputable def Ie:T->Option Nat
 |.lst l=>Y l.length
 |.tup l=>Y l.length
 |.str l=>Y l.length
 |.scr l=>Y l.length
 |.dct 0 l=>Y l.length
 |_=>O
@[simp] def bu:Uv->Uu
 |[x]=>(Ie x.2).map λn=>{`bv,n}
 |_=>O
noncomputable def tN:Ut->Option (Vg)
 |[]=>Y []
 |.int i :: r=>(tN r).map (i :: ·)
 |_=>O
noncomputable def strs?:Ut->Option (List Tx)
 |[]=>Y []
 |.str i :: r=>(strs? r).map (i :: ·)
 |_=>O
def ya:Uv->Uu
 |[(_,.lst l)]=>(tN l).bind λa=>Y {`bv,a.sum}
 |_=>O
@[simp] def Dm:Uv->Uu
 |[(m,.lst l)]=>K9 m l
 |[(m,.tup l)]=>K9 m l
 |_=>O
def kU:Uv->Uu
 |[(m,.lst l)]=>if l.length<=dZ then Y (up m (.tup l)) else O
 |_=>O
def pG(x:Tx):List Tx->List Tx
 |[]=>[x]
 |y :: r=>if KD y x then y :: pG x r else x :: y :: r
def cU(l:List Tx):List Tx:=l.foldr pG []
noncomputable def dedup:List Tx->List Tx
 |[]=>[]
 |x :: r=>x :: (dedup r).filter (· ≠ x)
inductive Ty where | int | str | bool | list | tuple | dict
noncomputable def total:List Tx->Nat
 |[]=>0
 |x :: r=>x.length+total r
noncomputable def dh(a:Tx):List Tx->Tx
 |[]=>[]
 |[x]=>x
 |x :: r=>x++a++dh a r
def iH:Val->Uv->Uu
 | (_,.str sep),[(_,.lst l)]=>(strs? l).bind λa=>if total a+a.length*sep.length<=dZ then Y (.fr,.str (dh sep a)) else O
 |_,_=>O
noncomputable def pq:Val->Uv->Uu
 | (_,.str s),[(_,.str t)]=>Y (.fr,.bl (t.isSuffixOf s))
 |_,_=>O
@[simp] noncomputable def eM(f:Val->Uv->Uu)(o:Ex)(b:IZ)(U:Env):Uu:=(o U).bind λx=>(b U).bind λa=>f x a
noncomputable abbrev Fn:=Ut->Uu
@[simp] def cP(g:Fn)(b:IZ)(U:Env):Uu:=(b U).bind λa=>(g (trees a)).bind λr=>match r with
 | (.fr,t)=>Y (.fr,t)
 | (_,t)=>Y ((Md.pu).join (cu a),t)
abbrev Ln:=Env->Option (Md×Ut)
noncomputable def BU:Val->Option (Md×Ut)
 | (m,.lst l)=>Y (m,l)
 | (m,.tup l)=>Y (m,l)
 | (_,.str l)=>Y (.fr,l.map λc=>.str [c])
 |_=>O
@[simp] def c8(a:Ex)(U:Env):Option (Md×Ut):=(a U).bind BU
noncomputable def rng(a:Int)(n:Nat):Ut:=(List.range n).map λ(k:Nat)=>T.int (a+k)
def b6(a:Ex)(U:Env):Option (Md×Ut):=(a U).bind λx=>(int? x.2).bind λj=>if -NV<=j/\j<NV then Y (.fr,rng 0 j.toNat) else O
noncomputable def iE(k:Nat):Ut->Ut
 |[]=>[]
 |t :: r=>.tup [.int k,t] :: iE (k+1) r
def Hn:Val->Option (Md×Ut)
 | (m,.lst l)=>Y (m,iE 0 l)
 |_=>O
@[simp] def zV(a:Ex)(U:Env):Option (Md×Ut):=(a U).bind Hn
abbrev Tg:=T->Env->Option Env
@[simp] noncomputable def aY(i:Nat)(t:T)(U:Env):Option Env:=if i<U.length then Y (U.set i (Y (.pu t))) else O
noncomputable def zq:List Tg->Ut->Env->Option Env
 |[],[],U=>Y U
 |g :: b,t :: a,U=>(g t U).bind λd=>zq b a d
 |_,_,_=>O
@[simp] def xf(a:List Tg)(t:T)(U:Env):Option Env:=match t with
 |.tup l=>zq a l U
 |_=>O
@[simp] def R3(m:Md)(l:Ut):Bool:=match m with
 |.bo=>dJ l
 |_=>L
def jD(e:Tg)(a:Option Ex)(d:Ex)(U:Env):Ut->Option (Uv)
 |[]=>Y []
 |t :: r=>(e t U).bind λf=>(match a with | none=>some true | some c=>(c f).bind λx=>MD x.2).bind λb =>
  if b then (d f).bind λv=>(jD e a d U r).map (v :: ·) else jD e a d U r
def bD(k:Nat)(e:Tg)(f:Ln)(a:Option Ex)(b:Ex)(U:Env):Uu:=(f U).bind λ(m,l)=>if R3 m l then
 (jD e a b (List.replicate k O++U) l).bind λd=>K9 (cu d) (trees d) else O
@[simp] noncomputable def di(U:Env):Option Out:=Y (.nx U)
@[simp] noncomputable def ak(a b:Sx)(U:Env):Option Out:=(a U).bind λo=>match o with
 |.nx d=>b d
 |o=>Y o
@[simp] def ip(i:Nat)(e:Ex)(U:Env):Option Out:=(e U).bind λv=>(cellOf v).bind λc=>if i<U.length then Y (.nx (U.set i (Y c))) else O
@[simp] noncomputable def aI(i:Nat)(e:Ex)(U:Env):Option Out:=(e U).bind λv=>match v.1 with
 |.bo=>O
 |_=>if i<U.length then Y (.nx (U.set i (Y (.pu v.2)))) else O
@[simp] noncomputable def fJ(e:Ex)(U:Env):Option Out:=(e U).bind λv=>Y (.rt (match v.1 with | .bo=>.pu | m=>m,v.2) U)
@[simp] def fA(i:Nat)(U:Env):Option Out:=match U[i]? with
 |some (some (.ow t))=>Y (.rt (.fr,t) (U.set i O))
 |some (some (.pu t))=>Y (.rt (up .pu t) U)
 |_=>O
@[simp] noncomputable def Gj(U:Env):Option Out:=Y (.bk U)
@[simp] def Jw(c:Ex)(a b:Sx)(U:Env):Option Out:=(c U).bind λx=>(MD x.2).bind λt=>if t then a U else b U
noncomputable def forL(d:Tg)(a:Sx):Ut->Env->Option Out
 |[],U=>Y (.nx U)
 |t :: r,U=>(d t U).bind λe=>(a e).bind λo=>match o with
  |.nx b=>forL d a r b
  |.ct b=>forL d a r b
  |.bk b=>Y (.nx b)
  |.rt v b=>Y (.rt v b)
@[simp] noncomputable def okF:Md->Bool
 |.bo=>B
 |_=>L
@[simp] def gU(b:Tg)(d:Ln)(a:Sx)(U:Env):Option Out:=(d U).bind λ(m,l)=>if okF m then forL b a l U else O
def dE(c:Ex)(a:Sx):Nat->Env->Option Out
 |0,_=>O
 |n+1,U=>(c U).bind λx=>(MD x.2).bind λt=>if t then (a U).bind λo=>match o with
  |.nx b=>dE c a n b
  |.ct b=>dE c a n b
  |.bk b=>Y (.nx b)
  |.rt v b=>Y (.rt v b)
  else Y (.nx U)
noncomputable def xC:Nat:=1000000
def lF(c:Ex)(a:Sx)(U:Env):Option Out:=dE c a xC U
@[simp] noncomputable def sS(i:Nat)(U:Env):Option Out:=match U[i]? with
 |some (some (.ow t))=>Y (.nx (U.set i (Y (.pu t))))
 |some (some (.pu _))=>Y (.nx U)
 |_=>O
inductive Ll where | fld (k:Nat) | ix (e:Ex) | un
inductive Ky where | fld (k:Nat) | at (t:T) | un
def keys:List Ll->Env->Option (List Ky)
 |[],_=>Y []
 |.fld k :: r,U=>(keys r U).map (.fld k :: ·)
 |.ix e :: r,U=>(e U).bind λx=>(keys r U).map (.at x.2 :: ·)
 |.un :: r,U=>(keys r U).map (.un :: ·)
noncomputable def HG(a:List (Nat×T))(k:Nat):Option T:=a.lookup k
noncomputable def HJ(a:List (Nat×T))(k:Nat)(v:T):List (Nat×T):=if a.any (λp=>p.1==k) then a.map (λp=>if p.1==k then (p.1,v) else p) else a++[(k,v)]
def BA{α:Type}(f:T->Option (T×α)):List Ky->T->Option (T×α)
 |[],t=>f t
 |.fld k :: r,.obj c fs=>(HG fs k).bind λx=>(BA f r x).map λ(y,a)=>(.obj c (HJ fs k y),a)
 |.at (.int i) :: r,.lst l=>(Jx l.length i).bind λj=>(l[j]?).bind λx=>(BA f r x).map λ(y,a)=>(.lst (l.set j y),a)
 |.at k :: r,.dct d l=>(fq l k).bind λx=>(BA f r x).map λ(y,a)=>(.dct d (dput l k y),a)
 |_,_=>O
abbrev Xx:=Env->Option (Val×Env)
@[simp] def j4(i:Nat)(a:List Ll)(f:T->Uv->Option (T×Val))(g:IZ)(U:Env):Option (Val×Env):=match U[i]? with
 |some (some (.ow t))=>(keys a U).bind λe=>(g U).bind λb=>(BA (λx=>f x b) e t).map λ(d,v)=>(v,U.set i (Y (.ow d)))
 |_=>O
@[simp] noncomputable def fit(v:Val):Option T:=match v.1 with
 |.fr=>Y v.2
 |_=>O
def aV:T->Uv->Option (T×Val)
 |.lst l,[v]=>(fit v).bind λt=>if l.length<dZ then Y (.lst (l++[t]),(.fr,.non)) else O
 |_,_=>O
def cN:T->Uv->Option (T×Val)
 |.lst l,[v]=>(fit v).bind λt=>match t with
  |.lst r=>if l.length+r.length<=dZ then Y (.lst (l++r),(.fr,.non)) else O
  |_=>O
 |_,_=>O
@[simp] noncomputable def sX(x:Xx)(U:Env):Option Out:=(x U).map λr=>.nx r.2
@[simp] noncomputable def fn(d e:Nat)(a:Sx):Fn:=λb=>if b.length=d then
 (a (b.map (λt=>Y (.pu t))++List.replicate (e-d) O)).bind λo=>match o with
  |.rt v _=>Y v
  |.nx _=>Y (.fr,.non)
  |_=>O else O
def ki{m:Md}{s t:Tx}(h:s.length+t.length<=16777216):aW (m,.str s) (n,.str t)=Y (.fr,.str (s++t)):=Zo h
def jO{i j:Int}(h:-18446744073709551616<i/\i<18446744073709551616):fC (m,.int i) (n,.int j)=Y {`bv,i*j}:=Zo (.inl h)
def kL{i j:Int}(h:0<j/\j<1073741824):jH (m,.int i) (n,.int j)=Y {`bv,i/j}:=Zo h
def fF{i j:Int}(h:0<j):oMod (m,.int i) (n,.int j)=Y {`bv,i%j}:=Zo h
def fQ{l:Ut}(h:l.length<16777216):aV (.lst l) [(.fr,t)]=Y (.lst (l++[t]),(.fr,.non)):=by
 simp only[aV,fit,Zs];exact Zo h
def nV{l r:Ut}(h:l.length+r.length<=16777216):cN (.lst l) [(.fr,.lst r)]=Y (.lst (l++r),(.fr,.non)):=by
 simp only[cN,fit,Zs];exact Zo h
def dF{m:Md}{j:Int}(e:a U=Y (m,.int j))(h:-4611686018427387904<=j/\j<4611686018427387904):b6 a U=Y (.fr,rng 0 j.toNat):=by
 simp only[b6,e,Zs,int?];exact Zo h
def k9{l:Ut}(h:l.length<=16777216):K9 m l=Y (if dJ l then .fr else m,.lst l):=Zo h
def iq{b:Tg}{r:Ut}{U1:Env}(f:b t U=Y U1)(e:a U1=Y (.nx d)):forL b a (t :: r) U=forL b a r d:=by
 simp[forL,f,e]
def BI(g:b t U=Y e)(f:a e=Y (.rt v d)):forL b a (t :: r) U=Y (.rt v d):=by
 simp[forL,g,f]
theorem strs_map{α:Type}(f:α->Tx):∀l:List α,strs? (l.map λx=>T.str (f x))=Y (l.map f)
 |[]=>rfl
 |a :: r=>congrArg (Option.map (f a :: ·)) (strs_map f r)
theorem ints_map{α:Type}(f:α->Int):∀l:List α,tN (l.map λx=>T.int (f x))=Y (l.map f)
 |[]=>rfl
 |a :: r=>congrArg (Option.map (f a :: ·)) (ints_map f r)
theorem ng:∀a:List Tx,dh [] a=a.flatten
 |[]=>rfl
 |[x]=>by simp[dh]
 |x :: y :: r=>by
  have:=ng (y :: r);simp[dh]at this ⊢;exact this
theorem nH:∀a:List Tx,total a=a.flatten.length
 |[]=>rfl
 |x :: r=>by simp[total,nH r]
def lN{m n:Md}(e:strs? l=Y a)(b:a.flatten.length<=16777216):iH (m,.str []) [(n,.lst l)]=Y (.fr,.str a.flatten):=by
 simp only[iH,Zs,e,ng];refine Zo ?_;rw[nH];show _<=16777216;simpa using b
def de{α:Type}(l:List α):(l.map λx=>[x]).flatten=l:=by
 induction l with
 |nil=>rfl
 |cons a r b=>rw[Zc,ZI,b];rfl
def fS(n:Nat):rng 0 n=(List.range n).map λ(k:Nat)=>T.int (k:Int):=by
 unfold rng;simp
theorem gQ{α:Type}(f:α->T)(h:∀x,Ir (f x)=L):∀l:List α,dJ (l.map f)=L
 |[]=>rfl
 |a :: r=>ZU.mpr ⟨h a,gQ f h r⟩
theorem pz{α:Type}(g:α->T)(f:α->Val):∀l:List α,(∀a∈l,∃e,i (g a) U=Y e/\d e=Y (f a))->jD i O d U (l.map g)=Y (l.map f)
 |[],_=>rfl
 |a :: r,h=>by
  obtain⟨e,m,j⟩:=h a Zx;simp[jD,m,j,pz g f r λb hb=>h b (Zv _ hb)]
theorem kG{α:Type}{c:Ex}(g:α->T)(p:α->Bool)(f:α->Val):∀l:List α,(∀a∈l,∃i x,j (g a) U=Y i/\c i=Y x/\MD x.2=Y (p a)/\(p a=L->d i=Y (f a))) →
  jD j (Y c) d U (l.map g)=Y ((l.filter p).map f)
 |[],_=>rfl
 |a :: r,h=>by
  obtain⟨i,x,q,o,n,s⟩:=h a Zx;have m:=kG (c:=c) g p f r λb hb=>h b (Zv _ hb);cases e:p a with
  |true=>simp[-MD,jD,q,o,n,e,s e,m]
  |false=>simp[-MD,jD,q,o,n,e,m]
theorem oh{α:Type}(f:α->T):∀l:List α,cu (l.map λa=>(Md.fr,f a))=.fr
 |[]=>rfl
 |a :: r=>congrArg (Md.join .fr) (oh f r)
def o5{α:Type}(f:α->Val)(l:List α):trees (l.map f)=l.map λa=>(f a).2:=by simp
def fG{α:Type}{k:Nat}{tg:Tg}{it:Ln}{elt:Ex}{U:Env}{m:Md}(g:α->T)(f:α->T)(l:List α)(i:it U=Y (m,l.map g))(e:R3 m (l.map g)=L)(d:l.length<=16777216)(h:∀a∈l,∃b,tg (g a) (List.replicate k O++U)=Y b/\elt b=Y (.fr,f a)):bD k tg it O elt U=Y (.fr,.lst (l.map f)):=by
 simp only[bD,i,Zs];rw[Zo e,pz g (λa=>(Md.fr,f a)) l h];simp only[Zs,oh,o5];rw[k9 (by rw[Zt];exact d)];simp
def dR{α:Type}{k:Nat}{tg:Tg}{it:Ln}{c elt:Ex}{U:Env}{m:Md}(g:α->T)(p:α->Bool)(f:α->T)(l:List α)(i:it U=Y (m,l.map g))(e:R3 m (l.map g)=L)(d:l.length<=16777216)(h:∀a∈l,∃b x,tg (g a) (List.replicate k O++U)=Y b/\c b=Y x/\MD x.2=Y (p a)/\(p a=L->elt b=Y (.fr,f a))):bD k tg it (Y c) elt U=Y (.fr,.lst ((l.filter p).map f)):=by
 simp only[bD,i,Zs];rw[Zo e,kG g p (λa=>(Md.fr,f a)) l h];simp only[Zs,oh,o5];rw[k9 (by rw[Zt];exact ZL (Xk _ _) d)];simp
end VS
end
section
namespace L2
open PySem PySem.Spec PyProof.Rows
noncomputable abbrev Key:=Sum Int Str
def lU:Key->On->Bool
 |.inl k,v=>Value.isInt k v
 |.inr x,v=>Value.isStrOf x v
noncomputable def GE(w:XAB):Key->Int
 |.inl k=>hashInt k
 |.inr x=>hashStr w x
theorem bM:∀{k:Key}{v:On},lU k v=L->(∃i t,k=Sum.inl i/\v=Value.int i t)\/(∃x t,k=Sum.inr x/\v=Value.str x t)
 |.inl i,v,h=>by
  obtain⟨t,e⟩:=Value.isInt_shape (k:=i) (v:=v) h;exact .inl ⟨i,t,rfl,e⟩
 |.inr x,v,h=>by
  obtain⟨t,e⟩:=V6 (x:=x) (v:=v) h;exact .inr ⟨x,t,rfl,e⟩
def wX(i:Int)(t:Tok):lU (.inl i) (.int i t)=L:=by simp[lU,Value.isInt]
def wI(x:Str)(t:Tok):lU (.inr x) (.str x t)=L:=by simp[lU,Value.isStrOf]
def FS(a b:Int):decide ((Sum.inl a:Key)=Sum.inl b)=(a==b):=by
 by_cases e:a=b
 ·subst e;simp
 ·have h:¬(Sum.inl a:Key)=Sum.inl b:=λq=>e (Sum.inl.inj q);rw[ZM h];exact(KS.mpr e).symm
def Fd(a b:Str):decide ((Sum.inr a:Key)=Sum.inr b)=decide (a=b):=by
 by_cases e:a=b
 ·subst e;simp
 ·have h:¬(Sum.inr a:Key)=Sum.inr b:=λq=>e (Sum.inr.inj q);rw[ZM h,ZM e]
def Eb(a:Int)(b:Str):decide ((Sum.inl a:Key)=Sum.inr b)=B:=ZM (λq=>nomatch q)
def EN(a:Str)(b:Int):decide ((Sum.inr a:Key)=Sum.inl b)=B:=ZM (λq=>nomatch q)
def aR(d:Re)(w:XAB):PySem.KeyKind d w Key where
 is:=lU
 hash:=GE w
 inj:=λv a b l hb=>by
  rcases bM l with⟨i,t,rfl,rfl⟩ | ⟨x,t,rfl,rfl⟩
  ·rcases bM hb with⟨j,u,rfl,e⟩ | ⟨y,u,rfl,e⟩
   ·injection e with e1 _;rw[e1]
   ·exact nomatch e
  ·rcases bM hb with⟨j,u,rfl,e⟩ | ⟨y,u,rfl,e⟩
   ·exact nomatch e
   ·injection e with e1 _;rw[e1]
 byValue:=λk v h=>by
  rcases bM h with⟨i,t,rfl,rfl⟩ | ⟨x,t,rfl,rfl⟩<;>rfl
 pyHash:=λf h=>by
  rcases bM f with⟨i,t,rfl,rfl⟩ | ⟨x,t,rfl,rfl⟩
  ·exact wpAny_pyHash_int h
  ·exact wpAny_pyHash_str h
 eqBool:=λg f h=>by
  rcases bM g with⟨i,t,rfl,rfl⟩ | ⟨x,t,rfl,rfl⟩
  ·rcases bM f with⟨j,u,rfl,rfl⟩ | ⟨y,u,rfl,rfl⟩
   ·rw[FS]at h;exact wpAny_eqBool_int h
   ·rw[Eb]at h;exact SeqAt.EqAt.int_str i t y u _ _ _ _ h
  ·rcases bM f with⟨j,u,rfl,rfl⟩ | ⟨y,u,rfl,rfl⟩
   ·rw[EN]at h;exact SeqAt.EqAt.str_int x t j u _ _ _ _ h
   ·rw[Fd]at h;exact wpAny_eqBool_str h
 «strs» := λk x t v h=>by
  rcases bM h with⟨i,u,rfl,e⟩ | ⟨y,u,rfl,e⟩
  ·exact nomatch e
  ·injection e with e1 _
   subst e1;cases v<;>rfl
def rV(a:Re)(w:XAB)(i:Int)(t:Tok):(aR a w).is (.inl i) (.int i t)=L:=wX i t
def tQ(a:Re)(w:XAB)(x:Str)(t:Tok):(aR a w).is (.inr x) (.str x t)=L:=wI x t
inductive V where
 |non | bl (b:Bool) | int (i:Int) | str (x:Str) | byt (b:Array UInt8) | flt (b:UInt64) | ref (a:KM) | ty (n:String)
 deriving DecidableEq
noncomputable def RelV:V->On->Prop
 |.non,u=>u=Value.none
 |.bl b,u=>u=Value.bool b
 |.int i,u=>∃t,u=Value.int i t
 |.str x,u=>∃t,u=Value.str x t
 |.byt b,u=>∃t,u=Value.bytes b t
 |.flt b,u=>∃t,u=Value.float b t
 |.ref a,u=>u=Value.ref a
 |.ty n,u=>u=Value.type n
abbrev aQ:List V->W7->Prop:=Paired RelV
theorem aQ.length{xs:List V}{a:W7}(r:aQ xs a):xs.length=a.length:=Wm r
theorem aQ.get:∀{a:List V}{b:W7}{i:Nat}{x:V},aQ a b->a[i]?=Y x->∃u,b[i]?=Y u/\RelV x u
 |_,_,_,_,.nil,e=>by simp at e
 |_,_,0,_,.cons r _,e=>by simp at e;subst e;exact⟨_,rfl,r⟩
 |_,_,i+1,x,.cons _ t,e=>by
  obtain⟨u,f,d⟩:=aQ.get (i:=i) (x:=x) t (by simpa using e);exact⟨u,by simpa using f,d⟩
theorem aQ.set(r:RelV x u):∀{a:List V}{b:W7}(i:Nat),aQ a b->aQ (a.set i x) (b.set i u)
 |_,_,_,.nil=>.nil
 |_,_,0,.cons _ t=>.cons r t
 |_,_,i+1,.cons q t=>.cons q (aQ.set r i t)
theorem aQ.append:∀{b a:List V}{d ws:W7},aQ b d->aQ a ws->aQ (b++a) (d++ws)
 |_,_,_,_,.nil,s=>s
 |_,_,_,_,.cons r t,s=>.cons r (aQ.append t s)
theorem aQ.take:∀{a:List V}{b:W7}(n:Nat),aQ a b->aQ (a.take n) (b.take n)
 |_,_,0,_=>.nil
 |_,_,_+1,.nil=>.nil
 |_,_,n+1,.cons r t=>.cons r (aQ.take n t)
theorem aQ.drop:∀{a:List V}{b:W7}(n:Nat),aQ a b->aQ (a.drop n) (b.drop n)
 |_,_,0,r=>r
 |_,_,_+1,.nil=>.nil
 |_,_,n+1,.cons _ t=>aQ.drop n t
def aQ.none_of:∀{a:List V}{b:W7}{i:Nat},aQ a b->a[i]?=O->b[i]?=O:=λ{a b i} r e=>by
 have f:=r.length;have d:a.length<=i:=YL.mp e;exact YL.mpr `am
def iN:Option V->Vv->Prop
 |some v,some u=>RelV v u
 |none,none=>True
 |_,_=>False
def KV{κ:Type}:List (κ×V)->List (κ×On)->Prop:=Paired λ(p:κ×V) (q:κ×On)=>p.1=q.1/\RelV p.2 q.2
noncomputable def kV:Key->V
 |.inl i=>.int i
 |.inr x=>.str x
set_option genInjectivity true in
inductive HO where
 |lst (xs:List V)
 |tup (xs:List V)
 |dK (gV:List (Key×V)) | dT (gV:List (List Key×V))
 |set (S:Int->Bool) (n:Nat)
 |ins (C dx:KM) (fs:List (Str×V))
 |own (x:KM)
 |xd (fs:List (Str×V))
 |met (f x:KM)
 |rng (lo hi:Int)
 |frz (o:Obj) (u:HO)
 |tbl (q:Str)
 |ext (φ:XAB->XAA->Prop)
noncomputable abbrev Hp:=KM->Option HO
noncomputable def upd(H:Hp)(a:KM)(o:HO):Hp:=λb=>if b=a then Y o else H b
def aw:upd H a o a=Y o:=by unfold upd;rw[Zo M]
def aE(h:b≠a):upd H a o b=H b:=by unfold upd;rw[Zl h]
def BR:upd (upd H a o) a u=upd H a u:=by
 funext b;unfold upd;split<;>rfl
def Ad{H:Hp}{a b:KM}{o u:HO}(h:H a=Y o)(f:H b=Y u)(d:o≠u):a≠b:=by
 intro e;subst e;rw[h]at f;exact d (Zh f)
def cF{H:Hp}{a b:KM}{o:HO}(h:H a=Y o)(d:H b=O):a≠b:=by
 intro e;subst e;rw[h]at d;cases d
noncomputable def NS(h:XAA)(a:KM):Prop:=∀o,h.get? a=Y o->o.dict=O
def NS.new(h:XAA)(a:Array On):NS (h.push { cls:=.type "tuple",data:=.seq a }) h.objs.size:=λo e=>by
 rw[ZV _ M]at e;cases e;rfl
def NS.of{h:XAA}(e:h.get? a=Y o)(d:o.dict=O):NS h a:=λf b=>by
 rw[e]at b;cases b;exact d
section
variable(P:Re)(w:XAB)
def bX(H:Hp)(h:XAA)(a:KM):HO->Prop
 |.lst b=>b.length<=KF/\∃(g:W7)(n:Nat),aQ b g/\h.get? a=Y { cls:=.type "list",data:=.seq g.toArray n }
 |.tup b=>b.length<=KF/\∃g:W7,aQ b g/\NS h a/\IsTup h a g.toArray
 |.dK i=>i.length<=KF/\(a==sysModules)=B/\∃e,KV i e/\h.DictOf (aR P w) a e
 |.dT i=>i.length<=KF/\(a==sysModules)=B/\∃b:List (List Key×KM×On),
   Paired (λ(p:List Key×V) (q:List Key×KM×On)=>p.1=q.1/\H q.2.1=Y (.tup (p.1.map kV))/\RelV p.2 q.2.2) i b ∧
   ∃o r z,h.get? a=Y o/\o.ExactDict/\o.data=.dict r z/\r.toList=b.map (entryOfKey (tupleKind (aR P w)))/\(b.map (·.1)).Nodup
 |.set S n=>h.SetOf (intKind P w) a S n
 |.ins C j fs=>H j=Y (.own a)/\fs.length<=1000/\j≠a/\h.get? a=Y (PySem.W.instObj C j) ∧
   ∃d,h.Ns1 j d/\(∀f,iN (fs.lookup f) (d f))/\PySem.Within d (fs.map (·.1))
 |.own _=>∃o,h.get? a=Y o
 |.xd fs=>∃d,h.Ns1 a d/\∀f,iN (fs.lookup f) (d f)
 |.rng lo s=>∃t u v,h.get? a=Y { cls:=.type "range",data:=.fields #[.int lo t,.int s u,.int 1 v] }
 |.frz o u=>h.get? a=Y o/\bX H h a u
 |.tbl q=>∃ps,h.get? a=Y { cls:=.none,data:=.fields ps }/\TriplesOk ps.toList/\∀pos v,codeAmong pos ps.toList=Y v->∃c o y e t,v=.ref c/\H c=Y (.frz o (.own y))/\o.data=.fields e/\e[1]?=Y (.str q t)
 |.met f x=>h.get? a=Y (PySem.W.methodObj (.ref f) (.ref x))
 |.ext φ=>φ w h/\(∃o,h.get? a=Y o)/\∀m l:XAA,φ w m->(∀o,m.get? a=Y o->l.get? a=Y o)->φ w l
def Ju(H:Hp)(h:XAA):Prop:=∀a o,H a=Y o->bX P w H h a o
end
section
theorem bX.lt(x:bX P w H h a o):a<h.objs.size:=by
 cases o with
 |lst b=>obtain⟨_,_,_,_,e⟩:=x;exact ZO e
 |tup b=>obtain⟨_,_,_,_,p⟩:=x;exact p.lt
 |dK d=>obtain⟨_,_,_,_,o,_,_,e,_⟩:=x;exact ZO e
 |dT d=>obtain⟨_,_,_,_,o,_,_,e,_⟩:=x;exact ZO e
 |set S n=>obtain⟨o,_,_,_,e,_⟩:=x;exact ZO e
 |ins C i fs=>obtain⟨_,_,_,e,_⟩:=x;exact ZO e
 |own y=>obtain⟨_,e⟩:=x;exact ZO e
 |xd fs=>obtain⟨_,⟨_,_,_,e,_⟩,_⟩:=x;exact ZO e
 |rng lo g=>obtain⟨_,_,_,e⟩:=x;exact ZO e
 |frz ob u=>obtain⟨e,_⟩:=x;exact ZO e
 |tbl q=>obtain⟨_,e,_⟩:=x;exact ZO e
 |met f y=>exact ZO (show h.get? a=Y _ from x)
 |ext φ=>obtain⟨_,⟨_,e⟩,_⟩:=x;exact ZO e
theorem Paired.NF{α β:Type}{F G:α->β->Prop}:∀{e:List α}{d:List β},Paired F e d->(∀a b,F a b->G a b)->Paired G e d
 |_,_,.nil,_=>.nil
 |_,_,.cons r t,f=>.cons (f _ _ r) (Paired.NF t f)
def bX.L6{h':XAA}(x:bX P w H h a o)(k:∀b u,(b=a\/H b=Y (.own a))->h.get? b=Y u->h'.get? b=Y u)(J:∀b,H b=Y (.own a)->H' b=Y (.own a))(G:∀b l,H b=Y (.tup l)->H' b=Y (.tup l))(N:∀b o y,H b=Y (.frz o (.own y))->H' b=Y (.frz o (.own y))):bX P w H' h' a o:=by
 induction o with
 |lst l=>obtain⟨z,s,n,r,e⟩:=x;exact⟨z,s,n,r,k _ _ (.inl M) e⟩
 |tup l=>obtain⟨z,s,r,nd,g,e,c⟩:=x;exact⟨z,s,r,NS.of (k _ _ (.inl M) e) (nd _ e),g,k _ _ (.inl M) e,c⟩
 |dK Q=>obtain⟨z,y,m,r,g,i,j,e,c⟩:=x;exact⟨z,y,m,r,g,i,j,k _ _ (.inl M) e,c⟩
 |dT Q =>
  obtain⟨z,y,l,r,g,i,j,e,c⟩:=x;exact⟨z,y,l,Paired.NF r λp q z=>⟨z.1,G _ _ z.2.1,z.2.2⟩,g,i,j,k _ _ (.inl M) e,c⟩
 |set S n=>obtain⟨g,i,j,t,e,c⟩:=x;exact⟨g,i,j,t,k _ _ (.inl M) e,c⟩
 |ins C U fs =>
  obtain⟨d,z,ne,e,D,⟨A,i,j,e2,c⟩,r⟩:=x;exact⟨J _ d,z,ne,k _ _ (.inl M) e,D,⟨A,i,j,k _ _ (.inr d) e2,c⟩,r⟩
 |own y=>obtain⟨g,e⟩:=x;exact⟨g,k _ _ (.inl M) e⟩
 |xd fs=>obtain⟨D,⟨A,i,j,e,c⟩,r⟩:=x;exact⟨D,⟨A,i,j,k _ _ (.inl M) e,c⟩,r⟩
 |rng lo R=>obtain⟨t,u,v,e⟩:=x;exact⟨t,u,v,k _ _ (.inl M) e⟩
 |frz g u F=>obtain⟨e,q⟩:=x;exact⟨k _ _ (.inl M) e,F q⟩
 |tbl q =>
  obtain⟨ps,e,e1,e2⟩:=x;refine⟨ps,k a _ (.inl M) e,e1,λpos v r=>?_⟩;obtain⟨c,o,y,m,t,r1,r2,E⟩:=e2 pos v r;exact⟨c,o,y,m,t,r1,N _ _ _ r2,E⟩
 |met f y =>
  have e:h.get? a=Y (PySem.W.methodObj (.ref f) (.ref y)):=x;show h'.get? a=Y (PySem.W.methodObj (.ref f) (.ref y));exact k a _ (.inl M) e
 |ext φ=>obtain⟨p,⟨o,e⟩,st⟩:=x;exact⟨st _ _ p λo q=>k _ _ (.inl M) q,⟨o,k _ _ (.inl M) e⟩,st⟩
theorem Ju.lt(x:Ju P w H h)(e:H a=Y o):a<h.objs.size:=(x a o e).lt
def Ju.fresh(x:Ju P w H h)(e:h.objs.size<=a):H a=O:=by
 cases q:H a with
 |none=>rfl
 |some u=>exact absurd (ZZ (x.lt q) e) (YA _)
def Ju.kept{h':XAA}(x:Ju P w H h)(k:∀b u,h.get? b=Y u->h'.get? b=Y u):Ju P w H h':=λa o e =>
 (x a o e).L6 (λb u _ q=>k b u q) (λ_ q=>q) (λ_ _ q=>q) λ_ _ _ q=>q
def Ju.laid{h':XAA}(x:Ju P w H h)(k:∀b u,h.get? b=Y u->h'.get? b=Y u)(g:h.objs.size<=a)(d:bX P w (upd H a o) h' a o):Ju P w (upd H a o) h':=λb u e=>by
 have f:=x.fresh g;by_cases hb:b=a
 ·subst hb;rw[aw]at e;cases e;exact d
 ·rw[aE hb]at e;exact(x b u e).L6 (λc v _ q=>k c v q) (λc q=>by rw[aE (cF q f)];exact q) (λc i q=>by rw[aE (cF q f)];exact q) λc _ _ q=>by rw[aE (cF q f)];exact q
end
noncomputable def Rd(H:Hp)(a:KM)(u:HO):Prop:=H a=Y u\/∃o,H a=Y (.frz o u)
def Rd.ok(r:Rd H a u)(x:Ju P w H h):bX P w H h a u:=by
 rcases r with r | ⟨o,r⟩
 ·exact x a u r
 ·obtain⟨_,q⟩:=x a _ r;exact q
def Iy:Option HO->Prop
 |some (.lst _)=>True
 |some (.dK _)=>True
 |some (.dT _)=>True
 |some (.set _ _)=>True
 |some (.ins _ _ _)=>True
 |some (.ext _)=>True
 |_=>False
section
def Ju.write{h':XAA}(m:Ju P w H h)(a:Iy (H x))(he:e=x\/H e=Y (.own x))(k:∀b u,b≠e->h.get? b=Y u->h'.get? b=Y u)(p:∃u,h'.get? e=Y u)(i:bX P w (upd H x o') h' x o'):Ju P w (upd H x o') h':=λb u q=>by
 have l:∀c y,H c=Y (.own y)->c≠x:=λc y r z=>by subst z;rw[r]at a;exact a
 have o:∀c d,H c=Y (.tup d)->c≠x:=λc d r z=>by subst z;rw[r]at a;exact a
 by_cases hb:b=x
 ·subst hb;rw[aw]at q;cases q;exact i
 ·rw[aE hb]at q;by_cases g:b=e
  ·have j:H b=Y (.own x):=by
    rcases he with z | z
    ·exact absurd (g.trans z) hb
    ·rw[g];exact z
   rw[q]at j;cases j;obtain⟨v,n⟩:=p;exact⟨v,by rw[g];exact n⟩
  ·refine(m b u q).L6 (λc v f r=>k c v ?_ r) (λc r=>by rw[aE (l c b r)];exact r) (λc d r=>by rw[aE (o c d r)];exact r) λc _ _ r=>by rw[aE λz=>by subst z;rw[r]at a;exact a];exact r
   rcases f with rfl | f
   ·exact g
   ·rintro rfl;rcases he with z | z
    ·exact l c b f z
    ·rw[f]at z;cases z;exact hb M
end
structure Un(fs ex:Wp)(H H':Hp)(h h':XAA):Prop where
 keep:∀b o,h.get? b=some o->H b=none->b∉fs->b∉ex->h'.get? b=some o
 slot:∀b o,h.get? b=some o->H b=none->b∈fs->b∉ex->∃sl,h'.get? b=some { o with slots:=sl }
 free:∀b o,h.get? b=some o->H b=none->b∉ex->H' b=none
 there:∀b o,h.get? b=some o->b∉ex->∃o',h'.get? b=some o'
 KZ:∀b xs,H b=some (.tup xs)->H' b=some (.tup xs)
 KH:∀b o u,H b=some (.frz o u)->H' b=some (.frz o u)
 Kx:∀b q,H b=some (.tbl q)->H' b=some (.tbl q)
section
def Un.any(u:Un fs ex H H1 h h1)(q:h.get? b=Y d)(n:H b=O)(f:b∉ex):∃g,h1.get? b=Y { d with slots:=g }:=by
 by_cases hb:b∈fs
 ·exact u.slot b d q n hb f
 ·exact⟨d.slots,u.keep b d q n hb f⟩
def Un.kept{h h':XAA}(k:∀b u,h.get? b=Y u->h'.get? b=Y u):Un fs ex H H h h' :=
 ⟨λb d q _ _ _=>k b d q,λb d q _ _ _=>⟨d.slots,k b d q⟩,λ_ _ _ n _=>n,λb d q _=>⟨d,k b d q⟩,λ_ _ q=>q,λ_ _ _ q=>q,λ_ _ q=>q⟩
def Un.refl:Un fs ex H H h h:=Un.kept λ_ _ q=>q
def Un.laid{h h':XAA}(k:∀b u,h.get? b=Y u->h'.get? b=Y u)(g:h.objs.size<=a)(d:H a=O):Un fs ex H (upd H a o) h h' where
 keep:=λb u q _ _ _=>k b u q
 slot:=λb u q _ _ _=>⟨u.slots,k b u q⟩
 free:=λb u q n _=>by rw[aE (Ze (ZZ (ZO q) g))];exact n
 there:=λb u q _=>⟨u,k b u q⟩
 KZ:=λb f q=>by rw[aE (cF q d)];exact q
 KH:=λb u f q=>by rw[aE (cF q d)];exact q
 Kx:=λb n q=>by rw[aE (cF q d)];exact q
def Un.write{h h':XAA}(d:Iy (H x))(he:e=x\/H e=Y (.own x))(k:∀b u,b≠e->h.get? b=Y u->h'.get? b=Y u)(l:∃u,h'.get? e=Y u):Un fs ex H (upd H x o) h h':=by
 have g:∀b,H b=O->b≠x:=λb n z=>by subst z;rw[n]at d;exact d
 have hb:∀b,H b=O->b≠e:=λb n z=>by
  subst z;rcases he with r | r
  ·exact g b n r
  ·rw[n]at r;cases r
 have f:∀b u,H b=Y u->¬Iy (Y u)->b≠x:=λb u q nm z=>by subst z;rw[q]at d;exact nm d
 refine⟨λb u q n _ _=>k b u (hb b n) q,λb u q n _ _=>⟨u.slots,k b u (hb b n) q⟩,λb u q n _=>by rw[aE (g b n)];exact n,λb u q _=>?_,
  λb j q=>by rw[aE (f b _ q λz=>z)];exact q,λb u j q=>by rw[aE (f b _ q λz=>z)];exact q,λb n q=>by rw[aE (f b _ q λz=>z)];exact q⟩
 by_cases i:b=e
 ·subst i;exact l
 ·exact⟨u,k b u i q⟩
end
noncomputable def gone(v:On):Obj:=⟨v,O,.freed,#[]⟩
def wB(H:Hp)(a:KM)(o:Obj):Obj:=match H a with
 |some (.tbl q)=>gone (.str q 0)
 |some _=>gone .none
 |none=>match o.data with
  |.freed=>gone .none
  |_=>o
def oI(h:XAA)(H:Hp):Heap:=⟨h.objs.mapIdx λa o=>wB H a o,h.life⟩
def Tb(b:XAA)(a:KM)(q:Str):Prop:=b.objs[a]?=Y (gone (.str q 0))
def wH(h:XAA)(H:Hp):(oI h H).objs.size=h.objs.size:=Array.size_mapIdx
def pR(h:XAA)(H:Hp)(b:KM):(oI h H).objs[b]?=(h.objs[b]?).map (wB H b):=Array.getElem?_mapIdx
def mJ{h:XAA}:h.get? b=Y o↔h.objs[b]?=Y o/\o.data ≠ .freed:=by
 unfold Heap.get?;split
 ·rename_i e;exact⟨λz=>(nomatch z),λ⟨z,n⟩=>by rw[e]at z;cases z;exact absurd M n⟩
 ·rename_i n;exact⟨λz=>⟨z,λd=>by
   obtain⟨c,u,a,f⟩:=o;cases (show a=Data.freed from d);exact n _ _ _ z⟩,λz=>z.1⟩
def zE{h:XAA}(e:h.get? b=Y o)(n:H b=O):(oI h H).get? b=Y o:=by
 obtain⟨e1,e2⟩:=mJ.mp e;refine mJ.mpr ⟨?_,e2⟩;rw[pR,e1,Option.map_some];unfold wB;rw[n];cases h:o.data with
 |freed=>exact absurd h e2
 |_=>rfl
def Cr(e:(oI h H).get? b=Y o):h.get? b=Y o/\H b=O:=by
 obtain⟨e1,e2⟩:=mJ.mp e;rw[pR]at e1;obtain⟨u,e3,a⟩:=Zy.mp e1;unfold wB at a;cases q:H b with
 |some y =>
  rw[q]at a;cases y<;>(cases a;exact absurd M e2)
 |none =>
  rw[q]at a;refine⟨mJ.mpr ?_,rfl⟩;cases d:u.data with
  |freed=>rw[d]at a;cases a;exact absurd M e2
  |_ =>
   have f:u=o:=by rw[d]at a;exact a
   subst f;exact⟨e3,e2⟩
def BY:Tb (oI h H) b q↔H b=Y (.tbl q)/\b<h.objs.size:=by
 unfold Tb;rw[pR];constructor
 ·intro e;obtain⟨u,e3,a⟩:=Zy.mp e;refine⟨?_,(Array.getElem?_eq_some_iff.mp e3).1⟩;unfold wB at a;cases y:H b with
  |some f =>
   rw[y]at a;cases f with
   |tbl i=>cases a;rfl
   |_=>cases a
  |none =>
   rw[y]at a;cases d:u.data with
   |freed=>rw[d]at a;cases a
   |_ =>
    have g:u=gone (.str q 0):=by rw[d]at a;exact a
    rw[g]at d;cases d
 ·rintro⟨e,l⟩;rw[Y6 l,Option.map_some];unfold wB;rw[e]
noncomputable def B8(g h:XAA)(L:KM):Yw:=(List.range h.objs.size).filterMap λa=>if a=L\/(g.get? a).isSome=true then O else (h.get? a).map λo=>(a,o)
def rest(g h:XAA)(L d:KM):Yw:=(B8 g h L).filter λp=>decide (p.1≠d)
structure Mod(K:X0)(mg:Wq)(base:XAA):Prop where
 Sa:K.In base
 glob:base.Ns mainGlobals mg
 blt:∃mb,base.Ns builtinsNs mb/\∀x:Str,x ≠ "__name__" → mb x=bootBuiltins x
 nolimit:base.NoLimit
structure Cx where
 prog:Re
 w:XAB
 K:X0
 mg:Wq
 base:XAA
 A:SC
 N:List Str
 s₀:IR
 H₀:Hp
 env:Env
 outer:List Env
 stack:List Env
 ex:Wp
 fn:Str->Bool
 calm:Bool
 pn:Yw
 xe:Yx
abbrev K1(e:Expr)(l:List Expr)(X:Cx):Prop:=Pv (e :: l) X.env=(B,eval e X.env) :: Pv l X.env
abbrev K2(p:Pos)(l:List Expr)(X:Cx):Prop:=(backTo p (Pv l X.env)).any (·.1)=B
abbrev K3(x:Str):Prop:=(x==("__debug__" : Str))=B
abbrev K4(x:Str):Prop:=(x==("__classdict__" : Str))=B
noncomputable def JB(l:List Env):Wp:=l.filterMap (·.frame)
abbrev Cx.fs(X:Cx):Wp:=JB X.outer
noncomputable def Kf(a:Scope)(x:Str):Prop:=a.names.lookup x=Y .local\/a.names.lookup x=Y .cell\/a.names.lookup x=Y .free
noncomputable def Loc(a:Scope)(x:Str):Prop:=a.names.lookup x=Y .local\/a.names.lookup x=Y .cell
noncomputable def Look(a:Env)(h:XAA)(m:Wq)(x:Str)(u:On):Prop :=
 (a.kindOf x=Y .local/\m x=Y u)\/((a.kindOf x=Y .cell\/a.kindOf x=Y .free)/\∃c,a.cells.lookup x=Y c/\h.IsCell c (Y u))
structure Cx.Ok(X:Cx):Prop where
 mod:Mod X.K X.mg X.base
 kind:X.env.scope.kind=.function
 glob:X.env.globals=mainGlobals
 blt:X.env.builtins=builtinsNs
 above:X.s₀.heap.objs.size<=X.env.locals
 inj:∀x y c,X.env.cells.lookup x=some c->X.env.cells.lookup y=some c->x=y
 has:∀x,(X.env.kindOf x=some .cell\/X.env.kindOf x=some .free)->∃c,X.env.cells.lookup x=some c
 Ry:∀x c,X.fn x=true->X.env.cells.lookup x=some c->X.s₀.heap.objs.size<=c
 hd:X.calm=true->X.A.handled=none
 frames:X.A.frames=some X.stack
 RU:X.stack=X.outer\/(X.stack=X.env :: X.outer/\X.env.frame=some X.env.locals)
 exf:∀b∈X.ex,b≠X.env.locals/\∀x c,X.env.cells.lookup x=some c->c≠b
 tb:∀b q,Tb X.base b q->X.H₀ b=some (.tbl q)
 bs:∀b o,X.base.get? b=some o->X.s₀.heap.get? b=some o/\X.H₀ b=none
 NO:X.base.objs.size<=X.s₀.heap.objs.size
 ML:∀b o,X.base.get? b=some o->b∉X.ex
 NM:∀b∈X.ex,b∉X.fs
 JR:X.s₀.heap.FunFrames X.base X.outer
 OY:∀b∈X.fs,X.H₀ b=none
structure Inv(X:Cx)(pins:Yw)(J:List (Option V))(H:Hp)(s:IR):Prop where
 ok:X.Ok
 os:s.os=X.s₀.os
 bare:AllBare s.gens
 base:Un X.fs X.ex X.H₀ H X.s₀.heap s.heap
 loc:∃m,s.heap.Ns X.env.locals m/\∀(i:Nat)(x:Str)(v:V),X.N[i]?=some x->J[i]?=some (some v)->Kf X.env.scope x->∃u,RelV v u/\Look X.env s.heap m x u
 cell:∀x c,X.env.cells.lookup x=some c->∃v,s.heap.IsCell c v
 free:H X.env.locals=none
 Jm:∀x c,X.env.cells.lookup x=some c->H c=none
 pin:∀p∈X.pn++pins,s.heap.get? p.1=some p.2/\H p.1=none/\p.1≠X.env.locals/\p.1∉X.fs/\∀v,p.2.data ≠ .cell v
 Ip:Ju X.prog X.w H s.heap
 len:J.length=X.N.length
section
def Cx.Ok.Td{X:Cx}(a:X.Ok)(e:X.base.get? b=Y o):b∉X.fs:=λhb=>by
 have:=(a.JR.mem hb).1;rw[e]at this;cases this
theorem Inv.bs(I:`a_):∀b o,X.base.get? b=Y o->s.heap.get? b=Y o/\H b=O:=λb o e =>
 ⟨I.base.keep b o (I.ok.bs b o e).1 (I.ok.bs b o e).2 (I.ok.Td e) (I.ok.ML b o e),I.base.free b o (I.ok.bs b o e).1 (I.ok.bs b o e).2 (I.ok.ML b o e)⟩
theorem Inv.tb(I:`a_):∀b q,Tb X.base b q->H b=Y (.tbl q):=λb q e=>I.base.Kx b q (I.ok.tb b q e)
def Inv.bk(I:`a_):∀b o,X.base.get? b=Y o->s.heap.get? b=Y o:=λb o e=>(I.bs b o e).1
theorem Inv.mod(I:`a_):Mod X.K X.mg X.base:=I.ok.mod
def Inv.LS(I:`a_):X.K.In s.heap:=I.ok.mod.Sa.keeps I.bk
theorem Inv.lt(I:`a_):X.env.locals<s.heap.objs.size:=let ⟨_,a,_⟩:=I.loc;a.lt
def Inv.sz(I:`a_):X.s₀.heap.objs.size<=s.heap.objs.size:=ZL I.ok.above (ZS I.lt)
def Inv.Tc(I:`a_)(h:s.heap.objs.size<=a):a∉X.fs:=λhb=>by
 obtain⟨_,o,b,_⟩:=I.ok.JR.mem hb;exact absurd (ZZ (ZO b) (ZL I.sz h)) (YA _)
def Inv.O2(I:`a_):∀x c,X.env.cells.lookup x=Y c->c≠X.env.locals:=λx c e z=>by
 obtain⟨v,o,a,hd⟩:=I.cell x c e;obtain⟨m,⟨f,g,h,d,b,_⟩,_⟩:=I.loc;rw[z,d]at a;cases a;rw[b]at hd;cases hd
theorem Inv.JR(I:`a_):s.heap.FunFrames X.base X.outer:=by
 have all:∀(l:List Env),(∀b∈JB l,b∈X.fs)->X.s₀.heap.FunFrames X.base l->s.heap.FunFrames X.base l:=by
  intro l
  induction l with
  |nil=>intro _ _;trivial
  |cons env r g =>
   intro f m;obtain⟨n,⟨L,o,a,j,i,hd⟩,h⟩:=m;have d:L∈X.fs:=f L (by unfold JB;rw[VT,a];exact Zx);obtain⟨p,e⟩:=I.base.slot L o i (I.ok.OY L d) d λz=>I.ok.NM L z d;exact⟨n,⟨L,_,a,j,e,hd⟩,g (λb hb=>f b (by unfold JB;rw[VT,a];exact Zv _ hb)) h⟩
 exact all X.outer (λ_ hb=>hb) I.ok.JR
theorem Inv.stack(I:`a_):s.heap.FunFrames X.base X.stack:=by
 rcases I.ok.RU with e | ⟨e,b⟩
 ·rw[e];exact I.JR
 ·rw[e];obtain⟨m,a,_⟩:=I.loc;refine .cons (by rw[I.ok.kind];decide) b a ?_ I.JR;exact Heap.get?_none_of_le (ZL I.ok.NO I.ok.above)
def Inv.Kz(I:`a_):∀b∈JB X.stack,b∈X.env.locals :: X.fs:=λb hb=>by
 rcases I.ok.RU with e | ⟨e,a⟩
 ·rw[e]at hb;exact Zv _ hb
 ·rw[e]at hb;unfold JB at hb;rw[VT,a]at hb;exact hb
def Inv.LN(I:`a_):∀b∈JB X.stack,H b=O:=λb hb=>by
 rcases Zj.mp (I.Kz b hb) with e | hb
 ·rw[e];exact I.free
 ·obtain⟨_,o,a,_⟩:=I.ok.JR.mem hb;exact I.base.free b o a (I.ok.OY b hb) λz=>I.ok.NM b z hb
def Inv.step{h':XAA}{g':Array GenState}{t':Nat}{d':Drawn}{ch:Wp}(I:`a_)(E:∀b∈ch,(b∈X.ex\/X.s₀.heap.objs.size<=b)/\b≠X.env.locals/\(∀x c,X.env.cells.lookup x=Y c->c≠b)/\∀p∈X.pn++pins,p.1≠b)(g:∀b o,b≠X.env.locals->b∉X.fs->b∉ch->s.heap.get? b=Y o->H b=O->h'.get? b=Y o)(j:∀b o,b≠X.env.locals->b∈X.fs->b∉ch->s.heap.get? b=Y o->H b=O->∃N,h'.get? b=Y { o with slots:=N })(f:∀b o,b∉ch->s.heap.get? b=some o->H b=none->H' b=none)(t:∀b o,b∉ch->s.heap.get? b=Y o->∃A,h'.get? b=Y A)(KZ:∀b h,H b=Y (.tup h)->H' b=Y (.tup h))(KH:∀b o u,H b=Y (.frz o u)->H' b=Y (.frz o u))(Kx:∀b q,H b=Y (.tbl q)->H' b=Y (.tbl q))(S:∀m,s.heap.Ns X.env.locals m->h'.Ns X.env.locals m)(Ip:Ju X.prog X.w H' h')(hg:AllBare g') :
  Inv X pins J H' { s with heap:=h',gens:=g',drawn:=d',toks:=t' }:=by
 have C:∀b o,X.s₀.heap.get? b=Y o->b≠X.env.locals:=λb o e=>Ze (ZZ (ZO e) I.ok.above);have F:∀b o,X.s₀.heap.get? b=Y o->b∉X.ex->b∉ch:=λb o e a hb=>by
  rcases (E b hb).1 with z | z
  ·exact a z
  ·exact absurd (ZZ (ZO e) z) (YA _)
 have cellK:∀x c,X.env.cells.lookup x=Y c->∀v,s.heap.IsCell c v->h'.IsCell c v:=λx c e v ⟨o,y,hd⟩=>by
  have D:c∉ch:=λz=>(E c z).2.2.1 x c e M;by_cases R:c∈X.fs
  ·obtain⟨N,q⟩:=j c o (I.O2 x c e) R D y (I.Jm x c e);exact⟨_,q,hd⟩
  ·exact⟨o,g c o (I.O2 x c e) R D y (I.Jm x c e),hd⟩
 refine⟨I.ok,I.os,hg,⟨λb o e n hb a=>?_,λb o e n hb a=>?_,λb o e n a=>?_,λb o e a=>?_,λb h e=>KZ b h (I.base.KZ b h e),λb o h e=>KH b o h (I.base.KH b o h e),λb q e=>Kx b q (I.base.Kx b q e)⟩,?_,λx c e=>?_,?_,λx c e=>?_,λp Q=>?_,Ip,I.len⟩
 ·exact g b o (C b o e) hb (F b o e a) (I.base.keep b o e n hb a) (I.base.free b o e n a)
 ·obtain⟨N,e1⟩:=I.base.slot b o e n hb a;obtain⟨G,e2⟩:=j b _ (C b o e) hb (F b o e a) e1 (I.base.free b o e n a);exact⟨G,e2⟩
 ·obtain⟨A,e1⟩:=I.base.there b o e a;exact f b A (F b o e a) e1 (I.base.free b o e n a)
 ·obtain⟨A,e1⟩:=I.base.there b o e a;exact t b A (F b o e a) e1
 ·obtain⟨m,U,Z⟩:=I.loc;refine⟨m,S m U,λi x v e1 e2 e3=>?_⟩;obtain⟨u,r,l⟩:=Z i x v e1 e2 e3;refine⟨u,r,?_⟩;rcases l with l | ⟨k,c,e,z⟩
  ·exact .inl l
  ·exact .inr ⟨k,c,e,cellK x c e _ z⟩
 ·obtain⟨v,z⟩:=I.cell x c e;exact⟨v,cellK x c e v z⟩
 ·obtain⟨m,⟨o,_,_,y,_⟩,_⟩:=I.loc;exact f _ o (λz=>(E _ z).2.1 M) y I.free
 ·obtain⟨v,o,y,hd⟩:=I.cell x c e;exact f c o (λz=>(E c z).2.2.1 x c e M) y (I.Jm x c e)
 ·obtain⟨e,n,ne,P,d⟩:=I.pin p Q;have D:p.1∉ch:=λz=>(E p.1 z).2.2.2 p Q M;exact⟨g p.1 p.2 ne P D e n,f p.1 p.2 D e n,ne,P,d⟩
def Inv.un{t':Nat}(I:`a_)(u:Un X.fs [] H H' s.heap h')(l:Ju X.prog X.w H' h'):Inv X pins J H' { s with heap:=h',toks:=t' }:=by
 obtain⟨m,⟨o,v,x,a,r⟩,_⟩:=id I.loc;obtain⟨p,h⟩:=u.any a I.free (by simp);exact I.step (g':=s.gens) (d':=s.drawn) (ch:=[]) (λ_ z=>nomatch z) (λb o _ hb _ e n=>u.keep b o e n hb (by simp)) (λb o _ hb _ e n=>u.slot b o e n hb (by simp)) (λb o _ e n=>u.free b o e n (by simp)) (λb o _ e=>u.there b o e (by simp)) u.KZ u.KH u.Kx (λt g=>by
  obtain⟨q,j,i,d,f⟩:=g;rw[a]at d;cases d;exact⟨_,j,i,h,f⟩) l I.bare
def Inv.call{g':Array GenState}{t':Nat}{d':Drawn}{ch:Wp}(I:`a_)(u:Un (JB X.stack) ch H H' s.heap h')(v:Ju X.prog X.w H' h')(l:AllBare g')(g:∀b∈ch,(b∈X.ex\/X.s₀.heap.objs.size<=b)/\b≠X.env.locals/\(∀x c,X.env.cells.lookup x=Y c->c≠b)/\∀p∈X.pn++pins,p.1≠b) :
  Inv X pins J H' { s with heap:=h',gens:=g',drawn:=d',toks:=t' }:=by
 obtain⟨m,⟨o,D,E,f,r⟩,_⟩:=id I.loc;obtain⟨y,d⟩:=u.any f I.free λz=>(g _ z).2.1 M;exact I.step (ch:=ch) g (λb o d hb a e n=>u.keep b o e n (λz=>(Zj.mp (I.Kz b z)).elim d hb) a) (λb o _ _ a e n=>u.any e n a) (λb o a e n=>u.free b o e n a) (λb o a e=>u.there b o e a) u.KZ u.KH u.Kx (λC j=>by
  obtain⟨A,t,q,h,i⟩:=j;rw[f]at h;cases h;exact⟨_,t,q,d,i⟩) v l
def Inv.turned{h':XAA}{t':Nat}{it:KM}(I:`a_)(k:∀b o,b≠it->s.heap.get? b=Y o->h'.get? b=Y o)(h:H it=O)(f:it≠X.env.locals)(t:it∈X.ex\/X.s₀.heap.objs.size<=it)(l:∀x c,X.env.cells.lookup x=Y c->c≠it)(j:∀p∈X.pn++pins,p.1≠it):Inv X pins J H { s with heap:=h',toks:=t' }:=by
 have d:∀b u,H b=Y u->b≠it:=λb u e z=>by rw[z,h]at e;cases e
 refine I.step (g':=s.gens) (d':=s.drawn) (ch:=[it]) (λb hb=>?_) (λb o _ _ a e _=>k b o (λz=>a (by simp[z])) e) (λb o _ _ a e _=>⟨o.slots,k b o (λz=>a (by simp[z])) e⟩) (λ_ _ _ _ n=>n)
  (λb o a e=>⟨o,k b o (λz=>a (by simp[z])) e⟩) (λ_ _ e=>e) (λ_ _ _ e=>e) (λ_ _ e=>e) (λm i=>?_) (λb u e=>?_) I.bare
 ·have e:b=it:=by simpa using hb
  subst e;exact⟨t,f,l,j⟩
 ·obtain⟨o,w,y,g,r⟩:=i;exact⟨o,w,y,k _ o (YH f) g,r⟩
 ·refine(I.Ip b u e).L6 (λc v a q=>k c v ?_ q) (λ_ q=>q) (λ_ _ q=>q) λ_ _ _ q=>q;rcases a with z | z
  ·rw[z];exact d b u e
  ·exact d c _ z
def Inv.tok(I:`a_)(t:Nat):Inv X pins J H { s with toks:=t }:=I.un (h':=s.heap) (t':=t) Un.refl I.Ip
theorem Inv.kept{h':XAA}{t':Nat}(I:`a_)(k:∀b u,s.heap.get? b=Y u->h'.get? b=Y u):Inv X pins J H { s with heap:=h',toks:=t' }:=I.un (Un.kept k) (I.Ip.kept k)
theorem Inv.laid{h':XAA}{a:KM}{o:HO}{t':Nat}(I:`a_)(k:∀b u,s.heap.get? b=Y u->h'.get? b=Y u)(e:s.heap.objs.size<=a)(d:bX X.prog X.w (upd H a o) h' a o) :
  Inv X pins J (upd H a o) { s with heap:=h',toks:=t' }:=I.un (Un.laid k e (I.Ip.fresh e)) (I.Ip.laid k e d)
theorem Inv.write{h':XAA}{x e:KM}(I:`a_)(d:Iy (H x))(he:e=x\/H e=Y (.own x))(k:∀b u,b≠e->s.heap.get? b=Y u->h'.get? b=Y u)(f:∃u,h'.get? e=Y u)(a:bX X.prog X.w (upd H x o) h' x o):Inv X pins J (upd H x o) { s with heap:=h',toks:=g }:=I.un (Un.write d he k f) (I.Ip.write d he k f a)
def Inv.LO(I:`a_)(h:∀p∈a,s.heap.get? p.1=Y p.2/\H p.1=O/\p.1≠X.env.locals/\p.1∉X.fs/\∀v,p.2.data ≠ .cell v):Inv X a J H s :=
 ⟨I.ok,I.os,I.bare,I.base,I.loc,I.cell,I.free,I.Jm,λp b=>(Zi.mp b).elim (λz=>I.pin p (LH _ z)) (h p),I.Ip,I.len⟩
def rX{N:List Str}(d:N.Nodup){i j:Nat}{x:Str}(a:N[i]?=Y x)(b:N[j]?=Y x):i=j:=by
 obtain⟨f,e1⟩:=ZW.mp a;obtain⟨e,e2⟩:=ZW.mp b;exact(List.getElem_inj d).mp (e1.trans e2.symm)
def oZ{v:V}(I:`a_)(hN:X.N.Nodup)(G:X.N[i]?=Y x)(l:Loc X.env.scope x)(r:RelV v u)(h:∀s',Inv X pins (J.set i (Y v)) H s'->(∃a,Heap.SameBut a s.heap s'.heap/\(a=X.env.locals\/X.env.cells.lookup x=Y a))->Q () s')(hf:X.fn x=L\/X.env.scope.names.lookup x=Y .local:=by first | exact .inl rfl | exact .inr rfl | assumption):PP Mq0 A (storeName X.env x u) Q E s:=by
 obtain⟨m,hn,hl⟩:=id I.loc;have Ue:(X.env.scope.kind == .class||(X.env.scope.kind == .module&&X.env.locals != X.env.globals))=B:=by rw[I.ok.kind];rfl
 have F:i<J.length:=by rw[I.len];exact(ZW.mp G).1
 have O2:=I.O2;have tracked:∀{a:KM}{h':XAA},(∃o,s.heap.get? a=Y o/\H a=O)->Heap.SameBut a s.heap h'->Ju X.prog X.w H h':=λ{a h'} ha f b ob e=>by
  obtain⟨_,_,Oa⟩:=ha;refine(I.Ip b ob e).L6 (λc P g q=>(f.2 c ?_).trans q) (λ_ q=>q) (λ_ _ q=>q) λ_ _ _ q=>q;rintro rfl;rcases g with rfl | g
  ·rw[Oa]at e;cases e
  ·rw[Oa]at g;cases g
 rcases l with t | t
 ·refine wpAny_storeName_local t hn (λh' hn' f=>?_) Ue;obtain⟨oL,_,_,NJ,_⟩:=id hn;refine h _ ⟨I.ok,I.os,I.bare,⟨λb o e n hb l=>?_,λb o e n hb l=>?_,I.base.free,λb o e l=>?_,I.base.KZ,I.base.KH,I.base.Kx⟩,⟨_,hn',λj y S e1 e2 e3=>?_⟩,λy c e=>?_,I.free,I.Jm,λp hp=>?_,tracked ⟨oL,NJ,I.free⟩ f,by simpa using I.len⟩ ⟨_,f,.inl rfl⟩
  ·exact(f.2 b (Ze (ZZ (ZO e) I.ok.above))).trans (I.base.keep b o e n hb l)
  ·obtain⟨Z,e1⟩:=I.base.slot b o e n hb l;exact⟨Z,(f.2 b (Ze (ZZ (ZO e) I.ok.above))).trans e1⟩
  ·obtain⟨o',e1⟩:=I.base.there b o e l;exact⟨o',(f.2 b (Ze (ZZ (ZO e) I.ok.above))).trans e1⟩
  ·by_cases C:j=i
   ·subst C;rw[G]at e1;cases e1;rw[Wg F]at e2;cases e2;exact⟨u,r,.inl ⟨t,by simp⟩⟩
   ·rw[YT (YH C)]at e2;obtain⟨U,r',q⟩:=hl j y S e1 e2 e3;refine⟨U,r',?_⟩;rcases q with⟨k,e⟩ | ⟨k,c,e,z⟩
    ·refine .inl ⟨k,?_⟩;have:y≠x:=λe=>C (rX hN e1 (e ▸ G));simp[this,e]
    ·exact .inr ⟨k,c,e,z.sameBut f (O2 y c e)⟩
  ·obtain⟨P,z⟩:=I.cell y c e;exact⟨P,z.sameBut f (O2 y c e)⟩
  ·obtain⟨e,n,ne,nf,d⟩:=I.pin p hp;exact⟨(f.2 p.1 ne).trans e,n,ne,nf,d⟩
 ·have Ua:X.fn x=L:=by
   rcases hf with z | z
   ·exact z
   ·rw[z]at t;cases t
  obtain⟨c,g⟩:=I.ok.has x (.inl t);obtain⟨P,z⟩:=I.cell x c g;refine wpAny_storeName_cell I.ok.kind t g z (λh' Jy f=>?_);obtain⟨oc,D,TL⟩:=id z;refine h { s with heap:=h' } ⟨I.ok,I.os,I.bare,⟨λb o e n hb l=>?_,λb o e n hb l=>?_,I.base.free,λb o e l=>?_,I.base.KZ,I.base.KH,I.base.Kx⟩,⟨m,hn.sameBut f (YH (O2 x c g)),λj y S e1 e2 e3=>?_⟩,λy R e=>?_,I.free,I.Jm,λp hp=>?_,tracked ⟨oc,D,I.Jm x c g⟩ f,by simpa using I.len⟩ ⟨c,f,.inr g⟩
  ·exact(f.2 b (Ze (ZZ (ZO e) (I.ok.Ry x c Ua g)))).trans (I.base.keep b o e n hb l)
  ·obtain⟨Z,e1⟩:=I.base.slot b o e n hb l;exact⟨Z,(f.2 b (Ze (ZZ (ZO e) (I.ok.Ry x c Ua g)))).trans e1⟩
  ·obtain⟨o',e1⟩:=I.base.there b o e l;exact⟨o',(f.2 b (Ze (ZZ (ZO e) (I.ok.Ry x c Ua g)))).trans e1⟩
  ·by_cases C:j=i
   ·subst C;rw[G]at e1;cases e1;rw[Wg F]at e2;cases e2;exact⟨u,r,.inr ⟨.inl t,c,g,Jy⟩⟩
   ·rw[YT (YH C)]at e2;obtain⟨U,r',q⟩:=hl j y S e1 e2 e3;refine⟨U,r',?_⟩;rcases q with q | ⟨k,R,e,z'⟩
    ·exact .inl q
    ·refine .inr ⟨k,R,e,z'.sameBut f ?_⟩;rintro rfl;exact C (rX hN e1 (I.ok.inj _ _ _ e g ▸ G))
  ·by_cases M:R=c
   ·subst M;exact⟨_,Jy⟩
   ·obtain⟨w2,z2⟩:=I.cell y R e;exact⟨w2,z2.sameBut f M⟩
  ·obtain⟨e,n,ne,nf,d⟩:=I.pin p hp;refine⟨(f.2 p.1 ?_).trans e,n,ne,nf,d⟩;intro q;rw[q,D]at e;have q':oc=p.2:=Zh e;exact d P (by rw[← q'];exact TL)
def r9(I:`a_)(g:X.N.Nodup)(e:X.N[i]?=Y x)(d:Loc X.env.scope x)(r:RelV v u)(h:∀a,Inv X pins (J.set i (Y v)) H a->Q () a)(f:X.fn x=L\/X.env.scope.names.lookup x=Y .local:=by first | exact .inl rfl | exact .inr rfl | assumption):PP b A (storeName X.env x u) Q E s :=
 oZ I g e d r (λa j _=>h a j) f
def Inv.Rx{a:IR}{ch:Wp}(I:`a_)(f:a.os=s.os)(u:Un (JB X.stack) ch H H' s.heap a.heap)(i:Ju X.prog X.w H' a.heap)(g:AllBare a.gens)(h:∀b∈ch,(b∈X.ex\/X.s₀.heap.objs.size<=b)/\b≠X.env.locals/\(∀x c,X.env.cells.lookup x=Y c->c≠b)/\∀p∈X.pn++pins,p.1≠b):Inv X pins J H' a:=by
 obtain⟨h',g',d',t',d⟩:=a;have e:d=s.os:=f;subst e;exact I.call (g':=g') (t':=t') (d':=d') u i g h
end
abbrev XK:=On->Option KM->Hp->Prop
noncomputable abbrev St:=List (Option V)
abbrev VK:=V->Hp->Prop
abbrev TE:=St->Hp->VK->Prop
abbrev TT:=St->Hp->(Bool->Hp->Prop)->Prop
abbrev TA:=St->Hp->(List V->Hp->Prop)->Prop
structure Ends where
 nx:St->Hp->Prop
 rt:VK
 bk:St->Hp->Prop:=λ_ _=>False
 ct:St->Hp->Prop:=λ_ _=>False
abbrev TS:=Ends->St->Hp->Prop
def EP(X:Cx)(a:Yw)(J:St)(Q:VK)(u:On)(d:IR):Prop:=∃v b,Inv X a J b d/\RelV v u/\Q v b
noncomputable def TP(X:Cx)(a:Yw)(J:St)(Q:Bool->Hp->Prop)(b:Bool)(e:IR):Prop:=∃d,Inv X a J d e/\Q b d
def AP(X:Cx)(a:Yw)(J:St)(Q:List V->Hp->Prop)(e:W7)(f:IR):Prop:=∃b d,Inv X a J d f/\aQ b e/\Q b d
def SP(X:Cx)(a:Yw)(D:Ends)(f:Flow)(e:IR):Prop :=
 match f with
 |.next=>∃d b,Inv X a d b e/\D.nx d b
 |.brk=>∃d b,Inv X a d b e/\D.bk d b
 |.cont=>∃d b,Inv X a d b e/\D.ct d b
 |.ret u=>∃v d b,Inv X a d b e/\RelV v u/\D.rt v b
def PE(X:Cx)(e:Expr)(t:TE):Prop :=
 ∀(a:Yw)(s:IR)(J:St)(H:Hp)(Q:VK),Inv X a J H s->t J H Q->PP `ay X.A (eval e X.env) (EP X a J Q) X.xe s
def PT(X:Cx)(e:Expr)(t:TT):Prop :=
 ∀(a:Yw)(s:IR)(J:St)(H:Hp)(Q:Bool->Hp->Prop),Inv X a J H s->t J H Q->PP `ay X.A (isTrue e X.env (eval e X.env)) (TP X a J Q) X.xe s
def PW(X:Cx)(e:Expr)(t:TT):Prop :=
 ∀(whole:Sem On)(a:Yw)(s:IR)(J:St)(H:Hp)(Q:Bool->Hp->Prop),Inv X a J H s->t J H Q->PP `ay X.A (isTrue e X.env whole) (TP X a J Q) X.xe s
def PW.pt(h:PW X e t):PT X e t:=h _
def PA(X:Cx)(b:List Expr)(t:TA):Prop :=
 ∀(pos:Pos)(a:Yw)(s:IR)(J:St)(H:Hp)(Q:List V->Hp->Prop),Inv X a J H s->t J H Q->PP `ay X.A (spliced (backTo pos (Pv b X.env))) (AP X a J Q) X.xe s
def PS(X:Cx)(b:Stmt)(t:TS):Prop :=
 ∀(a:Yw)(s:IR)(J:St)(H:Hp)(D:Ends),Inv X a J H s->t D J H->PP `ay X.A (exec b X.env) (SP X a D) X.xe s
def Kp(X:Cx)(b:List Stmt)(t:TS):Prop :=
 ∀(a:Yw)(s:IR)(J:St)(H:Hp)(D:Ends),Inv X a J H s->t D J H->PP `ay X.A (execs b X.env) (SP X a D) X.xe s
def thn{α:Type}{t:Sem α}{Q b:α->IR->Prop}{M:Model}(h:PP M A t Q E s)(d:∀a s,Q a s->b a s):PP M A t b E s:=Y7 h d λ_ _ x=>x
section
noncomputable def GA(i:Nat):TE:=λJ H Q=>∃v,J[i]?=Y (Y v)/\Q v H
noncomputable def tC(v:V):TE:=λ_ H Q=>Q v H
def d8{X:Cx}(w:X.N[i]?=Y x)(o:Kf X.env.scope x)(f:{`q0,K3 x})(g:{`q0,K4 x}):PE X (.Name x d) (GA i):=by
 intro b s J H Q I h;obtain⟨v,e,h⟩:=h;obtain⟨m,p,t⟩:=I.loc;obtain⟨u,r,l⟩:=t i x v w e o;have fin:EP X b J Q u s:=⟨v,H,I,r,h⟩
 rcases l with⟨a,q⟩ | ⟨a,c,j,n⟩
 ·exact wpAny_Name (wpAny_loadName_local I.ok.kind a p q fin) f
 ·rcases a with a | a
  ·exact wpAny_Name (wpAny_loadName_cell I.ok.kind a j n fin) f
  ·exact wpAny_Name (wpAny_loadName_free I.ok.kind a j n fin g) f
def pO{i j pos}:PE X (.Constant (.int i) j pos) (tC (.int i)):=λ_ _ _ H _ I h=>wpAny_Constant_int ⟨.int i,H,I.tok _,⟨_,rfl⟩,h⟩
def G9{b j pos}:PE X (.Constant (.bool b) j pos) (tC (.bl b)):=λ_ _ _ H _ I h=>Constant_bool ⟨.bl b,H,I,rfl,h⟩
def DL{j pos}:PE X (.Constant .none j pos) (tC .non):=λ_ _ _ H _ I h=>Constant_none ⟨.non,H,I,rfl,h⟩
def D2{x j pos}:PE X (.Constant (.str x) j pos) (tC (.str x)):=λ_ _ _ H _ I h=>Calls.Constant_str ⟨.str x,H,I.tok _,⟨_,rfl⟩,h⟩
noncomputable def Gl(X:Cx)(x:Str):Prop:=X.env.kindOf x=Y .globalImplicit
def uW(I:Inv X a J H s)(e:Gl X x)(d:X.mg x=Y u)(h:Q u s)(f:{`q0,K3 x}):PP `ay X.A (eval (.Name x b) X.env) Q E s :=
 Calls.Name_function_global I.ok.kind e (Calls.loadGlobal_global (by rw[I.ok.glob];exact I.mod.glob.keeps I.bk) d h) f
def p9(I:Inv X a J H s)(g:Gl X x)(f:X.mg x=O)(d:bootBuiltins x=Y u)(h:Q u s)(e:{`q0,x ≠ "__name__"})(i:{`q0,K3 x}):PP `ay X.A (eval (.Name x b) X.env) Q E s:=by
 obtain⟨m,l,j⟩:=I.mod.blt;exact Calls.Name_function_global I.ok.kind g (Calls.loadGlobal_builtin (by rw[I.ok.glob];exact I.mod.glob.keeps I.bk) f (by rw[I.ok.blt];exact l.keeps I.bk) ((j x e).trans d) h) i
def PC(X:Cx)(g:CmpOp)(a b:Expr)(t:TE):Prop :=
 ∀(d:Yw)(s:IR)(J:St)(H:Hp)(Q:VK),Inv X d J H s->t J H Q →
  PP `ay X.A (eval a X.env) (λv f=>PP `ay X.A (eval b X.env) (λu e=>PP `ay X.A (UV g v u) (EP X d J Q) X.xe e) X.xe f) X.xe s
def zc(b:Expr)(h:d ≠ .In)(e:d ≠ .NotIn):behindInMarks d b=B:=by
 have e1:(d==CmpOp.In)=B:=by cases d<;>first | rfl | exact absurd M h
 have e2:(d==CmpOp.NotIn)=B:=by cases d<;>first | rfl | exact absurd M e
 cases b<;>simp[behindInMarks,e1,e2]
noncomputable def HF(ta:TE):TE:=λJ H Q=>ta J H λx d=>Q (.bl (decide (x=.non))) d
noncomputable def GL(ta:TE):TE:=λJ H Q=>ta J H λx d=>Q (.bl (!decide (x=.non))) d
def RelV.K8(r:RelV x v):(v==Value.none)=decide (x=.non):=by
 cases x with
 |non=>cases r;rfl
 |bl _=>cases r;rfl
 |int _=>obtain⟨t,rfl⟩:=r;rfl
 |str _=>obtain⟨t,rfl⟩:=r;rfl
 |byt _=>obtain⟨t,rfl⟩:=r;rfl
 |flt _=>obtain⟨t,rfl⟩:=r;rfl
 |ref _=>cases r;rfl
 |ty _=>cases r;rfl
def D4{j pos'}(f:PE X a ta):PC X .Is a (.Constant .none j pos') (HF ta):=by
 intro d s J H Q I h;refine thn (f d s J H _ I h) λv s1 ⟨x,i,g,r1,e⟩=>?_;exact Constant_none (is_none_gen ⟨.bl _,i,g,by rw[r1.K8];rfl,e⟩)
def Bm{j pos'}(f:PE X a ta):PC X .IsNot a (.Constant .none j pos') (GL ta):=by
 intro d s J H Q I h;refine thn (f d s J H _ I h) λv s1 ⟨x,i,g,r1,e⟩=>?_;exact Constant_none (isnot_none_gen ⟨.bl _,i,g,by rw[r1.K8];rfl,e⟩)
noncomputable def tB(t:TE):TT:=λJ H Q=>t J H λx d=>∃c,x=.bl c/\Q c d
def yq(h:PC X f a b t)(g:behindInMarks f b=B:=by first | exact zc _ `ao `ao | rfl):PT X (.Compare a [f] [b] pos) (tB t):=by
 intro e s J H Q I hw;refine wpAny_isTrue_Compare1 (thn (h e s J H _ I hw) λv s1 g=>thn g λu o j=>thn j λc n ⟨x,m,l,r1,i⟩=>?_) g;obtain⟨d,rfl,q⟩:=i;cases r1;exact X3 ⟨m,l,q⟩
noncomputable def HB(t u:TT):TT:=λJ H Q=>t J H λc d=>if c=L then u J d Q else Q B d
noncomputable def tOr(t u:TT):TT:=λJ H Q=>t J H λc d=>if c=L then Q L d else u J d Q
noncomputable def Ik(t:TT):TT:=λJ H Q=>t J H λc d=>Q (!c) d
def qN(f:PT X a tA):PW X (.BoolOp .And [a] pos) tA:=by
 intro g d s J H Q I h;refine isTrue_and (thn (f d s J H Q I h) λc s1 e=>?_);cases c with
 |true=>exact isTrue_and_nil e
 |false=>exact e
def uU(f:PT X a tA):PW X (.BoolOp .Or [a] pos) tA:=by
 intro g d s J H Q I h;refine isTrue_or (thn (f d s J H Q I h) λc s1 e=>?_);cases c with
 |false=>exact isTrue_or_nil e
 |true=>exact e
def zI{X:Cx}{a:Expr}{pos:Pos}{tA RT:TT}{rest:List Expr}(l:PT X a tA)(j:PW X (.BoolOp .And (b :: rest) pos) RT):PW X (.BoolOp .And (a :: b :: rest) pos) (HB tA RT):=by
 intro i d s J H Q I h;refine isTrue_and (thn (l d s J H _ I h) λc s1 ⟨g,f,e⟩=>?_);cases c with
 |true=>exact j i d s1 J g Q f e
 |false=>exact⟨g,f,e⟩
def Do{X:Cx}{a:Expr}{pos:Pos}{tA RT:TT}{rest:List Expr}(l:PT X a tA)(j:PW X (.BoolOp .Or (b :: rest) pos) RT):PW X (.BoolOp .Or (a :: b :: rest) pos) (tOr tA RT):=by
 intro i d s J H Q I h;refine isTrue_or (thn (l d s J H _ I h) λc s1 ⟨g,f,e⟩=>?_);cases c with
 |true=>exact⟨g,f,e⟩
 |false=>exact j i d s1 J g Q f e
def FL(e:PT X a tA):PT X (.UnaryOp .Not a pos) (Ik tA):=by
 intro d s J H Q I h;exact isTrue_not (e d s J H (λc f=>Q (!c) f) I h)
end
def IF(K:X0)(H:Hp)(a:KM)(d:List V):Prop :=
 Rd H a (.lst d) ∨
  ∃(o:Obj)(b:Array On)(n:Nat),K.lookup a=Y o/\o.cls=.type "list" ∧ o.dict=O/\o.data=.seq b n/\b.size<=KF/\aQ d b.toList
def Jt(K:X0)(H:Hp)(a:KM)(d:List V):Prop :=
 Rd H a (.tup d) ∨
  ∃(o:Obj)(b:Array On)(n:Nat),K.lookup a=Y o/\o.cls=.type "tuple" ∧ o.data=.seq b n/\b.size<=KF/\aQ d b.toList
noncomputable def Ib:On->Option V
 |.none=>Y .non
 |.bool b=>Y (.bl b)
 |.int i _=>Y (.int i)
 |.str x _=>Y (.str x)
 |.bytes b _=>Y (.byt b)
 |.float b _=>Y (.flt b)
 |.ref a=>Y (.ref a)
 |.type n=>Y (.ty n)
 |_=>O
def RelV.abs(r:RelV x u):Ib u=Y x:=by
 cases x with
 |non=>cases r;rfl
 |bl _=>cases r;rfl
 |int _=>obtain⟨t,rfl⟩:=r;rfl
 |str _=>obtain⟨t,rfl⟩:=r;rfl
 |byt _=>obtain⟨t,rfl⟩:=r;rfl
 |flt _=>obtain⟨t,rfl⟩:=r;rfl
 |ref _=>cases r;rfl
 |ty _=>cases r;rfl
def RelV.inj(r:RelV x u)(q:RelV y u):x=y:=Zh (r.abs.symm.trans q.abs)
theorem aQ.inj:∀{b a:List V}{d:W7},aQ b d->aQ a d->b=a
 |_,_,_,.nil,.nil=>rfl
 |_,_,_,.cons r t,.cons f e=>by rw[r.inj f,aQ.inj t e]
section
def IF.of{K:X0}(h:H a=Y (.lst xs)):IF K H a xs:=.inl (.inl h)
def Jt.of{K:X0}(h:H a=Y (.tup xs)):Jt K H a xs:=.inl (.inl h)
def Inv.list(I:`a_)(h:IF X.K H a xs):∃b:W7,aQ xs b/\PlainL s.heap a b.toArray/\xs.length<=sizeLine:=by
 rcases h with h | ⟨o,b,n,f,g,hd,d,i,r⟩
 ·obtain⟨z,b,n,r,e⟩:=h.ok I.Ip;exact⟨b,r,⟨_,n,e,rfl,rfl,rfl⟩,z⟩
 ·refine⟨b.toList,r,⟨o,n,I.LS a o f,g,hd,by simpa using d⟩,?_⟩;have e:=r.length;simp only[KL]at e;lia
def Inv.tuple(I:`a_)(h:Jt X.K H a xs):∃b:W7,aQ xs b/\IsTup s.heap a b.toArray/\xs.length<=sizeLine:=by
 rcases h with h | ⟨o,b,n,f,g,d,i,r⟩
 ·obtain⟨z,b,r,_,p⟩:=h.ok I.Ip;exact⟨b,r,p,z⟩
 ·refine⟨b.toList,r,⟨o,I.LS a o f,g,n,by simpa using d⟩,?_⟩;have e:=r.length;simp only[KL]at e;lia
def Inv.La(I:`a_)(h:IF X.K H a xs)(l:IF X.K H a ys):xs=ys:=by
 obtain⟨j,r,⟨o,n,e,_,_,d⟩,_⟩:=I.list h;obtain⟨b,i,⟨m,p,f,_,_,g⟩,_⟩:=I.list l;rw[e]at f;cases f;rw[d]at g;injection g with d1 _
 have:j=b:=by simpa using congrArg Array.toList d1
 subst this;exact r.inj i
def Inv.L5(I:`a_)(h:Jt X.K H a xs)(l:Jt X.K H a ys):xs=ys:=by
 obtain⟨j,r,⟨o,e,_,n,d⟩,_⟩:=I.tuple h;obtain⟨b,i,⟨m,f,_,p,g⟩,_⟩:=I.tuple l;rw[e]at f;cases f;rw[d]at g;injection g with d1 _
 have:j=b:=by simpa using congrArg Array.toList d1
 subst this;exact r.inj i
end
noncomputable abbrev Cx.Kj(X:Cx)(E:Yx):Cx:={ X with xe:=E }
abbrev Cx.LP(X:Cx):Cx:=X.Kj λ_ _=>False
theorem Cx.Ok.Kj{X:Cx}(a:X.Ok)(E:Yx):(X.Kj E).Ok :=
 ⟨a.mod,a.kind,a.glob,a.blt,a.above,a.inj,a.has,a.Ry,a.hd,a.frames,a.RU,a.exf,a.tb,a.bs,a.NO,a.ML,a.NM,a.JR,a.OY⟩
def Cx.Ok.Jl{X:Cx}(a:(X.Kj E).Ok):X.Ok :=
 ⟨a.mod,a.kind,a.glob,a.blt,a.above,a.inj,a.has,a.Ry,a.hd,a.frames,a.RU,a.exf,a.tb,a.bs,a.NO,a.ML,a.NM,a.JR,a.OY⟩
section
theorem Inv.Kj(I:`a_)(E:Yx):Inv (X.Kj E) pins J H s:=⟨I.ok.Kj E,I.os,I.bare,I.base,I.loc,I.cell,I.free,I.Jm,I.pin,I.Ip,I.len⟩
theorem Inv.Jl{X:Cx}(I:Inv (X.Kj E) pins J H s):Inv X pins J H s:=⟨I.ok.Jl,I.os,I.bare,I.base,I.loc,I.cell,I.free,I.Jm,I.pin,I.Ip,I.len⟩
theorem SP.Jl{X:Cx}(h:SP (X.Kj E) pins D f d):SP X pins D f d:=by
 cases f with
 |next=>obtain⟨a,b,I,q⟩:=h;exact⟨a,b,I.Jl,q⟩
 |brk=>obtain⟨a,b,I,q⟩:=h;exact⟨a,b,I.Jl,q⟩
 |cont=>obtain⟨a,b,I,q⟩:=h;exact⟨a,b,I.Jl,q⟩
 |ret u=>obtain⟨v,a,b,I,r,q⟩:=h;exact⟨v,a,b,I.Jl,r,q⟩
theorem Kp.LP{X:Cx}(h:Kp X.LP a t):Kp X a t:=λpins s J H D I hw =>
 Y7 (h pins s J H D (I.Kj _) hw) (λ_ _ q=>q.Jl) λ_ _ z=>False.elim z
end
section
variable{st:Stmt}
noncomputable def Ga:TS:=λD J H=>D.nx J H
noncomputable def HK(t u:TS):TS:=λD J H=>t { D with nx:=u D } J H
def BE:Kp X [] Ga:=λ_ _ J H _ I h=>VR ⟨J,H,I,h⟩
def Al{X:Cx}{rest:List Stmt}{t u:TS}(d:PS X st t)(b:Kp X rest u):Kp X (st :: rest) (HK t u):=by
 intro a s J H D I h;refine wpAny_execs_cons (thn (d a s J H { D with nx:=u D } I h) λf s1 q=>?_);cases f with
 |next =>
  obtain⟨g,j,i,q⟩:=q;exact b a s1 g j D i q
 |ret v=>exact q
 |brk=>exact q
 |cont=>exact q
def au(b:PS X st t):Kp X [st] t:=by
 intro a s J H D I h;refine wpAny_execs_cons (thn (b a s J H D I h) λf s1 q=>?_);cases f with
 |next=>exact VR q
 |ret v=>exact q
 |brk=>exact q
 |cont=>exact q
noncomputable def DW:TS:=λD J H=>D.bk J H
def x4:PS X (.Break pos) DW:=λ_ _ J H _ I h=>wpAny_Break ⟨J,H,I,h⟩
def Inv.quiet(I:Inv X a J H s):interactive X.env=B:=by simp[interactive,I.ok.kind]
noncomputable def GY(a:TE):TS:=λD J H=>a J H λ_ b=>D.nx J b
def ku{pos:Pos}(he:PE X e te)(d:{`q1,swapsWith e O pos.line X.env=pure B}):PS X (.Expr e pos) (GY te):=by
 intro a s J H D I h;exact wpAny_Expr_any (thn (he a s J H _ I h) λv s1 ⟨x,g,f,r1,b⟩=>⟨J,g,f,b⟩) I.quiet d
noncomputable def HY(a:TE):TS:=λD J H=>a J H D.rt
def qu(he:PE X e te):PS X (.Return (Y e) pos) (HY te):=by
 intro a s J H D I h;exact wpAny_Return_some (thn (he a s J H _ I h) λv s1 ⟨x,f,d,r1,b⟩=>⟨x,J,f,d,r1,b⟩)
noncomputable def Ih(c:TT)(t u:TS):TS:=λD J H=>c J H λb a=>if b=L then t D J a else u D J a
def Dq(m:PT X c g)(o:Kp X a t)(n:Kp X b u):PS X (.If c a b pos) (Ih g t u):=by
 intro f s J H D I h;refine wpAny_If (thn (m f s J H _ I h) λd s1 ⟨l,j,i⟩=>?_);cases d with
 |true=>exact o f s1 J l D j i
 |false=>exact n f s1 J l D j i
end
abbrev TG:=V->St->Hp->(St->Hp->Prop)->Prop
abbrev NQ:=List V->St->Hp->(St->Hp->Prop)->Prop
def PG(X:Cx)(a:Expr)(t:TG):Prop :=
 ∀(b:Yw)(s:IR)(J:St)(H:Hp)(v:V)(u:On)(Q:St->Hp->Prop),Inv X b J H s->RelV v u->t v J H Q →
  PP `ay X.A (assign a X.env u) (λ_ f=>∃d e,Inv X b d e f/\Q d e) X.xe s
def Nq(X:Cx)(g:List Expr)(t:NQ):Prop :=
 ∀(a:Yw)(s:IR)(J:St)(H:Hp)(b:List V)(d:W7)(Q:St->Hp->Prop),Inv X a J H s->aQ b d->t b J H Q →
  PP `ay X.A (assignInOrder ((assignEach g X.env).map (·.2)) d) (λ_ h=>∃e f,Inv X a e f h/\Q e f) X.xe s
abbrev Be:=V->V->V->Hp->(Hp->Prop)->Prop
def D7(X:Cx)(t:Be):Prop :=
 ∀(a:Yw)(s:IR)(J:St)(H:Hp)(o i v:V)(ov iv u:On)(Q:Hp->Prop),Inv X a J H s->RelV o ov->RelV i iv->RelV v u->t o i v H Q →
  PP `ay X.A (setItem ov iv u) (λ_ d=>∃b,Inv X a J b d/\Q b) X.xe s
section
noncomputable def wg(i:Nat):TG:=λv J H Q=>Q (J.set i (Y v)) H
def vd{X:Cx}(f:X.N.Nodup)(d:X.N[i]?=Y x)(b:Loc X.env.scope x)(e:X.fn x=L\/X.env.scope.names.lookup x=Y .local:=by first | exact .inl M | exact .inr M | assumption):PG X (.Name x pos) (wg i):=by
 intro a s J H v u Q I r h;exact wpAny_assign_Name (r9 I f d b r (λj g=>⟨_,H,g,h⟩) e)
noncomputable def HU:NQ:=λa J H Q=>a=[]/\Q J H
noncomputable def Gv(t:TG)(u:NQ):NQ:=λa J H Q=>∃v r,a=v :: r/\t v J H λb d=>u r b d Q
def Ci:Nq X [] HU:=by
 intro a s J H b d Q I r h;obtain⟨e,h⟩:=h;subst e;cases r;exact assignInOrder_nil ⟨J,H,I,h⟩
def Ac(j:PG X e t)(i:Nq X b u)(g:{`q1,(assignEach (e :: b) X.env).map (·.2)=assign e X.env :: (assignEach b X.env).map (·.2)}):Nq X (e :: b) (Gv t u):=by
 intro a s J H o q Q I r h;obtain⟨v,p,e1,h⟩:=h;subst e1;cases r with
 |cons r d =>
  rw[g];refine assignInOrder_cons (thn (j a s J H _ _ _ I r h) λ_ s1 ⟨l,n,m,f⟩=>?_);exact i a s1 l n _ _ Q m d f
def xf(K:X0)(n:Nat)(t:NQ):TG:=λv J H Q=>∃a b,v=.ref a/\Jt K H a b/\b.length=n/\t b J H Q
def Fl{X:Cx}{n:Nat}(w:X.calm=L)(h:Nq X f t)(p:{`q1,(assignEach f X.env).length=n})(y:{`q1,(assignEach f X.env).findIdx? (·.1)=O}):PG X (.Tuple f k pos) (xf X.K n t):=by
 intro d s J H v u Q I r hw;obtain⟨a,i,e1,m,q,hw⟩:=hw;subst e1;cases r;obtain⟨A,g,l,C⟩:=I.tuple m;refine assign_Tuple_tuple (I.ok.hd w) l (by simp[p,← q,g.length]) y λx j=>?_;have z:Inv X d J H { s with heap:=x }:=I.kept (t':=s.toks) λb o e=>j b o (Ze (ZO e)) e;exact h d _ J H i _ Q z (by simpa using g) hw
noncomputable def Ge(a b:TE)(t:Be):TG:=λv J H Q=>a J H λo f=>b J f λi e=>t o i v e λd=>Q J d
def uS(m:PE X o b)(n:PE X i d)(l:D7 X t)(p:{`q2,∀v,assign (.Subscript o i pos) X.env v=(do
   let ov ← holding [v] (eval o X.env)
   let iv ← holding [v,ov] (eval i X.env)
   standAt pos
   holding [v,ov,iv] (setItem ov iv v)
   release [v,ov,iv] [])}):PG X (.Subscript o i pos) (Ge b d t):=by
 intro a s J H v u Q I r h;rw[p];refine Zu (YE (thn (m a s J H _ I h) λov s1 ⟨x,D,z,r1,j⟩=>?_));refine Zu (YE (thn (n a s1 J D _ z j) λiv e ⟨y,C,w,r2,g⟩=>?_));refine Zu (wpAny_standAt (Zu (YE (thn (l a e J C x y v ov iv u _ w r1 r2 r g) λ_ E ⟨A,q,f⟩=>?_))));exact wpAny_release ⟨J,A,q,f⟩
noncomputable def Hk(a:TE)(g:TG):TS:=λD J H=>a J H λx b=>g x J b D.nx
def uM{pos:Pos}(he:PE X e d)(j:PG X b g)(i:{`q1,swapsWithSole [b] e pos.line X.env=pure B})(hw:{`q1,swappedStores [b] e X.env=pure O})(l:{`q1,(assignEach [b] X.env).map (·.2)=[assign b X.env]}):PS X (.Assign [b] e pos) (Hk d g):=by
 intro a s J H D I h;refine wpAny_Assign_stores (thn (he a s J H _ I h) λv s1 ⟨x,n,m,r1,f⟩=>?_) i hw;rw[l];exact thn (j a s1 J n x v _ m r1 f) λ_ o q=>q
def lj{X:Cx}{pos:Pos}(n:X.N.Nodup)(l:X.N[i]?=Y x)(g:Loc X.env.scope x)(he:PE X e d)(j:{`q1,swapsWith e (Y (.Name x a)) pos.line X.env=pure B})(m:X.fn x=L\/X.env.scope.names.lookup x=Y .local:=by first | exact .inl M | exact .inr M | assumption) :
  PS X (.Assign [.Name x a] e pos) (Hk d (wg i)):=by
 intro b s J H D I h;refine wpAny_Assign_Name (thn (he b s J H _ I h) λv s1 ⟨y,q,p,r1,f⟩=>?_) j;exact r9 p n l g r1 (λr o=>⟨_,q,o,f⟩) m
end
section
def ET(c:TT)(g:TS):TS:=λD J H=>∃W:Nat->St->Hp->Prop,(∃m,W m J H)/\∀m J H,W m J H →
 c J H λb e=>if b=L then ∃N:St->Hp->Prop,(∀d f,N d f->∃a,a<m/\W a d f)/\g { D with nx:=N,ct:=N,bk:=D.nx } J e else D.nx J e
def Ak{X:Cx}(x:PassesOwn `ay X.A X.env X.xe)(U:PT X c t)(Z:Kp X d u):PS X (.While c d [] pos) (ET t u):=by
 intro a s J H D I h;obtain⟨W,⟨S,P⟩,turn⟩:=h;refine wpAny_While (codeAny_whileLoop (λn R=>∃y F,Inv X a y F R/\W n y F) ?_ S ⟨J,H,I,P⟩);rintro n s1 ⟨l,E,I1,G⟩;refine XD x (thn (U a s1 l E _ I1 (turn n l E G)) λb Q ⟨C,z,j⟩=>?_);cases b with
 |true =>
  obtain⟨N,hN,j⟩:=j;rw[Zo M];refine XD x (thn (Z a Q l C _ z j) λf s3 i=>?_);cases f with
  |next =>
   obtain⟨e,g,r,o⟩:=i;obtain⟨p,q,m⟩:=hN e g o;exact⟨p,q,e,g,r,m⟩
  |cont =>
   obtain⟨e,g,r,o⟩:=i;obtain⟨p,q,m⟩:=hN e g o;exact⟨p,q,e,g,r,m⟩
  |brk=>exact i
  |ret v=>exact i
 |false =>
  rw[Zl Zd];exact VR ⟨l,C,z,j⟩
end
structure It where
 go:Nat->Hp->Prop
 RO:Nat->Hp->V->Hp->Prop
 stop:Nat->Hp->Prop
def oH(X:Cx)(a:Yw)(H:Hp)(b:KM):Prop :=
 H b=O/\b≠X.env.locals/\b∉X.fs/\(b∈X.ex\/X.s₀.heap.objs.size<=b)/\(∀x c,X.env.cells.lookup x=Y c->c≠b)/\∀p∈X.pn++a,p.1≠b
def Inv.MZ(I:Inv X a J H s)(d:s.heap.objs.size<=b)(h:f b=O):oH X a f b:=by
 refine⟨h,XS (ZZ I.lt d),I.Tc d,.inr (ZL I.sz d),λx c e z=>?_,λp g z=>?_⟩
 ·obtain⟨v,q⟩:=I.cell x c e;exact absurd (ZZ q.lt (by rw[z];exact d)) (YA _)
 ·exact absurd (ZZ (ZO (I.pin p g).1) (by rw[z];exact d)) (YA _)
structure Turn(P:Re)(w:XAB)(K:X0)(tg:Expr)(Jq:It)(fp:Wp)(it:KM)(tn:Nat->XAA->Prop):Prop where
 mem:it∈fp
 obj:∀i h,tn i h->∀b∈fp,∃o,h.get? b=some o/\∀v,o.data ≠ .cell v
 keep:∀i h h',tn i h->(∀b∈fp,∀o,h.get? b=some o->h'.get? b=some o)->tn i h'
 item:∀(X:Cx),X.prog=P->X.w=w->X.K=K->X.calm=true->∀(i:Nat)(pins:Yw)(s:IR)(J:St)(H:Hp)(E:Yx),Inv X pins J H s->(∀b∈fp,oH X pins H b)->tn i s.heap->Jq.go i H →
  PP (KB P w) X.A (pyNext (.ref it)) (λr s1=>∃u,r=some u ∧
   PP (KB P w) X.A (letOwnedTupleGo tg (.ref it) u) (λ_ s2=>∃x H',Inv X pins J H' s2/\RelV x u/\Jq.RO i H x H'/\tn (i+1) s2.heap/\∀b∈fp,H' b=none) E s1) E s
 done:∀(X:Cx),X.prog=P->X.w=w->X.K=K->X.calm=true->∀(i:Nat)(pins:Yw)(s:IR)(J:St)(H:Hp)(E:Yx),Inv X pins J H s->(∀b∈fp,oH X pins H b)->tn i s.heap->Jq.stop i H →
  PP (KB P w) X.A (pyNext (.ref it)) (λr s1=>r=none/\Inv X pins J H s1) E s
 self:∀(A:SC)(i:Nat)(s:IR)(Q:Yx)(E:Yx),tn i s.heap->Q (.ref it) s->PP (KB P w) A (pyIter (.ref it)) Q E s
abbrev TI:=St->Hp->(It->Hp->Prop)->Prop
def PIE(X:Cx)(a:Yw)(J:St)(h:Expr)(R:It->Hp->Prop)(i:On)(f:IR):Prop :=
 ∃(it:KM)(fp:Wp)(e:Nat->XAA->Prop)(g:It)(d:Hp),i=.ref it/\Inv X a J d f/\Turn X.prog X.w X.K h g fp it e/\e 0 f.heap/\(∀b∈fp,oH X a d b)/\R g d
def PI(X:Cx)(e b:Expr)(d:TI):Prop :=
 ∀(a:Yw)(s:IR)(J:St)(H:Hp)(R:It->Hp->Prop),Inv X a J H s->d J H R →
  PP `ay X.A (eval b X.env) (λv s1=>PP `ay X.A (pyIter v) (PIE X a J e R) X.xe s1) X.xe s
def rA{M:Model}{s:IR}{n:String}(f:s.heap.get? e=Y o)(j:o.cls=.type n)(i:o.data=.fields b)(g:["enumerate", "zip", "dict_itemiterator", "dict_reverseitemiterator", "odict_iterator", "itertools.zip_longest", "itertools.pairwise"].contains n=B)(a:Q () s):PP M A (letOwnedTupleGo d (.ref e) u) Q E s:=by
 unfold letOwnedTupleGo;cases d<;>first
  |exact Zn a
  | (cases u<;>first
    |exact Zn a
    | (refine Zu (wpAny_load f ?_)
       rw[j,i];show PP M A (if (["enumerate", "zip", "dict_itemiterator", "dict_reverseitemiterator", "odict_iterator", "itertools.zip_longest", "itertools.pairwise"].contains n&&b[0]? == Y (rawInt _))=L then _ else _) Q E s;rw[Zl (by intro h;rw[g,Bool.false_and]at h;cases h)];exact Zn a))
def VN(K:X0)(a:KM):It :=
 ⟨λi H=>∃b x,IF K H a b/\b[i]?=Y x,λi H x d=>d=H/\∀b,IF K H a b->b[i]?=Y x,λi H=>∃b,IF K H a b/\b.length<=i⟩
def U9(K:X0)(a:KM):It :=
 ⟨λi H=>∃b x,Jt K H a b/\b[i]?=Y x,λi H x d=>d=H/\∀b,Jt K H a b->b[i]?=Y x,λi H=>∃b,Jt K H a b/\b.length<=i⟩
noncomputable def SD(a:Int)(n:Nat):It:=⟨λi _=>i<n,λi H x b=>b=H/\x=.int (a+i),λi _=>n<=i⟩
def wU{K:X0}(a g:KM):Turn P w K N (VN K a) [g] g (λi h=>h.IsListIter g a i) where
 mem:=by simp
 obj:=λi h st b hb=>by
  have e:b=g:=by simpa using hb
  subst e;obtain⟨o,e,c,d⟩:=st;exact⟨o,e,λv z=>by rw[d]at z;cases z⟩
 keep:=λi h m st k=>st.at λo e=>k g (by simp) o e
 item:=by
  intro X r hw t F i f s J H E I l st hg;subst r hw t;obtain⟨M,x,j,q⟩:=hg;obtain⟨R,n,p,S⟩:=I.list j;obtain⟨u,Z,Q⟩:=n.get q;obtain⟨D,f1,f2,C,A,y⟩:=l g (by simp);refine wpAny_pyNext_list_item st p.isList (x:=u) (by simpa using Z) λm G sb=>?_;have I1:Inv X f J H { s with heap:=m }:=I.turned (t':=s.toks) (λb o hb e=>(sb.2 b hb).trans e) D f1 C A y;obtain⟨o,e,c,d⟩:=id G;exact⟨u,rfl,rA (s:={ s with heap:=m }) e c d `ao ⟨x,H,I1,Q,⟨rfl,λys U=>by rw[I.La U j];exact q⟩,G,λb hb=>(l b hb).1⟩⟩
 done:=by
  intro X r hw t F i f s J H E I l st hg;subst r hw t;obtain⟨M,j,q⟩:=hg;obtain⟨R,n,p,S⟩:=I.list j;obtain⟨D,f1,f2,C,A,y⟩:=l g (by simp);have hl:=n.length;exact wpAny_pyNext_list_end (I.ok.hd F) st p.isList (by simp;lia) λm eb=>⟨rfl,I.turned (t':=s.toks) (λb o hb e=>eb b o hb e) D f1 C A y⟩
 self:=λ_ _ _ _ _ st h=>wpAny_pyIter_listiter st h
def t4{K:X0}(a g:KM):Turn P w K Q (U9 K a) [g] g (λi h=>h.IsTupleIter g a i) where
 mem:=by simp
 obj:=λi h st b hb=>by
  have e:b=g:=by simpa using hb
  subst e;obtain⟨o,e,c,d⟩:=st;exact⟨o,e,λv z=>by rw[d]at z;cases z⟩
 keep:=λi h m st k=>st.at λo e=>k g (by simp) o e
 item:=by
  intro X t hw y G i f s J H E I l st hg;subst t hw y;obtain⟨N,x,j,r⟩:=hg;obtain⟨q,n,p,S⟩:=I.tuple j;obtain⟨u,Z,R⟩:=n.get r;obtain⟨F,f1,f2,D,C,A⟩:=l g (by simp);refine wpAny_pyNext_tuple_item st (show s.heap.IsTuple a q.toArray from p) (x:=u) (by simpa using Z) λm M sb=>?_;have I1:Inv X f J H { s with heap:=m }:=I.turned (t':=s.toks) (λb o hb e=>(sb.2 b hb).trans e) F f1 D C A;obtain⟨o,e,c,d⟩:=id M;exact⟨u,rfl,rA (s:={ s with heap:=m }) e c d `ao ⟨x,H,I1,R,⟨rfl,λys U=>by rw[I.L5 U j];exact r⟩,M,λb hb=>(l b hb).1⟩⟩
 done:=by
  intro X t hw y G i f s J H E I l st hg;subst t hw y;obtain⟨N,j,r⟩:=hg;obtain⟨q,n,p,S⟩:=I.tuple j;obtain⟨F,f1,f2,D,C,A⟩:=l g (by simp);have hl:=n.length;exact wpAny_pyNext_tuple_end (I.ok.hd G) st (show s.heap.IsTuple a q.toArray from p) (by simp;lia) λm eb=>⟨rfl,I.turned (t':=s.toks) (λb o hb e=>eb b o hb e) F f1 D C A⟩
 self:=λ_ _ _ _ _ st h=>wpAny_pyIter_tupleiter st h
def ur{K:X0}(d:KM)(f:Int)(n:Nat):Turn P w K D (SD f n) [d] d (λi h=>IsRangeIter h d (f+(i:Nat)*1) ((n:Int)-(i:Nat)) 1) where
 mem:=by simp
 obj:=λi h st b hb=>by
  have e:b=d:=by simpa using hb
  subst e;exact⟨_,st,λv z=>by
   have C:Data.fields _=Data.cell v:=z;cases C⟩
 keep:=λi h j st k=>k d (by simp) _ st
 item:=by
  intro X m hw p l i a s J H E I g st hg;subst m hw p;obtain⟨x,f1,f2,u,r,q⟩:=g d (by simp);have W:=Walks.range (prog:=X.prog) (w:=X.w) (I.ok.hd l) d f 1 n;refine W.item i s _ _ hg st λv j y G A F=>?_;obtain⟨t,rfl⟩:=G;have Q:Inv X a J H { s with heap:=j,toks:=y }:=I.turned (λb o hb e=>F b o (by simpa using hb) e) x f1 u r q;refine⟨_,rfl,rA (s:={ s with heap:=j,toks:=y }) (n := "range_iterator") A M M `ao ⟨.int (f+i),H,Q,⟨t,?_⟩,⟨rfl,rfl⟩,A,λb hb=>(g b hb).1⟩⟩;rw[Int.mul_one]
 done:=by
  intro X m hw p l i a s J H E I g st hg;subst m hw p;obtain⟨x,f1,f2,u,r,q⟩:=g d (by simp);exact wpAny_pyNext_range_end (I.ok.hd l) st (by have:n<=i:=hg;lia) λj N=>⟨rfl,I.turned (t':=s.toks) (λb o hb e=>N b o hb e) x f1 u r q⟩
 self:=λ_ _ _ _ _ st h=>wpAny_pyIter_rangeiter st h
section
def yV{a d:Int}(I:Inv X f J H s)(m:-(2 ^ 62)<=a)(l:a<2 ^ 62)(j:-(2 ^ 62)<=d)(i:d<2 ^ 62)(q:R (SD a (d-a).toNat) H):PP `ay X.A (pyIter (.ref s.heap.objs.size)) (PIE X f J tg R) E { s with heap:=s.heap.push { cls:=.type "range",data:=.fields #[.int a t,.int d u,.int 1 v] },toks:=g }:=by
 refine wpAny_pyIter_range (IsRange.new ..) (small_one m l j i) ?_;have h:Inv X f J H { s with heap:=s.heap.push { cls:=.type "range",data:=.fields #[.int a t,.int d u,.int 1 v] },toks:=g }:=I.kept λb o e=>Zm _ e;refine⟨(s.heap.push { cls:=.type "range",data:=.fields #[.int a t,.int d u,.int 1 v] }).objs.size,[(s.heap.push { cls:=.type "range",data:=.fields #[.int a t,.int d u,.int 1 v] }).objs.size],_,_,H,rfl,
  h.kept (t':=g) λb o e=>Zm _ e,ur _ a (d-a).toNat,?_,λb hb=>?_,q⟩
 ·have e1:a+((0:Nat):Int)*1=a:=by simp
  have e2:(((d-a).toNat:Nat):Int)-((0:Nat):Int)=Builtin.Range.rangeSize a d 1:=by rw[rangeSize_one];split<;>lia
  show IsRangeIter _ _ (a+((0:Nat):Int)*1) ((((d-a).toNat:Nat):Int)-((0:Nat):Int)) 1;rw[e1,e2];exact ZV _ M
 ·have e:b=(s.heap.push { cls:=.type "range",data:=.fields #[.int a t,.int d u,.int 1 v] }).objs.size:=by simpa using hb
  subst e;exact h.MZ (Zp _) (h.Ip.fresh (Zp _))
def Dn(ta:TA):TI:=λJ H R=>ta J H λa b=>∃j:Int,a=[.int j]/\-(2 ^ 62)<=j/\j<2 ^ 62/\R (SD 0 j.toNat) b
def lM{g:TA}(o:Gl X "range")(n:X.mg "range" = O)(u:PA X [a] g)(m:{`q1,Pv [a] X.env=[(B,eval a X.env)]}):PI X tg (.Call (.Name "range" p) [a] [] b) (Dn g):=by
 intro d s J H R I h;refine Call_ (p9 I o n boot_range (WG (thn (u b d s J H _ I h) λx s1 ⟨w,y,v,r1,f⟩=>?_) m M));obtain⟨j,e,f,l,q⟩:=f;subst e;cases r1 with
 |cons r i =>
  cases i;obtain⟨t,rfl⟩:=r;exact call_range_1 (yV v `am `am f l (by simpa using q))
def GW(f:TI)(g:TG)(h:TS):TS:=λD J H=>f J H λb n=>∃W:Nat->Nat->St->Hp->Prop,(∃m,W 0 m J n)/\∀i m J H,W i m J H →
 (b.stop i H/\D.nx J H)\/(b.go i H/\∃N:St->Hp->Prop,(∀e a,N e a->∃d,d<m/\W (i+1) d e a)/\∀x a,b.RO i H x a->g x J a λj l=>h { D with nx:=N,ct:=N,bk:=D.nx } j l)
noncomputable def nz(a:Wp)(h:XAA):Yw:=a.filterMap λb=>(h.get? b).map λo=>(b,o)
def ij{h:XAA}(d:b∈a)(e:h.get? b=Y o):(b,o)∈nz a h:=List.mem_filterMap.mpr ⟨b,d,by rw[e];rfl⟩
def xS(d:p∈nz a h):p.1∈a/\h.get? p.1=Y p.2:=by
 obtain⟨b,hb,e⟩:=List.mem_filterMap.mp d;cases q:h.get? b with
 |none=>rw[q]at e;cases e
 |some o =>
  rw[q]at e;have f:(b,o)=p:=Zh e;subst f;exact⟨hb,q⟩
def Inv.pinned(I:Inv X a J H s)(j:∀b∈f,oH X a H b)(i:∀b∈f,∃o,s.heap.get? b=Y o/\∀v,o.data ≠ .cell v):Inv X (a++nz f s.heap) J H s :=
 I.LO λp h=>(Zi.mp h).elim (λz=>I.pin p (ZX _ z)) λz=>by
  obtain⟨hb,e⟩:=xS z;obtain⟨l,f1,f2,_⟩:=j p.1 hb;obtain⟨o,g,d⟩:=i p.1 hb;rw[e]at g;cases g;exact⟨e,l,f1,f2,d⟩
def Inv.JA(I:Inv X (a++b) J H s):Inv X a J H s:=I.LO λp d=>I.pin p (ZX _ (LH _ d))
def zv{X:Cx}(F:PassesOwn `ay X.A X.env X.xe)(hc:X.calm=L)(hi:PI X tg j wi)(hg:PG X tg g)(l:Kp X C tb)(hs:{`q2,∀x,XAD j X.env x=pure x}):PS X (.For tg j C [] S) (GW wi g tb):=by
 intro a s J H D I h;refine wpAny_For (thn (hi a s J H _ I h) λv s1 h1=>thn h1 λTv s2 h2=>?_) hs;obtain⟨it,fp,tn,Jq,H2,e,I2,T,Jh,f2,W,⟨m0,w0⟩,turn⟩:=h2;subst e;have Ls:∀{y:Hp},(∀b∈fp,y b=O)->∀b∈fp,oH X a y b:=λhn b l=>⟨hn b l,(f2 b l).2⟩
 refine codeAny_forLoop_any (λn s'=>∃i P y,Inv X a P y s'/\tn i s'.heap/\(∀b∈fp,y b=O)/\W i n P y) ?_ m0 ⟨0,J,H2,I2,Jh,λb l=>(f2 b l).1,w0⟩;rintro n s3 ⟨i,G,Q,I3,KA,Rh,w3⟩;rcases turn i n G Q w3 with⟨stop,qn⟩ | ⟨go,N,hN,step⟩
 ·refine XD F (thn (T.done X M M M hc i a s3 G Q X.xe I3 (Ls Rh) KA stop) λr s4 ⟨U,I4⟩=>?_);subst U;exact VR ⟨G,Q,I4,qn⟩
 ·refine XD F (thn (T.item X M M M hc i a s3 G Q X.xe I3 (Ls Rh) KA go) λr s4 ⟨u,U,h4⟩=>?_);subst U;refine XD F (thn h4 λ_ s5 ⟨x,H5,I5,r5,y5,Z,UD⟩=>?_);have XN:=I5.pinned (Ls UD) (T.obj _ _ Z);refine XD F (thn (hg _ s5 G H5 x u _ XN r5 (step x H5 y5)) λ_ s6 ⟨J6,H6,I6,q6⟩=>?_);refine XD F (thn (l _ s6 J6 H6 _ I6 q6) λf R z=>?_);have again:∀{p:St}{t:Hp},Inv X (a++nz fp s5.heap) p t R->N p t->∃m,m<n/\∃i P y,Inv X a P y R/\tn i R.heap/\(∀b∈fp,y b=O)/\W i m P y:=λ{p t} q E=>by
   obtain⟨m',hm,w7⟩:=hN p t E;refine⟨m',hm,i+1,p,t,q.JA,T.keep _ _ _ Z λb l o e=>(q.pin (b,o) (ZX _ (ZX _ (ij l e)))).1,λb l=>?_,w7⟩;obtain⟨o,e,d⟩:=T.obj _ _ Z b l;exact(q.pin (b,o) (ZX _ (ZX _ (ij l e)))).2.1
  cases f with
  |next=>obtain⟨p,t,q,E⟩:=z;exact again q E
  |cont=>obtain⟨p,t,q,E⟩:=z;exact again q E
  |brk=>obtain⟨p,t,q,z⟩:=z;exact⟨p,t,q.JA,z⟩
  |ret v=>obtain⟨x7,p,t,q,r7,z⟩:=z;exact⟨x7,p,t,q.JA,r7,z⟩
end
abbrev R2:=V->V->Hp->VK->Prop
def OpR(X:Cx)(f:On->On->Sem On)(r:R2):Prop :=
 ∀(a:Yw)(s:IR)(J:St)(H:Hp)(x y:V)(v u:On)(Q:VK),Inv X a J H s->RelV x v->RelV y u->r x y H Q →
  PP `ay X.A (f v u) (EP X a J Q) X.xe s
def UnR(X:Cx)(f:On->Sem On)(r:V->Hp->VK->Prop):Prop :=
 ∀(a:Yw)(s:IR)(J:St)(H:Hp)(x:V)(v:On)(Q:VK),Inv X a J H s->RelV x v->r x H Q →
  PP `ay X.A (f v) (EP X a J Q) X.xe s
def dm(X:Cx)(f:On)(r:List V->Hp->VK->Prop):Prop :=
 ∀(a:Yw)(s:IR)(J:St)(H:Hp)(b:List V)(d:W7)(Q:VK),Inv X a J H s->aQ b d->r b H Q →
  PP `ay X.A (call f d) (EP X a J Q) X.xe s
def HE(X:Cx)(r:V->Hp->(Bool->Hp->Prop)->Prop):Prop :=
 ∀(a:Yw)(s:IR)(J:St)(H:Hp)(x:V)(v:On)(Q:Bool->Hp->Prop),Inv X a J H s->RelV x v->r x H Q →
  PP `ay X.A (truthy v) (TP X a J Q) X.xe s
noncomputable def Pc(r:R2)(ta a:TE):TE:=λJ H Q=>ta J H λx d=>a J d λy b=>r x y b Q
noncomputable def tUn(r:V->Hp->VK->Prop)(ta:TE):TE:=λJ H Q=>ta J H λx a=>r x a Q
noncomputable def rI(C:Int->Int->Prop)(g:Int->Int->V):R2:=λx y H Q=>∃i j,x=.int i/\y=.int j/\C i j/\Q (g i j) H
noncomputable def Mj(g:Int->Int->V):R2:=λx y H Q=>∃i j,x=.int i/\y=.int j/\Q (g i j) H
noncomputable def rU(g:Int->V):V->Hp->VK->Prop:=λx H Q=>∃i,x=.int i/\Q (g i) H
section
def D8{X:Cx}{a b:Expr}{ta tb:TE}(q:PE X a ta)(p:PE X b tb){d:Yw}{s:IR}{J:St}{H:Hp}{R:V->V->Hp->Prop}(I:Inv X d J H s)(h:ta J H λx i=>tb J i λy e=>R x y e){Q:Yx}{f:On->On->Sem On}(o:∀v u g x y e,Inv X d J e g->RelV x v->RelV y u->R x y e->PP `ay X.A (f v u) Q X.xe g) :
  PP `ay X.A (eval a X.env) (λv l=>PP `ay X.A (eval b X.env) (λu j=>PP `ay X.A (f v u) Q X.xe j) X.xe l) X.xe s:=by
 refine thn (q d s J H _ I h) λv s1 ⟨x,i,t,r1,n⟩=>?_;refine thn (p d s1 J i _ t n) λu g ⟨y,e,r,r2,m⟩=>?_;exact o v u g x y e r r1 r2 m
def DA(j:OpR X (binaryOp e) r)(m:PE X a ta)(l:PE X b tb):PE X (.BinOp a e b pos) (Pc r ta tb):=by
 intro d s J H Q I h;exact wpAny_BinOp (D8 m l I h λv u f x y o n i g q=>j d f J o x y v u Q n i g q)
def Gk(g:UnR X (unaryOp e) r)(i:PE X a ta):PE X (.UnaryOp e a pos) (tUn r ta):=by
 intro d s J H Q I h;exact UnaryOp_ (thn (i d s J H _ I h) λv s1 ⟨x,l,j,r1,f⟩=>g d s1 J l x v Q j r1 f)
def S5{X:Cx}{f:On->On->Sem On}{C:Int->Int->Prop}{g:Int->Int->Int}(d:∀(i j:Int)(t u:Tok)(s:IR)(Q:Yx)(E:Yx),C i j->Q (.int (g i j) s.toks) { s with toks:=s.toks+1 }->PP `ay X.A (f (.int i t) (.int j u)) Q E s) :
  OpR X f (rI C λi j=>.int (g i j)):=by
 intro e s J H x y v u Q I n m h;obtain⟨i,j,rfl,rfl,o,q⟩:=h;obtain⟨t,rfl⟩:=n;obtain⟨l,rfl⟩:=m;exact d i j t l s _ _ o ⟨.int (g i j),H,I.tok _,⟨_,rfl⟩,q⟩
def GB{X:Cx}{f:On->On->Sem On}{g:Int->Int->Int}(d:∀(i j:Int)(t u:Tok)(s:IR)(Q:Yx)(E:Yx),Q (.int (g i j) s.toks) { s with toks:=s.toks+1 }->PP `ay X.A (f (.int i t) (.int j u)) Q E s) :
  OpR X f (Mj λi j=>.int (g i j)):=by
 intro e s J H x y v u Q I n m h;obtain⟨i,j,rfl,rfl,q⟩:=h;obtain⟨t,rfl⟩:=n;obtain⟨l,rfl⟩:=m;exact d i j t l s _ _ ⟨.int (g i j),H,I.tok _,⟨_,rfl⟩,q⟩
def Ea{X:Cx}{f:On->On->Sem On}{g:Int->Int->Bool}(d:∀(i j:Int)(t u:Tok)(s:IR)(Q:Yx)(E:Yx),Q (.bool (g i j)) s->PP `ay X.A (f (.int i t) (.int j u)) Q E s) :
  OpR X f (Mj λi j=>.bl (g i j)):=by
 intro e s J H x y v u Q I n m h;obtain⟨i,j,rfl,rfl,q⟩:=h;obtain⟨t,rfl⟩:=n;obtain⟨l,rfl⟩:=m;exact d i j t l s _ _ ⟨.bl (g i j),H,I,rfl,q⟩
noncomputable def Hv(i j:Int):Prop:=0<j/\j<1073741824
noncomputable def Bu(i j:Int):Prop:=(-(2 ^ 64)<i/\i<2 ^ 64)\/(-(2 ^ 64)<j/\j<2 ^ 64)
def Bu.ok{i j:Int}(h:Bu i j):IntMulOk i j:=by
 rcases h with⟨e,d⟩ | ⟨e,d⟩
 ·exact .of_left (intBits_le_64 e d)
 ·exact .of_right (intBits_le_64 e d)
def EI:OpR X (binaryOp .Add) (Mj λi j=>.int (i+j)):=GB λ_ _ _ _ _ _ _ q=>add_int q
def pL:OpR X (binaryOp .Sub) (Mj λi j=>.int (i-j)):=GB λ_ _ _ _ _ _ _ q=>sub_int q
def FY:OpR X (binaryOp .Mult) (rI Bu λi j=>.int (i*j)):=S5 λ_ _ _ _ _ _ _ d q=>mul_int q d.ok
def mH:OpR X (binaryOp .FloorDiv) (rI Hv λi j=>.int (i/j)):=S5 λi j _ _ _ _ _ d q=>by
 have f:(0:Int)<j:=d.1;have e:j<1073741824:=d.2;exact floordiv_int `am (by rw[Int.fdiv_eq_ediv_of_nonneg i `am];exact q) (.inl (PyProof.noPylong_small (by omega)))
def E7:OpR X (binaryOp .Mod) (rI (λ_ j=>0<j) λi j=>.int (i%j)):=S5 λi j _ _ _ _ _ d q=>by
 have e:(0:Int)<j:=d;exact mod_int' `am (by rw[Int.fmod_eq_emod_of_nonneg i `am];exact q)
def unI{X:Cx}{f:On->Sem On}{g:Int->Int}(d:∀(i:Int)(t:Tok)(s:IR)(Q:Yx)(E:Yx),Q (.int (g i) s.toks) { s with toks:=s.toks+1 }->PP `ay X.A (f (.int i t)) Q E s) :
  UnR X f (rU λi=>.int (g i)):=by
 intro e s J H x v Q I j h;obtain⟨i,rfl,q⟩:=h;obtain⟨t,rfl⟩:=j;exact d i t s _ _ ⟨.int (g i),H,I.tok _,⟨_,rfl⟩,q⟩
def Fz:UnR X (unaryOp .USub) (rU λi=>.int (-i)):=unI λ_ _ _ _ _ q=>neg_int q
end
section
def FR(I:Inv X d J H s)(q:Q (.bl k) H)(e:k=f):EP X d J Q (.bool f) s:=by
 subst e;exact⟨.bl k,H,I,rfl,q⟩
def G5:OpR X (UV .Lt) (Mj λi j=>.bl (decide (i<j))):=Ea λ_ _ _ _ _ _ _ q=>lt_int q
def G4:OpR X (UV .Gt) (Mj λi j=>.bl (decide (j<i))):=Ea λ_ _ _ _ _ _ _ q=>gt_int q
def Hx:OpR X (UV .GtE) (Mj λi j=>.bl (decide (j<=i))):=Ea λ_ _ _ _ _ _ _ q=>ge_int q
def xM:OpR X (UV .Lt) (λx y H Q=>∃i j,x=.str i/\y=.str j/\Q (.bl (decide (i.cps.toList<j.cps.toList))) H):=by
 intro d s J H x y v u Q I f e h;obtain⟨i,j,rfl,rfl,q⟩:=h;obtain⟨t,rfl⟩:=f;obtain⟨g,rfl⟩:=e;exact lt_str (FR I q M)
def OpR.or(h:OpR X f r)(j:OpR X f i):OpR X f (λx y H Q=>r x y H Q\/i x y H Q):=by
 intro d s J H x y v u Q I g e q;rcases q with q | q
 ·exact h d s J H x y v u Q I g e q
 ·exact j d s J H x y v u Q I g e q
def fj(b:Expr)(h:{`q0,d ≠ .In})(e:{`q0,d ≠ .NotIn}):behindInMarks d b=B:=by
 have e1:(d==CmpOp.In)=B:=by cases d<;>first | rfl | exact absurd M h
 have e2:(d==CmpOp.NotIn)=B:=by cases d<;>first | rfl | exact absurd M e
 cases b<;>simp[behindInMarks,e1,e2]
def u4(j:OpR X (UV e) r)(n:PE X a ta)(m:PE X b tb)(l:behindInMarks e b=B):PE X (.Compare a [e] [b] pos) (Pc r ta tb):=by
 intro d s J H Q I h;exact wpAny_Compare1 (D8 n m I h λv u f x y p o i g q=>j d f J p x y v u Q o i g q) l
noncomputable def zP(t:TE):TT:=λJ H Q=>t J H λx d=>∃k,x=.bl k/\Q k d
def vo(n:OpR X (UV f) r)(q:PE X a ta)(p:PE X b tb)(o:behindInMarks f b=B):PT X (.Compare a [f] [b] pos) (zP (Pc r ta tb)):=by
 intro d s J H Q I h;refine wpAny_isTrue_Compare1 (thn (q d s J H _ I h) λv s1 ⟨x,E,A,r1,m⟩=>thn (p d s1 J E _ A m) λu g ⟨y,D,w,r2,l⟩ =>
  thn (n d g J D x y v u _ w r1 r2 l) λc F ⟨z,C,t,i,k,e,j⟩=>?_) o
 subst e;cases i;exact X3 ⟨C,t,j⟩
noncomputable def um(r h:R2)(ta g f:TE):TE:=λJ H Q=>ta J H λx l=>g J l λy j=>r x y j λz d=>∃k,z=.bl k ∧
 (if k=L then f J d λe i=>h y e i Q else Q (.bl B) d)
def Aw{r':R2}(F:OpR X (UV g) r)(R:OpR X (UV i) r')(P:PE X a ta)(N:PE X b tb)(M:PE X c tc)(G:{`q3,lastMarks [g,i] [b,c]=B}):PE X (.Compare a [g,i] [b,c] pos) (um r r' ta tb tc):=by
 intro f s J H Q I h;refine Compare_chain (thn (P f s J H _ I h) λv s1 ⟨x,H1,Z,r1,E⟩=>chain_link (thn (N f s1 J H1 _ Z E) λu t ⟨y,H2,U,r2,D⟩ =>
  thn (F f t J H2 x y v u _ U r1 r2 D) λd q ⟨z,m,l,A,k,e,j⟩=>?_)) G
 subst e;cases A;refine X3 ?_;cases k with
 |false=>exact ite_ff ⟨.bl B,m,l,rfl,j⟩
 |true=>exact ite_tt (chain_last (thn (M f q J m _ l j) λo p ⟨n,H4,S,w,C⟩=>R f p J H4 y n u o Q S r2 w C))
def AQ(P:OpR X (UV g) r)(Le:OpR X (UV i) j)(Z:PE X a ta)(U:PE X b tb)(S:PE X c tc)(R:{`q3,lastMarks [g,i] [b,c]=B}):PT X (.Compare a [g,i] [b,c] pos) (zP (um r j ta tb tc)):=by
 intro f s J H Q I h;refine isTrue_chain (thn (Z f s J H _ I h) λv s1 ⟨x,H1,I1,r1,M⟩=>test_link (thn (U f s1 J H1 _ I1 M) λu w ⟨y,H2,I2,r2,G⟩ =>
  thn (P f w J H2 x y v u _ I2 r1 r2 G) λd t ⟨z,n,m,D,k,e,l⟩=>?_)) R
 subst e;cases D;refine X3 ?_;cases k with
 |false =>
  obtain⟨k',e',N⟩:=l;cases e';exact ite_ff ⟨n,m,N⟩
 |true =>
  refine ite_tt (test_last (thn (S f t J n _ m l) λp q ⟨o,H4,I4,C,F⟩=>thn (Le f q J H4 y o u p _ I4 r2 C F) λd' s5 ⟨z2,H5,I5,A,k2,e2,E⟩=>?_));subst e2;cases A;exact X3 ⟨H5,I5,E⟩
def Ft(K:X0)(x:V)(H:Hp)(k:Bool):Prop :=
 match x with
 |.non=>k=B
 |.bl b=>k=b
 |.int i=>k=(i != 0)
 |.str y=>y.length<=KF/\k=((y.length:Int) != 0)
 |.byt y=>y.size<=KF/\k=((y.size:Int) != 0)
 |.ref p=>(∃d,IF K H p d/\k=!d.isEmpty)\/(∃d,Jt K H p d/\k=!d.isEmpty)\/∃e,H p=Y (.dK e)/\k=!e.isEmpty
 |_=>False
def uE{κ:Type}{e:List (κ×V)}{d:List (κ×On)}(r:KV e d):(!d.isEmpty)=!e.isEmpty:=by
 cases r<;>rfl
def nL(r:aQ d e):(!e.toArray.isEmpty)=!d.isEmpty:=by
 cases r<;>simp
def lJ:(KF:Nat)<2 ^ 63:=by rw[WY];decide
def E6:HE X (λx H Q=>∃k,Ft X.K x H k/\Q k H):=by
 intro o s J H x v Q I g h;obtain⟨k,e,q⟩:=h;have E:=lJ;have D:KF=16777216:=WY;cases x with
 |non =>
  cases g;have d:k=B:=e;subst d;exact truthy_none ⟨H,I,q⟩
 |bl b =>
  cases g;have d:k=b:=e;subst d;exact X3 ⟨H,I,q⟩
 |int i =>
  obtain⟨t,rfl⟩:=g;have d:k=(i != 0):=e;subst d;exact PySem.P.truthy_int ⟨H,I,q⟩
 |str y =>
  obtain⟨t,rfl⟩:=g;obtain⟨A,d⟩:y.length<=KF/\k=((y.length:Int) != 0):=e;subst d;exact PySem.P.truthy_str `am ⟨H,I.tok _,q⟩
 |byt y =>
  obtain⟨t,rfl⟩:=g;obtain⟨A,d⟩:y.size<=KF/\k=((y.size:Int) != 0):=e;subst d;exact PySem.W.truthy_bytes `am ⟨H,I.tok _,q⟩
 |ref p =>
  cases g;have d:(∃f,IF X.K H p f/\k=!f.isEmpty)\/(∃f,Jt X.K H p f/\k=!f.isEmpty)\/∃j,H p=Y (.dK j)/\k=!j.isEmpty:=e;rcases d with⟨f,l,d⟩ | ⟨f,l,d⟩ | ⟨j,l,d⟩
  ·subst d;obtain⟨z,r,pl,u⟩:=I.list l;have hlen:=r.length;exact wpAny_truthy_list pl.isList (by simp only[ZJ];lia) ⟨H,I.tok _,by rw[nL r];exact q⟩
  ·subst d;obtain⟨z,r,pl,u⟩:=I.tuple l;have hlen:=r.length;exact truthy_tuple pl (by simp only[ZJ];lia) ⟨H,I.tok _,by rw[nL r];exact q⟩
  ·subst d;obtain⟨u,C,n,r,m⟩:j.length<=KF/\(p==sysModules)=B/\∃n,KV j n/\s.heap.DictOf (aR X.prog X.w) p n:=I.Ip p _ l;have hlen:j.length=n.length:=Wm r;exact wpAny_truthy_dict C m `am ⟨H,I.tok _,by rw[uE r];exact q⟩
 |_=>exact(show False from e).elim
def xV(g:PE X a ta)(he:∀whole,isTrue a X.env whole=(do let v ← whole;standAt a.pos;holding [v] (truthy v))) :
  PT X a (λJ H Q=>ta J H λx e=>∃k,Ft X.K x e k/\Q k e):=by
 intro d s J H Q I h;exact isTrue_plain (thn (g d s J H _ I h) λv s1 ⟨x,j,i,r1,f⟩=>E6 d s1 J j x v Q i r1 f) (he _)
def uT:OpR X (binaryOp .Add) (λx y H Q=>∃i j,x=.str i/\y=.str j/\i.length+j.length<=KF/\Q (.str (i++j)) H):=by
 intro d s J H x y v u Q I g f h;obtain⟨i,j,rfl,rfl,l,q⟩:=h;obtain⟨t,rfl⟩:=g;obtain⟨e,rfl⟩:=f;exact add_str (λe m=>⟨.str (i++j),H,I.tok _,⟨_,rfl⟩,q⟩) l
def vals1(r:aQ [x] d):∃u,d=[u]/\RelV x u:=by
 cases r with
 |cons r1 r2=>cases r2;exact⟨_,rfl,r1⟩
def vals2(r:aQ [x,y] e):∃u d,e=[u,d]/\RelV x u/\RelV y d:=by
 cases r with
 |cons r1 r2 =>
  cases r2 with
  |cons g f=>cases f;exact⟨_,_,rfl,r1,g⟩
def wO:dm X (.type "int") (λd H Q=>(∃i,d=[.int i]/\Q (.int i) H)\/∃k,d=[.bl k]/\Q (.int (if k then 1 else 0)) H):=by
 intro e s J H d f Q I r h;rcases h with⟨i,rfl,q⟩ | ⟨k,rfl,q⟩
 ·obtain⟨u,rfl,t,rfl⟩:=vals1 r;exact call_int_int ⟨.int i,H,I,⟨_,rfl⟩,q⟩
 ·obtain⟨u,rfl,r1⟩:=vals1 r;cases r1;exact call_int_bool ⟨.int (if k then 1 else 0),H,I.tok _,⟨_,rfl⟩,q⟩
def GH(K:X0)(x:V)(H:Hp)(n:Nat):Prop :=
 match x with
 |.str y=>y.length<=KF/\n=y.length
 |.byt y=>y.size<=KF/\n=y.size
 |.ref p=>(∃d,IF K H p d/\n=d.length)\/∃d,Jt K H p d/\n=d.length
 |_=>False
def zd:dm X (.builtin "len") (λd H Q=>∃x n,d=[x]/\GH X.K x H n/\Q (.int n) H):=by
 intro l s J H d w Q I r h;obtain⟨x,n,rfl,e,q⟩:=h;obtain⟨u,rfl,g⟩:=vals1 r;have A:=lJ;have z:KF=16777216:=WY;cases x with
 |str y =>
  obtain⟨t,rfl⟩:=g;obtain⟨v,f⟩:y.length<=KF/\n=y.length:=e;subst f;exact len_str `am ⟨.int _,H,I.tok _,⟨_,rfl⟩,q⟩
 |byt y =>
  obtain⟨t,rfl⟩:=g;obtain⟨v,f⟩:y.size<=KF/\n=y.size:=e;subst f;exact PySem.W.len_bytes `am ⟨.int _,H,I.tok _,⟨_,rfl⟩,q⟩
 |ref p =>
  cases g;have f:(∃d,IF X.K H p d/\n=d.length)\/∃d,Jt X.K H p d/\n=d.length:=e;rcases f with⟨d,j,f⟩ | ⟨d,j,f⟩
  ·subst f;obtain⟨m,i,pl,o⟩:=I.list j;have hlen:=i.length;exact Calls.call_len_list pl.isList (by simp only[ZJ];lia) ⟨.int d.length,H,I.tok _,⟨_,by simp only[ZJ];rw[hlen]⟩,q⟩
  ·subst f;obtain⟨m,i,pl,o⟩:=I.tuple j;have hlen:=i.length;exact len_tuple pl (by simp only[ZJ];lia) ⟨.int d.length,H,I.tok _,⟨_,by simp only[ZJ];rw[hlen]⟩,q⟩
 |_=>exact(show False from e).elim
end
structure LK(h:XAA)(x dx C:KM)(mA:Wq):Prop where
 obj:h.get? x=some (PySem.W.instObj C dx)
 ns:h.Ns1 dx mA
 ne:dx≠x
def wZ{h:XAA}(n:h.Ns1 g d):∃b,h.get? g=Y b/\∀name,PySem.W.lookIn name b=Y (d name):=by
 obtain⟨o,f,s,j,hd,m,_,l⟩:=n;refine⟨o,j,λname=>?_⟩;have e:=l name;unfold nsFind findBy at e;rw[← Array.find?_toList]at e;unfold PySem.W.lookIn;rw[hd];dsimp only;split
 ·rename_i y q;rw[q]at e;exact congrArg Y e
 ·rename_i q;rw[q]at e;have a:f.toList.any (·.refKey)=B:=by
   rw[List.any_eq_false];intro y i;obtain⟨z,t,r⟩:=m y (Array.mem_toList_iff.mp i);simp[DictEntry.refKey,r]
  have p:¬f.toList.any (·.refKey)=L:=by rw[a];exact Zd
  rw[Zl p];exact congrArg Y e
def LK.look(I:LK h x d C b):∃a,PySem.W.InstAt h x (PySem.W.instObj C d) C (Y a)/\∀name,PySem.W.lookIn name a=Y (b name) :=
 let ⟨a,e,f⟩:=wZ I.ns
 ⟨a,⟨I.obj,rfl,rfl,e⟩,f⟩
section
variable{K:X0}
def get_map{s:IR}(X:K.In s.heap)(I:LK s.heap x dx C mA)(g:PySem.W.plainGet K C name=L)(e:PySem.W.hasDictIn K C=L)(i:PySem.W.findIn K (.ref C) name=Y O)(b:mA name=Y v)(j:PySem.W.handedIn v=L)(h:Q v { s with toks:=s.toks+1 }) :
  PP `ax A (getAttr (.ref x) name a) Q E s:=by
 obtain⟨m,l,d⟩:=I.look;exact PySem.W.get_value X l (Va g).1 (PySem.W.findObj_own e i M (by rw[d,b])) j h
def xX{s:IR}(X:K.In s.heap)(I:LK s.heap x dx C mA)(a:PySem.W.plainGet K C name=L)(j:PySem.W.findIn K (.ref C) name=Y (Y (.ref f)))(g:PySem.W.isFn K (.ref f)=L)(e:mA name=O)(h:Q (.ref f,[.ref x]) s) :
  PP `ax A (getMethod (.ref x) name b) Q E s:=by
 obtain⟨d,l,i⟩:=I.look;exact PySem.W.method_fn X l (Va a).1 (Va a).2 j (beq_iff_eq.mp g) (by show (PySem.W.lookIn name d).map (·.isSome)=Y B;rw[i,e];rfl) h
def Cf{s:IR}(X:K.In s.heap)(I:LK s.heap x dx C mA)(t:PySem.W.findIn K (.ref C) "__setattr__" = Y (Y (.builtin "object.__setattr__")))(u:PySem.W.plainOver K C=L)(q:PySem.W.takerIn K C name=Y O)(z:PySem.W.hasDictIn K C=L)(hw:PySem.Within mA l)(e:l.length<=KF)(h:∀d,LK d x dx C (λy=>if y=name then Y v else mA y)->Heap.SameBut dx s.heap d->Q () { s with heap:=d,toks:=s.toks+2 }) :
  PP `ax A (setAttr (.ref x) name v) Q E s:=by
 obtain⟨J,o,N⟩:=I.look;refine PySem.W.set_plain X o t (PySem.W.osa_open (s:={ s with toks:=s.toks+1 }) (r:=none) X o u q λb=>?_);obtain⟨cd,D,H⟩:=PySem.W.any_some z;have p:s.heap.get? x=Y ⟨.ref C,Y dx,.plain,#[]⟩:=I.obj;refine Zu (Zn (Zu (Zu (wpAny_loadPart p (Zu (PySem.W.Looks.here (s:={ s with toks:=s.toks+1 }) (PySem.W.looks_clsIn X D) ?_))))));rw[H];refine Zn (a:=Y dx) (Zu (Zn (Zu ?_)));refine wpAny_nsSet1 (s:={ s with toks:=s.toks+1 }) I.ns λd m n=>?_;obtain⟨M,F,G,g,i,j⟩:=m.count (PySem.Within.cons name v hw);refine Zu (wpAny_lookBehind g (by rw[i];exact pastItsLine_dict (ZL j (by rw[Zg];exact Xo e))) ?_);exact Zn (h _ ⟨(n.2 _ (YH I.ne)).trans I.obj,m,I.ne⟩ n)
def yA{A:SC}{s:IR}(X:K.In s.heap)(e:PySem.W.makesIn K C=L)(i:PySem.W.findIn K (.ref C) "__init__" = Y (Y (.ref f)))(j:PySem.W.typeIn K (.ref f)=Y (.type "function"))(h:codeAny `ax (A.under (.builtin "type.__call__" ⟨.ref C :: a,b⟩)) (.call (.ref f) ⟨.ref (s.heap.objs.size+1) :: a,b⟩) (PySem.W.InitBack (s.heap.objs.size+1) R)
   { s with heap:=(s.heap.push PySem.W.emptyDict).push (PySem.W.instObj C s.heap.objs.size) }) :
  codeAny `ax A (.call (.ref C) ⟨a,b⟩) R s:=by
 obtain⟨l,g,d,t,os⟩:=s;exact PySem.W.make_core (PySem.W.makes_of X e) (PySem.W.looks_findIn X i) (λself=>PySem.W.bind_fn X self j) (.inl M) h
end
noncomputable def iK(f:Str)(v:V):List (Str×V)->List (Str×V)
 |[]=>[(f,v)]
 | (g,x) :: r=>if g=f then (g,v) :: r else (g,x) :: iK f v r
theorem l8(f g:Str)(v:V):∀fs:List (Str×V),(iK f v fs).lookup g=if g=f then Y v else fs.lookup g
 |[]=>by
  show List.lookup g [(f,v)]=_;by_cases h:g=f
  ·have hb:(g==f)=L:=beq_iff_eq.mpr h;simp only[List.lookup,hb,Zo h]
  ·have hb:(g==f)=B:=KS.mpr h;simp only[List.lookup,hb,Zl h]
 | (k,x) :: r=>by
  have b:=l8 f g v r;rw[show iK f v ((k,x) :: r)=(if k=f then (k,v) :: r else (k,x) :: iK f v r) from rfl];by_cases a:k=f
  ·rw[Zo a];by_cases h:g=k
   ·have hb:(g==k)=L:=beq_iff_eq.mpr h;simp only[List.lookup,hb,Zo (h.trans a)]
   ·have hb:(g==k)=B:=KS.mpr h;simp only[List.lookup,hb,Zl (λe:g=f=>h (e.trans a.symm))]
  ·rw[Zl a];by_cases h:g=k
   ·have hb:(g==k)=L:=beq_iff_eq.mpr h;simp only[List.lookup,hb,Zl (λe:g=f=>a (h.symm.trans e))]
   ·have hb:(g==k)=B:=KS.mpr h;simp only[List.lookup,hb];exact b
theorem lC(f:Str)(v:V):∀fs:List (Str×V),f∈(iK f v fs).map (·.1)/\∀g,g∈fs.map (·.1)->g∈(iK f v fs).map (·.1)
 |[]=>⟨by simp[iK],λg h=>by simp at h⟩
 | (k,x) :: r=>by
  obtain⟨d,b⟩:=lC f v r;rw[show iK f v ((k,x) :: r)=(if k=f then (k,v) :: r else (k,x) :: iK f v r) from rfl];by_cases a:k=f
  ·rw[Zo a];subst a;exact⟨by simp,λg h=>by simpa using h⟩
  ·rw[Zl a];refine⟨?_,λg h=>?_⟩
   ·rw[Zc];exact Zv _ d
   ·rw[Zc]at h ⊢;rcases Zj.mp h with e | e
    ·exact Zj.mpr (.inl e)
    ·exact Zv _ (b g e)
theorem lW(f:Str)(v:V):∀fs:List (Str×V),(iK f v fs).length<=fs.length+1
 |[]=>by simp[iK]
 | (k,x) :: r=>by
  have b:=lW f v r;rw[show iK f v ((k,x) :: r)=(if k=f then (k,v) :: r else (k,x) :: iK f v r) from rfl];by_cases a:k=f
  ·rw[Zo a,Zg,Zg];exact ZQ _ _
  ·rw[Zl a,Zg,Zg];exact Xo b
def iN.some_of{v:V}{o:Vv}(r:iN (Y v) o):∃u,o=Y u/\RelV v u:=by
 cases o with
 |none=>exact(show False from r).elim
 |some u=>exact⟨u,rfl,r⟩
def iN.none_of(r:iN O o):o=O:=by
 cases o with
 |none=>rfl
 |some u=>exact(show False from r).elim
def xw(r:RelV v u):PySem.W.handedIn u=L:=by
 cases v with
 |non=>cases (show u=Value.none from r);rfl
 |bl b=>cases (show u=Value.bool b from r);rfl
 |int i=>obtain⟨t,e⟩:=(show ∃t,u=Value.int i t from r);cases e;rfl
 |str x=>obtain⟨t,e⟩:=(show ∃t,u=Value.str x t from r);cases e;rfl
 |byt b=>obtain⟨t,e⟩:=(show ∃t,u=Value.bytes b t from r);cases e;rfl
 |flt b=>obtain⟨t,e⟩:=(show ∃t,u=Value.float b t from r);cases e;rfl
 |ref a=>cases (show u=Value.ref a from r);rfl
 |ty n=>cases (show u=Value.type n from r);rfl
section
def q9(i:Ju P w H h)(e:H a=Y (.ins C dx fs)):∃b,LK h a dx C b/\(∀f,iN (fs.lookup f) (b f))/\PySem.Within b (fs.map (·.1))/\fs.length<=1000/\H dx=Y (.own a):=by
 obtain⟨d,z,ne,g,b,n,r,q⟩:=(show bX P w H h a (.ins C dx fs) from i a _ e)
 exact⟨b,⟨g,n,ne⟩,r,q,z,d⟩
end
structure Kh(K:X0)(C:KM):Prop where
 pg:PySem.W.plainGet K C Str.empty=true
 hd:PySem.W.hasDictIn K C=true
 po:PySem.W.plainOver K C=true
 sa:PySem.W.findIn K (.ref C) "__setattr__" = some (some (.builtin "object.__setattr__"))
def Kh.get{K:X0}(c:Kh K C)(f:Str):PySem.W.plainGet K C f=L:=c.pg
def cZ(K:X0)(C:KM)(f:Str):Prop:=PySem.W.findIn K (.ref C) f=Y O
def cZ.PK{K:X0}(n:cZ K C f):PySem.W.takerIn K C f=Y O:=by
 unfold PySem.W.takerIn;rw[show PySem.W.findIn K (.ref C) f=Y O from n];rfl
structure Meth(K:X0)(C:KM)(m:Str)(f:KM):Prop where
 at_:PySem.W.findIn K (.ref C) m=some (some (.ref f))
 fn:PySem.W.isFn K (.ref f)=true
 kp:PySem.W.keepIn K (.ref f)=true
section
def uQ(I:`a_)(e:H a=Y (.ins C dx fs))(c:Kh X.K C)(n:cZ X.K C f)(l:fs.lookup f=Y v)(h:∀u d,Inv X pins J H d->RelV v u->Q u d):PP `ay A (getAttr (.ref a) f b) Q E s:=by
 obtain⟨i,O,r,_,_,_⟩:=q9 I.Ip e;obtain⟨u,j,g⟩:=iN.some_of (v:=v) (o:=i f) (by rw[← l];exact r f);exact get_map I.LS O (c.get f) c.hd n j (xw g) (h u _ (I.tok _) g)
def oo(I:`a_)(e:H a=Y (.ins C dx fs))(c:Kh X.K C)(k:Meth X.K C m g)(l:fs.lookup m=none)(h:Q (.ref g,[.ref a]) s):PP `ay A (getMethod (.ref a) m b) Q E s:=by
 obtain⟨d,O,r,_,_,_⟩:=q9 I.Ip e;have i:d m=none:=iN.none_of (by rw[← l];exact r m);exact xX I.LS O (c.get m) k.at_ k.fn i h
def ui(I:`a_)(e:H a=Y (.ins C dx fs))(c:Kh X.K C)(n:cZ X.K C f)(G:fs.length<1000)(p:RelV y u)(h:∀j,Inv X pins J (upd H a (.ins C dx (iK f y fs))) j->Q () j):PP `ay A (setAttr (.ref a) f u) Q E s:=by
 obtain⟨l,O,r,i,_,m⟩:=q9 I.Ip e;have t:(fs.map (·.1)).length<=sizeLine:=by rw[Zt,WY];lia
 refine Cf I.LS O c.sa c.po n.PK c.hd i t λD d sb=>h _ ?_;have hd:∃o,D.get? dx=Y o:=let ⟨o,_,_,F,_⟩:=d.ns;⟨o,F⟩
 refine I.write (x:=a) (e:=dx) (by rw[e];exact True.intro) (.inr m) (λb q hb z=>(sb.2 b hb).trans z) hd ?_;refine⟨by rw[aE O.ne];exact m,?_,O.ne,d.obj,_,d.ns,λg=>?_,λg hg=>?_⟩
 ·have:=lW f y fs;lia
 ·show iN ((iK f y fs).lookup g) (if g=f then Y u else l g);rw[l8];by_cases q:g=f
  ·rw[Zo q,Zo q];exact p
  ·rw[Zl q,Zl q];exact r g
 ·by_cases q:g=f
  ·rw[q];exact(lC f y fs).1
  ·refine(lC f y fs).2 g (i g λz=>hg ?_);show (if g=f then Y u else l g)=none;rw[Zl q];exact z
def Inv.made(I:`a_):Inv X pins J (upd (upd H s.heap.objs.size (.own (s.heap.objs.size+1))) (s.heap.objs.size+1) (.ins C s.heap.objs.size []))
  { s with heap:=(s.heap.push PySem.W.emptyDict).push (PySem.W.instObj C s.heap.objs.size) }:=by
 have e1:(s.heap.push PySem.W.emptyDict).get? s.heap.objs.size=Y PySem.W.emptyDict:=ZV s.heap M;have e2:((s.heap.push PySem.W.emptyDict).push (PySem.W.instObj C s.heap.objs.size)).get? (s.heap.objs.size+1)=Y (PySem.W.instObj C s.heap.objs.size):=by
  have:=ZV (s.heap.push PySem.W.emptyDict) (o:=PySem.W.instObj C s.heap.objs.size) M
  rwa [YJ]at this
 have e3:(s.heap.push PySem.W.emptyDict).Ns s.heap.objs.size (λ_=>O):=⟨PySem.W.emptyDict,#[],_,e1,rfl,(λe he=>absurd he (by simp)),λ_=>rfl⟩
 have g:=I.laid (a:=s.heap.objs.size) (o:=.own (s.heap.objs.size+1)) (h':=s.heap.push PySem.W.emptyDict) (t':=s.toks) (λb u q=>Zm _ q) (Zp _) ⟨_,e1⟩;refine g.laid (a:=s.heap.objs.size+1) (o:=.ins C s.heap.objs.size []) (t':=s.toks) (λb u q=>Zm _ q) (X2 (YJ _ _)) ?_;have ne:s.heap.objs.size≠s.heap.objs.size+1:=Ze (Yn _);refine⟨by rw[aE ne,aw],ZD _,ne,e2,λ_=>O,(Heap.Ns1.of_empty e3).at λo q=>Zm _ q,λ_=>True.intro,λy d=>absurd M d⟩
def C2{f:Str}{s:IR}(j:XAC e f d (eval e d)=eval e d)(h:PP (KB b w) A (eval e d) (λo i=>PP (KB b w) A (getAttr o f L) Q E i) E s):PP (KB b w) A (eval (.Attribute e f g) d) Q E s :=
 Attribute_any_ h (by rw[arm_eval_Attribute,j])
end
def HN(K:X0)(ta:TE)(f:Str):TE:=λJ H Q=>ta J H λx b=>∃a C d fs v,x=.ref a/\b a=Y (.ins C d fs)/\Kh K C/\cZ K C f/\fs.lookup f=Y v/\Q v b
def Ig(K:X0)(ta e:TE)(f:Str):TS:=λD J H=>e J H λy g=>ta J g λx d=>∃a C b fs,x=.ref a/\d a=Y (.ins C b fs)/\Kh K C/\cZ K C f/\fs.length<1000 ∧
 D.nx J (upd d a (.ins C b (iK f y fs)))
section
def zO(he:PE X e ta)(i:XAC e f X.env (eval e X.env)=eval e X.env):PE X (.Attribute e f pos) (HN X.K ta f):=by
 intro b s J H Q I h;refine C2 i (thn (he b s J H _ I h) λu s1 ⟨x,r,p,d,a,C,y,fs,v,ex,j,c,n,l,q⟩=>?_);subst ex;obtain rfl:u=Value.ref a:=d;exact uQ p j c n l λt w m g=>⟨v,r,m,g,q⟩
def Ee{pos:Pos}(p:PE X o ta)(j:PE X value tv)(m:swapsWith value (Y (.Attribute o f pos')) pos.line X.env=pure B):PS X (.Assign [.Attribute o f pos'] value pos) (Ig X.K ta tv f):=by
 intro b s J H D I h;refine plainObj_wpAny_Assign_Attribute (thn (j b s J H _ I h) λu s1 ⟨y,z,w,d,q⟩=>thn (p b s1 J z _ w q) λov E ⟨x,G,v,g,a,C,F,fs,ex,r,c,n,l,i⟩=>?_) m;subst ex;obtain rfl:ov=Value.ref a:=g;exact ui v r c n l d λA t=>⟨J,_,t,i⟩
end
structure Im(k:Nat)(A:SC):Prop where
 hd:A.handled=none
 dp:A.depth+3*k+5<recursionLimit
 un:A.units+16*k+200<cLine
def Im.mono{k:Nat}(r:Im k A)(h:j<=k):Im j A:=⟨r.hd,by have:=r.dp;lia,by have:=r.un;lia⟩
theorem Im.deeper(r:Im (k+1) A)(a:Env):Im k (A.deeper a) :=
 ⟨r.hd,by have:=r.dp;show A.depth+1+3*k+5<_;lia,by have:=r.un;show A.units+3+16*k+200<_;lia⟩
def uF{A:SC}:(A.under (.builtin "type.__call__" ⟨.ref C :: a,b⟩)).depth=A.depth+1:=by
 first | rfl | simp[Around.under,Code.weight,Code.isCreation,Code.isGuard,Code.isCaller,Code.frames,Code.isFrame,guardIds]
def tZ{A:SC}:(A.under (.builtin "type.__call__" ⟨.ref C :: a,b⟩)).units=A.units+1:=by
 first | rfl | simp[Around.under,Code.cUnits,Code.frames,Code.isFrame]
def Im.make(r:Im (k+1) A)(C:KM)(a:W7)(b:List (Str×On)):Im k (A.under (.builtin "type.__call__" ⟨.ref C :: a,b⟩)) :=
 ⟨r.hd,by have:=r.dp;rw[uF];lia,by have:=r.un;rw[tZ];lia⟩
theorem Im.depth(r:Im k A):A.depth<recursionLimit:=by have:=r.dp;lia
theorem Im.units(r:Im k A):A.units+64<cLine:=by have:=r.un;lia
noncomputable def xE:TA:=λ_ H Q=>Q [] H
noncomputable def C8(ta:TE)(b:TA):TA:=λJ H Q=>ta J H λx e=>b J e λa d=>Q (x :: a) d
section
def ft:PA X [] xE:=λ_ _ _ _ H Q I h=>Calls.spliced_nil ⟨[],H,I,.nil,h⟩
def df(j:PE X e te)(i:PA X es t)(g:{`q1,K1 e es X}):PA X (e :: es) (C8 te t):=by
 intro pos a s J H Q I h;rw[g];show PP _ _ (spliced ((B,eval e X.env) :: backTo pos (Pv es X.env))) _ _ s;refine Calls.spliced_cons (thn (j a s J H _ I h) λu s1 ⟨x,o,m,r1,f⟩=>?_);exact thn (i pos a s1 J o _ m f) λp q ⟨b,n,l,r2,d⟩=>⟨x :: b,n,l,.cons r1 r2,d⟩
def HD(t:TA):TE:=λJ H Q=>t J H λa b=>a.length<=KF/\∀p,b p=O->Q (.ref p) (upd b p (.tup a))
def HR(t:TA):TE:=λJ H Q=>t J H λa b=>a.length<=KF/\∀p,b p=O->Q (.ref p) (upd b p (.lst a))
def Ej{x1}(h:PA X es t):PE X (.Tuple es x1 pos) (HD t):=by
 intro a s J H Q I j;refine wpAny_Tuple_spliced (thn (h pos a s J H _ I j) λi s1 ⟨g,f,d,r,z,q⟩=>⟨by rw[← r.length];exact z,?_⟩);have l:f s1.heap.objs.size=O:=d.Ip.fresh (Zp _);refine⟨.ref s1.heap.objs.size,upd f s1.heap.objs.size (.tup g),d.laid (t':=s1.toks) (λb u e=>Zm _ e) (Zp _) ?_,rfl,q _ l⟩;exact⟨z,i,r,NS.of (ZV _ M) M,⟨_,ZV _ M,rfl,_,rfl⟩⟩
def yD(h:PA X es t):PE X (.List es pos) (HR t):=by
 intro a s J H Q I j;refine wpAny_List_spliced (thn (h pos a s J H _ I j) λi s1 ⟨g,f,d,r,z,q⟩=>⟨by rw[← r.length];exact z,?_⟩);have l:f s1.heap.objs.size=O:=d.Ip.fresh (Zp _);refine⟨.ref s1.heap.objs.size,upd f s1.heap.objs.size (.lst g),d.laid (t':=s1.toks) (λb u e=>Zm _ e) (Zp _) ?_,rfl,q _ l⟩;exact⟨z,i,0,r,ZV _ M⟩
end
abbrev Sp:=List V->Hp->VK->XK->Prop
abbrev Mx:=List Env->Hp->IR->XK->Yx
structure Env0(P:Re)(w:XAB)(K:X0)(mg:Wq)(base:XAA)(A:SC)(outer:List Env)(s:IR)(H:Hp):Prop where
 frames:A.frames=some outer
 mod:Mod K mg base
 tb:∀b q,Tb base b q->H b=some (.tbl q)
 bs:∀b o,base.get? b=some o->s.heap.get? b=some o/\H b=none
 NO:base.objs.size<=s.heap.objs.size
 JR:s.heap.FunFrames base outer
 OY:∀b∈JB outer,H b=none
 Ip:Ju P w H s.heap
 bare:AllBare s.gens
def CE(a:List Env)(P:Re)(w:XAB)(H:Hp)(s:IR)(Q:VK)(u:On)(b:IR):Prop :=
 ∃v d,b.os=s.os/\AllBare b.gens/\Un (JB a) [] H d s.heap b.heap/\Ju P w d b.heap/\RelV v u/\Q v d
def CR(d:Mx)(a:List Env)(P:Re)(w:XAB)(H:Hp)(s:IR)(Q:VK)(E:XK)(r:Result)(b:IR):Prop :=
 match r with
 |.ok (.ret u)=>CE a P w H s Q u b
 |.ok _=>False
 |.error e=>d a H s E e b
structure FnOk(P:Re)(w:XAB)(K:X0)(mg:Wq)(base:XAA)(CX:Mx)(k:Nat)(f:KM)(fd:P3)(ps:List Str)(sp:Sp):Prop where
 len:∀vs H Q E,sp vs H Q E->vs.length=ps.length
 run:∀(A:SC)(outer:List Env)(s:IR)(H:Hp)(args:Args)(us:W7)(vs:List V)(Q:VK)(E:XK),Im k A->Env0 P w K mg base A outer s H->BindsTo s fd args (ps.zip us)->aQ vs us->sp vs H Q E →
  codeAny (KB P w) A (.call (.ref f) args) (CR CX outer P w H s Q E) s
def FnOk.imp{K:X0}(F:FnOk P w K g a l k f i e d)(h:∀b H Q E,j b H Q E->d b H Q E):FnOk P w K g a l k f i e j :=
 ⟨λb H Q E q=>F.len b H Q E (h _ _ _ _ q),λA outer s H args m b Q E p he hb n o=>F.run A outer s H args m b Q E p he hb n (h _ _ _ _ o)⟩
def Env0.make{K:X0}(e:Env0 P w K d b A a s H)(C:KM)(f:W7)(g:List (Str×On)) :
  Env0 P w K d b (A.under (.builtin "type.__call__" ⟨.ref C :: f,g⟩)) a s H:=⟨by first | exact e.frames | (simpa[Around.under,Code.envs,Code.isFrame,pushEnvs] using e.frames),e.mod,e.tb,e.bs,e.NO,e.JR,e.OY,e.Ip,e.bare⟩
section
def Inv.Rn(I:`a_):Env0 X.prog X.w X.K X.mg X.base X.A X.stack s H :=
 ⟨I.ok.frames,I.ok.mod,I.tb,I.bs,ZL I.ok.NO I.sz,I.stack,I.LN,I.Ip,I.bare⟩
def Inv.after(I:`a_)(h:CE X.stack X.prog X.w H s Q u s'):EP X pins J Q u s':=by
 obtain⟨v,f,os,bare,un,Ip,r,q⟩:=h;obtain⟨a,g,d,t,e⟩:=s';obtain rfl:e=s.os:=os;exact⟨v,f,I.call (h':=a) (g':=g) (d':=d) (t':=t) (ch:=[]) un Ip bare (λb z=>absurd z (by simp)),r,q⟩
end
noncomputable def Dp(b:Sp)(d:List V)(E:XK)(t:TA):TE:=λJ H Q=>t J H λa e=>b (a++d) e Q E
def vz(C:KM)(m:Str)(e:Sp)(g:List V)(E:XK)(ta:TE)(t:TA):TE:=λJ H Q=>ta J H λx b=>∃a f fs,x=.ref a/\b a=Y (.ins C f fs)/\fs.lookup m=O ∧
 t J b λd h=>e (x :: (d++g)) h Q E
def DC(C:KM)(e:Sp)(f:List V)(E:XK)(t:TA):TE:=λJ H Q=>t J H λd b=>∀x a,b x=O->b a=O->a≠x →
 e (.ref x :: (d++f)) (upd (upd b a (.own x)) x (.ins C a [])) (λv g=>v=.non/\Q (.ref x) g) E
def Binds(K:X0)(d:P3)(b:List Str)(ds:W7):Prop :=
 ∀(s:IR)(a:W7),K.In s.heap->(a++ds).length=b.length->BindsTo s d ⟨a,[]⟩ (b.zip (a++ds))
def Binds.all{K:X0}{b:List Str}(h:∀a:W7,a.length=b.length->bindArgs e ⟨a,[]⟩=pure (b.zip a)):Binds K e b []:=λs a _ d=>by
 rw[ZE]at d ⊢;exact .of_eq (h a d)
def j9(d:Mx)(X:Cx)(E:XK):Prop:=∀(a:Yw)(J:St)(H:Hp)(s:IR)(e:On)(b:IR),Inv X a J H s->d X.stack H s E e b->X.xe e b
section
def uB{X:Cx}{us:W7}{vs:List V}(F:FnOk X.prog X.w X.K X.mg X.base CX k f fd ps sp)(i:Im k X.A)(n:Binds X.K fd ps ds)(l:aQ Ko ds)(g:j9 CX X E)(I:Inv X a J H s)(r:aQ vs us)(h:sp (vs++Ko) H Q E):PP `ay X.A (call (.ref f) us) (EP X a J Q) X.xe s:=by
 have r2:aQ (vs++Ko) (us++ds):=r.append l;have j:(us++ds).length=ps.length:=by rw[← r2.length];exact F.len _ _ _ _ h
 refine wpAny_call (WR (F.run X.A X.stack s H ⟨us,[]⟩ (us++ds) (vs++Ko) Q E i I.Rn (n s us I.LS j) r2 h) λr d b=>?_);cases r with
 |error e=>exact g a J H s e d I b
 |ok q =>
  cases q with
  |ret u=>exact I.after b
  |next=>exact False.elim b
  |brk=>exact False.elim b
  |cont=>exact False.elim b
def vI{X:Cx}(F:FnOk X.prog X.w X.K X.mg X.base CX k f fd ps sp)(i:Im k X.A)(n:Gl X x)(j:X.mg x=Y (.ref f))(l:PySem.W.keepIn X.K (.ref f)=L)(v:Binds X.K fd ps ds)(u:aQ Ko ds)(g:j9 CX X E)(y:PA X (e :: es) t)(z:{`q0,K3 x})(he:{`q1,K1 e es X})(b:{`q1,K2 pos es X}) :
  PE X (.Call (.Name x p) (e :: es) [] pos) (Dp sp Ko E t):=by
 intro a s J H Q I h;refine Vx (uW I n j ?_ z);refine PySem.W.callWith_K (h₀:=X.base) I.ok.mod.Sa l (thn (y pos a s J H _ I h) λG s1 ⟨D,M,d,r,q⟩=>⟨d.LS,?_⟩) he b;exact uB F i v u g d r q
def v7(he:PE X o ta)(c:Kh X.K C)(g:Meth X.K C m f)(F:FnOk X.prog X.w X.K X.mg X.base CX k f fd ps sp)(D:Im k X.A)(N:Binds X.K fd ps ds)(G:aQ Ko ds)(y:j9 CX X E)(P:PA X (e :: es) t)(S:{`q1,K1 e es X})(d:{`q1,K2 pos es X})(z:{`q1,eval (.Call (.Attribute o m apos) (e :: es) [] pos) X.env=(do
   let ov ← eval o X.env
   standAt apos.atName
   let (f,first) ← holding [ov] (getMethod ov m pl)
   callWith pos f first (backTo pos (Pv (e :: es) X.env)) (backToKw pos (SZ [] X.env)))}) :
  PE X (.Call (.Attribute o m apos) (e :: es) [] pos) (vz C m sp Ko E ta t):=by
 intro b s J H Q I h;refine PySem.W.methodCall_KW (pl:=pl) (thn (he b s J H _ I h) λu s1 ⟨x,U,j,n,a,dx,fs,ex,R,l,q⟩=>?_) z;subst ex;obtain rfl:u=Value.ref a:=n;refine oo j R c g l ?_;refine PySem.W.callWith_K (first:=[.ref a]) (h₀:=X.base) I.ok.mod.Sa g.kp (thn (P pos b s1 J U _ j q) λus Z ⟨vs,H2,i,r,v⟩=>⟨i.LS,?_⟩) S d;exact uB (us:=.ref a :: us) (vs:=.ref a :: vs) F D N G y i (.cons M r) v
def zp(he:PE X o ta)(c:Kh X.K C)(g:Meth X.K C m f)(F:FnOk X.prog X.w X.K X.mg X.base CX k f fd ps sp)(r:Im k X.A)(y:Binds X.K fd ps ds)(v:aQ Ko ds)(j:j9 CX X E)(n:{`q1,eval (.Call (.Attribute o m apos) [] [] pos) X.env=(do
   let ov ← eval o X.env
   standAt apos.atName
   let (f,first) ← holding [ov] (getMethod ov m pl)
   callWith pos f first (backTo pos (Pv [] X.env)) (backToKw pos (SZ [] X.env)))}) :
  PE X (.Call (.Attribute o m apos) [] [] pos) (vz C m sp Ko E ta xE):=by
 intro b s J H Q I h;refine PySem.W.methodCall_KW (pl:=pl) (thn (he b s J H _ I h) λu s1 ⟨x,G,d,i,a,D,fs,ex,z,l,q⟩=>?_) n;subst ex;obtain rfl:u=Value.ref a:=i;refine oo d z c g l ?_;exact PySem.W.callWith_K0 (first:=[.ref a]) d.LS g.kp (uB (us:=[.ref a]) (vs:=[.ref a]) F r y v j d (.cons M .nil) q)
structure Mk(K:X0)(C f:KM):Prop where
 makes:PySem.W.makesIn K C=true
 init:PySem.W.findIn K (.ref C) "__init__" = some (some (.ref f))
 fn:PySem.W.isFn K (.ref f)=true
 kp:PySem.W.keepIn K (.ref C)=true
def zy{X:Cx}{us:W7}(M:Mk X.K C f)(F:FnOk X.prog X.w X.K X.mg X.base CX k f fd ps sp)(z:Im (k+1) X.A)(N:Binds X.K fd ps ds)(G:aQ Ko ds)(y:j9 CX X E)(I:Inv X a J H s)(r:aQ i us)(h:∀x d,H x=O->H d=O->d≠x->sp (.ref x :: (i++Ko)) (upd (upd H d (.own x)) x (.ins C d [])) (λv S=>v=.non/\Q (.ref x) S) E) :
  PP `ay X.A (call (.ref C) us) (EP X a J Q) X.xe s:=by
 have j:=h (s.heap.objs.size+1) s.heap.objs.size (I.Ip.fresh (XT _)) (I.Ip.fresh (Zp _)) (Ze (Yn _));have g:=Inv.made (C:=C) I;have r2:aQ (V.ref (s.heap.objs.size+1) :: (i++Ko)) (Value.ref (s.heap.objs.size+1) :: (us++ds)):=.cons rfl (r.append G);have D:(Value.ref (s.heap.objs.size+1) :: us++ds).length=ps.length:=by
  have e:=r2.length;rw[F.len _ _ _ _ j]at e;exact e.symm
 refine wpAny_call (yA (f:=f) I.LS M.makes M.init (beq_iff_eq.mp M.fn) (WR (F.run _ X.stack _ _ ⟨Value.ref (s.heap.objs.size+1) :: us,[]⟩ (Value.ref (s.heap.objs.size+1) :: (us++ds)) _ _ E (z.make C us [])
  (g.Rn.make C us []) (N _ (Value.ref (s.heap.objs.size+1) :: us) g.LS D) r2 j) λr l b=>?_))
 cases r with
 |error e=>exact y a J _ _ e l g b
 |ok P =>
  cases P with
  |ret u =>
   obtain⟨v,U,R,n,ev,q⟩:=g.after b;subst ev;exact⟨n,⟨V.ref (s.heap.objs.size+1),U,R,rfl,q⟩⟩
  |next=>exact False.elim b
  |brk=>exact False.elim b
  |cont=>exact False.elim b
def yf{X:Cx}(M:Mk X.K C f)(F:FnOk X.prog X.w X.K X.mg X.base CX k f fd ps sp)(d:Im (k+1) X.A)(i:Gl X x)(g:X.mg x=Y (.ref C))(l:Binds X.K fd ps ds)(j:aQ Ko ds)(b:j9 CX X E)(n:{`q0,K3 x}):PE X (.Call (.Name x p) [] [] pos) (DC C sp Ko E xE):=by
 intro a s J H Q I h;refine Vx (uW I i g ?_ n);exact PySem.W.callWith_K0 I.LS M.kp (zy (us:=[]) M F d l j b I .nil h)
end
structure Il(N P:List Str)(sc:Scope):Prop where
 kind:sc.kind=.function
 co:sc.isCoroutine=false
 gen:sc.isGenerator=false
 nd:N.Nodup
 pre:N.take P.length=P
 par:∀x∈P,sc.names.lookup x=some .local\/sc.names.lookup x=some .cell
 Oy:∀y∈sc.names,y.2 ≠ .free
theorem pj:∀{binds:List (Str×On)}{m:Wq},(∀v,(x,v)∉binds)->bindL a binds m x=m x
 |[],_,_=>rfl
 | (n,v) :: r,m,h=>by
  unfold bindL;rw[pj λw hw=>h w (Zv _ hw)];split
  ·have:x≠n:=by rintro rfl;exact h v Zx
   simp[this]
  ·rfl
theorem oR:∀{binds:List (Str×On)}{m:Wq},(∀v,(x,v)∉binds)->bindC a binds m x=m x
 |[],_,_=>rfl
 | (n,v) :: r,m,h=>by
  unfold bindC;rw[oR λw hw=>h w (Zv _ hw)];split
  ·rfl
  ·have:x≠n:=by rintro rfl;exact h v Zx
   simp[this]
theorem o9:∀{P:List Str}{b:W7}{i:Nat}{m:Wq},P.Nodup->P[i]?=Y x->b[i]?=Y v->a x=Y .local →
  bindL a (P.zip b) m x=Y v
 |[],_,_,_,_,h,_,_=>by simp at h
 |_ :: _,[],_,_,_,_,h,_=>by simp at h
 |p :: P,w :: b,0,m,nd,e,d,f=>by
  simp at e d;subst e;subst d;show bindL a ((p,w) :: P.zip b) m p=_;unfold bindL;rw[pj λv g=>(ZY.mp nd).1 (List.of_mem_zip g).1,Zo f];simp
 |p :: P,w :: b,i+1,m,nd,e,d,f=>by
  show bindL a ((p,w) :: P.zip b) m x=_;unfold bindL;exact o9 (i:=i) (ZY.mp nd).2 (by simpa using e) (by simpa using d) f
theorem oQ:∀{P:List Str}{b:W7}{i:Nat}{m:Wq},P.Nodup->P[i]?=Y x->b[i]?=Y v->a x≠Y .local →
  bindC a (P.zip b) m x=Y v
 |[],_,_,_,_,h,_,_=>by simp at h
 |_ :: _,[],_,_,_,_,h,_=>by simp at h
 |p :: P,w :: b,0,m,nd,e,d,f=>by
  simp at e d;subst e;subst d;show bindC a ((p,w) :: P.zip b) m p=_;unfold bindC;rw[oR λv g=>(ZY.mp nd).1 (List.of_mem_zip g).1,Zl f];simp
 |p :: P,w :: b,i+1,m,nd,e,d,f=>by
  show bindC a ((p,w) :: P.zip b) m x=_;unfold bindC;exact oQ (i:=i) (ZY.mp nd).2 (by simpa using e) (by simpa using d) f
noncomputable def start(N:List Str)(a:List V):St:=a.map Y++List.replicate (N.length-a.length) O
def jC(j:Mx)(P:Re)(w:XAB)(K:X0)(m:Wq)(h:XAA)(N:List Str)(d:Str)(a:Scope)(f:KM)(g:On)(A:SC)(b:List Env)(s:IR)(H:Hp)(E:XK):Cx where
 prog:=P
 w:=w
 K:=K
 mg:=m
 base:=h
 A:=A.deeper (envOfC d a s.heap.objs.size f g)
 N:=N
 s₀:=s
 H₀:=H
 env:=envOfC d a s.heap.objs.size f g
 outer:=b
 stack:=envOfC d a s.heap.objs.size f g :: b
 ex:=[]
 calm:=L
 fn:=λ_=>L
 pn:=[]
 xe:=λe l=>PP (KB P w) (A.deeper (envOfC d a s.heap.objs.size f g)) (leaving (envOfC d a s.heap.objs.size f g) e) (λ_ i=>j b H s E e i) (λn i=>j b H s E n i) l
def rQ{a:Scope}{n:Nat}(h:a.names.lookup x=Y .cell):∃c,(cellsFrom n a.names []).lookup x=Y c:=by
 have q:=PySem.W.cellsFrom_some a.names n [] (.inl h);exact Yb.mp q
def wM{K:X0}{A:SC}{t:List V}(S:Il N C d)(hd:A.handled=O)(m:Env0 P w K X o A g s H)(hl:t.length=C.length)(r:aQ t U)(x:InCallC s s.heap.objs.size (bindL (envOfC j d s.heap.objs.size f R).kindOf (C.zip U) λ_=>O) (cellsFrom (s.heap.objs.size+1) d.names []) (bindC (envOfC j d s.heap.objs.size f R).kindOf (C.zip U) λ_=>O) s1) :
  Inv (jC CX P w K X o N j d f R A g s H E) [] (start N t) H s1:=by
 have hpl:C.length<=N.length:=by have:=congrArg List.length S.pre;rw[Kw]at this;lia
 obtain⟨Q,tk,rfl,hk⟩:=x.done;have Z:∀b:KM,b∉(jC CX P w K X o N j d f R A g s H E).ex:=λb z=>absurd (show b∈([]:Wp) from z) (by simp);refine⟨⟨m.mod,S.kind,rfl,rfl,Zp _,λy z c Q l=>?_,λy D=>?_,λy c _ h=>?_,λ_=>hd,Around.frames_deeper m.frames,.inr ⟨rfl,rfl⟩,λb z=>absurd z (Z b),m.tb,m.bs,m.NO,λb _ _=>Z b,λb z=>absurd z (Z b),m.JR,m.OY⟩,
  rfl,m.bare,Un.kept hk,⟨_,x.toInCall.ns,λi y v Q l h3=>?_⟩,λy c h=>⟨_,x.cell y c h⟩,m.Ip.fresh (Zp _),λy c h=>?_,λp G=>absurd (show p∈([]:Yw) from G) (by simp),m.Ip.kept hk,?_⟩
 ·exact name_of_addr x.apart (X4 Q) (X4 l)
 ·have D:d.names.lookup y=Y .cell\/d.names.lookup y=Y .free:=D;rcases D with D | D
  ·exact rQ D
  ·exact absurd M (S.Oy _ (X4 D))
 ·exact ZS (x.above y c (X4 h))
 ·have J:i<t.length:=by
   unfold start at l;by_cases J:i<t.length
   ·exact J
   ·rw[Mv (by simpa using J)]at l;rw[Xr]at l;split at l<;>cases l
  have ha:t[i]?=Y v:=by
   unfold start at l;rw[Mu (by simpa using J),ZP]at l;cases e:t[i]? with
   |none=>rw[e]at l;cases l
   |some a=>rw[e]at l;cases l;rfl
  obtain⟨u,hu,rv⟩:=r.get ha;have G:C[i]?=Y y:=by
   rw[← S.pre,List.getElem?_take_of_lt `am];exact Q
  have F:C.Nodup:=by rw[← S.pre];exact S.nd.sublist (VC _ _)
  refine⟨u,rv,?_⟩;rcases S.par y (YU G) with k | k
  ·exact .inl ⟨k,o9 F G hu k⟩
  ·obtain⟨c,e⟩:=rQ (n:=s.heap.objs.size+1) k;refine .inr ⟨.inl k,c,e,?_⟩;have q:=x.cell y c e;rw[oQ F G hu (by show d.names.lookup y≠_;rw[k];decide)]at q;exact q
 ·exact m.Ip.fresh (ZS (x.above y c (X4 h)))
 ·unfold start;show _=N.length;rw[Zw,Zt,XI];lia
def Hi{X:Mx}{P:Re}{w:XAB}{K:X0}{R:Wq}{h:XAA}{k:Nat}{f:KM}{l d:Str}{g:Arguments}{i:List Stmt}{a:Scope}{dV kV G pm z ct oc:On}{an od:Option KM}{Ml:Array (Vv)}{N J:List Str}{Z:Sp}(lk:K.lookup f=Y ⟨oc,od,.func (PySem.W.fnOf l d g i a dV kV G pm an z ct),Ml⟩)(hcd:PySem.W.codeIn K z d=L)(S:Il N J a)(D:∀j H Q E,Z j H Q E->j.length=J.length)(MY:∀(A:SC)(outer:List Env)(s:IR)(H:Hp)(j:List V)(Q:VK)(E:XK),Im k (A.deeper (envOfC d a s.heap.objs.size f z))->Z j H Q E →
   ∃t,Kp (jC X P w K R h N d a f z A outer s H E) i t/\t { nx:=λ_ p=>Q .non p,rt:=Q } (start N j) H) :
  FnOk P w K R h X (k+1) f (PySem.W.fnOf l d g i a dV kV G pm an z ct) J Z:=by
 refine⟨D,λA outer s H args us j Q E hr F hb r N7=>?_⟩;have hl:=D _ _ _ _ N7;have KX:K.In s.heap:=F.mod.Sa.keeps λb o e=>(F.bs b o e).1;have lim:s.heap.NoLimit:=F.mod.nolimit.keeps λb o e=>(F.bs b o e).1;have Kt:∀y∈J.zip us,a.names.lookup y.1=Y .local\/(a.names.lookup y.1=Y .cell/\((cellsFrom (s.heap.objs.size+1) a.names []).lookup y.1).isSome=L):=λ⟨n,v⟩ hy=>by
  rcases S.par n (List.of_mem_zip hy).1 with q | q
  ·exact .inl q
  ·exact .inr ⟨q,PySem.W.cellsFrom_some _ _ _ (.inl q)⟩
 refine codeAny_call_function hr.depth (KX _ _ lk) M S.co S.gen M (PySem.W.codeRec_of KX hcd) (hb _ _ _ _ ?_);refine wpAny_newFunctionEnv_cells S.kind Kt λenv he s1 x=>?_;subst he;refine⟨lim.keeps x.toInCall.keep,codeAny_func ?_⟩;obtain⟨t,ht,hq⟩:=MY A outer s H j Q E (hr.deeper _) N7;have I:Inv (jC X P w K R h N d a f z A outer s H E) [] (start N j) H s1:=wM S hr.hd F hl r x;refine Y7 (ht [] s1 (start N j) H _ I hq) (λfl s' C=>?_) λe s' C=>C;have fin:∀{U:St}{p:Hp}{v:V}{u:On},Inv (jC X P w K R h N d a f z A outer s H E) [] U p s'->RelV v u->Q v p->CE outer P w H s Q u s' :=
  λ{U p v u} m rv q=>⟨v,p,m.os,m.bare,m.base,m.Ip,rv,q⟩
 cases fl with
 |ret u =>
  obtain⟨v,U,p,m,rv,q⟩:=C;exact fin m rv q
 |next =>
  obtain⟨U,p,m,q⟩:=C;exact fin (v:=V.non) (u:=Value.none) m M q
 |brk =>
  obtain⟨_,_,_,q⟩:=C;exact False.elim q
 |cont =>
  obtain⟨_,_,_,q⟩:=C;exact False.elim q
section
noncomputable def Z7(r:List V->Hp->VK->Prop)(t:TA):TE:=λJ H Q=>t J H λa b=>r a b Q
def rj{X:Cx}{x:Str}{p pos:Pos}{es:List Expr}{t:TA}{id:String}{r:List V->Hp->VK->Prop}(m:dm X (.builtin id) r)(l:Gl X x)(j:X.mg x=O)(g:bootBuiltins x=Y (.builtin id))(n:PA X (e :: es) t)(i:{`q0,x ≠ "__name__"})(o:{`q0,K3 x})(he:{`q1,K1 e es X})(hpl:{`q1,K2 pos es X}):PE X (.Call (.Name x p) (e :: es) [] pos) (Z7 r t):=by
 intro a s J H Q I h;refine Vx (p9 I l j g ?_ i o);exact PyProof.Rows.callWith_builtin1 (thn (n pos a s J H _ I h) λd s1 ⟨b,u,q,r1,f⟩=>m a s1 J u b d Q q r1 f) he hpl
def lO(m:dm X (.type T) r)(l:Gl X x)(j:X.mg x=O)(g:bootBuiltins x=Y (.type T))(n:PA X (e :: es) t)(i:{`q0,x ≠ "__name__"})(o:{`q0,K3 x})(he:{`q1,K1 e es X})(hpl:{`q1,K2 pos es X}):PE X (.Call (.Name x p) (e :: es) [] pos) (Z7 r t):=by
 intro a s J H Q I h;refine Vx (p9 I l j g ?_ i o);exact WG (thn (n pos a s J H _ I h) λd s1 ⟨b,u,q,r1,f⟩=>m a s1 J u b d Q q r1 f) he hpl
end
end L2
namespace HT
open PySem PyProof.Rows
section
noncomputable def Jj(n d:Nat):Option Int->Nat
 |none=>d
 |some v=>if v<0 then (v+(n:Int)).toNat else min v.toNat n
end
end HT
namespace L2
open PySem PySem.Spec PyProof.Rows
abbrev TO:=St->Hp->(Option Int->Hp->Prop)->Prop
def PO(X:Cx)(e:Option Expr)(t:TO):Prop :=
 ∀(a:Yw)(s:IR)(J:St)(H:Hp)(Q:Option Int->Hp->Prop),Inv X a J H s->t J H Q →
  PP `ay X.A (evalPart e X.env) (λu d=>∃o b,Inv X a J b d/\IsPart u o/\Q o b) X.xe s
noncomputable def C5:TO:=λ_ H Q=>Q O H
noncomputable def GR(t:TE):TO:=λJ H Q=>t J H λx a=>∃i,x=.int i/\Q (Y i) a
section
variable{lo:Option Expr}
def u6:PO X O C5:=by
 intro a s J H Q I h;rw[evalPart_none];exact Zn ⟨O,H,I,.none,h⟩
def vf(h:PE X e te):PO X (Y e) (GR te):=by
 intro a s J H Q I hw;rw[evalPart_some];refine thn (h a s J H _ I hw) λu s1 ⟨x,f,d,r1,b⟩=>?_;obtain⟨i,rfl,q⟩:=b;obtain⟨t,rfl⟩:=r1;exact⟨Y i,f,d,.int i t,q⟩
def Oh(X:Cx)(r:V->Option Int->Option Int->Hp->VK->Prop):Prop :=
 ∀(a:Yw)(s:IR)(J:St)(H:Hp)(x:V)(v d b:On)(lo hi:Option Int)(f:KM)(Q:VK),Inv X a J H s->RelV x v->s.heap.IsSliceOf f d b .none->IsPart d lo->IsPart b hi->r x lo hi H Q →
  ∃T id,typeLookup (.type T) "__getitem__" = pure (Y (.builtin id))/\s.TypeIs v T/\PP `ay X.A (getItem v (.ref f)) (EP X a J Q) X.xe s
def Oh.or(h:Oh X r)(l:Oh X i):Oh X (λx lo hi H Q=>r x lo hi H Q\/i x lo hi H Q):=by
 intro a s J H x v d b lo hi f Q I g j pl pu q;rcases q with q | q
 ·exact h a s J H x v d b lo hi f Q I g j pl pu q
 ·exact l a s J H x v d b lo hi f Q I g j pl pu q
noncomputable def tSl(r:V->Option Int->Option Int->Hp->VK->Prop)(d:TE)(a b:TO):TE:=λJ H Q=>d J H λx h=>a J h λl g=>b J g λu f=>r x l u f Q
def kj(y:Oh X r)(he:PE X e te)(z:PO X lo tl)(p:PO X hi th):PE X (.Subscript e (.Slice lo hi O p2) pos) (tSl r te tl th):=by
 intro a s J H Q I h;refine Subscript_ (thn (he a s J H _ I h) λv s1 ⟨x,N,G,r1,o⟩=>?_);refine wpAny_Slice (thn (z a s1 J N _ G o) λg j ⟨l,M,F,pl,n⟩=>thn (p a j J M _ F n) λf d ⟨u,i,E,pu,m⟩=>?_);rw[evalPart_none];refine Zn ?_;have D:Inv X a J i { d with heap:=d.heap.push { cls:=.type "slice",data:=.fields #[g,f,.none] } }:=E.kept (t':=d.toks) λb P q=>Zm _ q;obtain⟨T,id,C,t,hg⟩:=y a { d with heap:=d.heap.push { cls:=.type "slice",data:=.fields #[g,f,.none] } } J i x v g f l u d.heap.objs.size Q D r1 (Heap.IsSliceOf.new ..) pl pu m;show PP `ay X.A (subscriptTail e (.Slice lo hi O p2) v (.ref d.heap.objs.size)) (EP X a J Q) X.xe { d with heap:=d.heap.push { cls:=.type "slice",data:=.fields #[g,f,.none] } };exact tail_any (ops:=[.ref d.heap.objs.size,v]) t C hg (by with_unfolding_all rfl)
def sC(a:List V)(b d:Option Int):List V:=(a.drop (HT.Jj a.length 0 b)).take (HT.Jj a.length a.length d-HT.Jj a.length 0 b)
def sr(a:List V)(b d:Option Int):(sC a b d).length<=a.length:=by
 unfold sC;rw[Kw,Yz];lia
end
noncomputable def OC(n:Nat)(i:Int):Option Nat:=if 0<=i then (if i<n then Y i.toNat else O) else if -(n:Int)<=i then Y (i+n).toNat else O
def O7{α:Type}(a:List α)(i:Int):Option α:=(OC a.length i).bind λj=>a[j]?
def vR{i:Int}(h:OC n i=Y j):seqIndex? i n=Y j/\j<n/\-(n:Int)<=i/\i<n:=by
 unfold OC at h;by_cases b:0<=i
 ·rw[Zo b]at h;by_cases a:i<n
  ·rw[Zo a]at h;have e:i.toNat=j:=Zh h;exact⟨by rw[seqIndex_of b a,e],by lia,by lia,a⟩
  ·rw[Zl a]at h;cases h
 ·rw[Zl b]at h;by_cases a:-(n:Int)<=i
  ·rw[Zo a]at h;have e:(i+n).toNat=j:=Zh h;exact⟨by rw[seqIndex_neg `am a,e],by lia,a,by lia⟩
  ·rw[Zl a]at h;cases h
def qf{α:Type}{a:List α}{i:Int}{v:α}(h:O7 a i=Y v):∃j,seqIndex? i a.length=Y j/\a[j]?=Y v/\j<a.length/\-(a.length:Int)<=i/\i<a.length:=by
 unfold O7 at h;cases e:OC a.length i with
 |none=>rw[e]at h;cases h
 |some j =>
  rw[e]at h;obtain⟨g,f,d,b⟩:=vR e;exact⟨j,g,h,f,d,b⟩
noncomputable def gz(b:Expr):Prop:=∀o i,subscripted b B o i=operate [o,i] (getItem o i)
def JX(X:Cx)(r:R2):Prop :=
 ∀(value slice:Expr)(a:Yw)(s:IR)(J:St)(H:Hp)(x y:V)(v u:On)(Q:VK),Inv X a J H s->RelV x v->RelV y u->r x y H Q →
  subscripted slice B v u=operate [v,u] (getItem v u)->PP `ay X.A (subscriptTail value slice v u) (EP X a J Q) X.xe s
def O9(X:Cx)(e:String)(r:V->List V->Hp->VK->Prop):Prop :=
 ∀(a:Yw)(s:IR)(J:St)(H:Hp)(x:V)(b:List V)(v:On)(d:W7)(Q:VK),Inv X a J H s->RelV x v->aQ b d->r x b H Q →
  PP `ay X.A (call (.builtin e) (v :: d)) (EP X a J Q) X.xe s
section
def JX.or(h:JX X r)(j:JX X g):JX X (λx y H Q=>r x y H Q\/g x y H Q):=by
 intro value slice d s J H x y v u Q I f e q i;rcases q with q | q
 ·exact h value slice d s J H x y v u Q I f e q i
 ·exact j value slice d s J H x y v u Q I f e q i
def n9(j:JX X r)(m:PE X a ta)(l:PE X b tb)(i:gz b):PE X (.Subscript a b pos) (Pc r ta tb):=by
 intro d s J H Q I h;exact Subscript_ (D8 m l I h λv u e x y o n g f q=>j a b d e J o x y v u Q n g f q (i _ _))
def Hh(K:X0):R2:=λx y H Q=>∃p d i v,x=.ref p/\y=.int i/\IF K H p d/\O7 d i=Y v/\Q v H
def He(K:X0):R2:=λx y H Q=>∃p d i v,x=.ref p/\y=.int i/\Jt K H p d/\O7 d i=Y v/\Q v H
def GS:R2:=λx y H Q=>∃z i c,x=.str z/\y=.int i/\z.length<=KF/\O7 z.cps.toList i=Y c/\Q (.str ⟨#[c]⟩) H
def BG:JX X (Hh X.K):=by
 intro value slice d s J H x y v u Q I A o h g;obtain⟨p,P,i,z,rfl,rfl,D,he,q⟩:=h;cases A;obtain⟨t,rfl⟩:=o;obtain⟨C,r,pl,R⟩:=I.list D;obtain⟨j,e,M,U,G,F⟩:=qf he;obtain⟨w,m,N⟩:=r.get M;have E:=r.length;have S:=lJ;have fin:EP X d J Q w s:=⟨z,H,I,N,q⟩
 by_cases l:0<=i
 ·have f:i.toNat=j:=by
   rw[seqIndex_of l F]at e;exact Zh e
  exact item_listR pl.isList l `am (by rw[f];simpa using m) fin g
 ·have f:(i+(C.toArray.size:Int)).toNat=j:=by
   rw[seqIndex_neg `am G]at e;rw[ZJ,← E];exact Zh e
  exact subscriptTail_builtinR (x:=w) pl.isList.typeIs slot_list_getitem.lookup
   (wpAny_getItem_list_neg (Q:=λr n=>r=w/\EP X d J Q r n) pl.isList `am (by rw[ZJ]<;>lia) `am (by rw[f];simpa using m) ⟨rfl,fin⟩) g
def DS:JX X (He X.K):=by
 intro value slice d s J H x y v u Q I g f h l;obtain⟨p,E,i,z,rfl,rfl,m,he,q⟩:=h;cases g;obtain⟨t,rfl⟩:=f;obtain⟨F,r,pl,G⟩:=I.tuple m;obtain⟨j,A,o,R,P,N⟩:=qf he;obtain⟨w,C,D⟩:=r.get o;have n:=r.length;have M:=lJ;have fin:EP X d J Q w s:=⟨z,H,I,D,q⟩
 exact subscriptTail_builtinR (x:=w) pl.typeIs slot_tuple_getitem.lookup
  (getItem_tuple (j:=j) (Q:=λr e=>r=w/\EP X d J Q r e) pl `am `am (by rw[ZJ,← n];exact A) (by simpa using C) ⟨rfl,fin⟩) l
def EY:JX X GS:=by
 intro value slice d s J H x y v u Q I g f h l;obtain⟨z,i,c,rfl,rfl,w,he,q⟩:=h;obtain⟨t,rfl⟩:=g;obtain⟨r,rfl⟩:=f;obtain⟨j,e,p,C,o,n⟩:=qf he;have m:z.cps.toList.length=z.length:=by simp[Str.length]
 rw[m]at e o n;have A:=lJ;exact tail_any (Vw s z t) slot_str_getitem.lookup (getItem_str (c:=c) (by
  have e1:decide (i < -(2 ^ 63:Int))=B:=ZM `am;have e2:decide (i ≥ 2 ^ 63)=B:=ZM `am;rw[e1,e2,Bool.or_false]) (by rw[e];simpa using p) ⟨.str ⟨#[c]⟩,H,I.tok _,⟨_,rfl⟩,q⟩) l
def SU(K:X0):R2:=λx y H Q=>Hh K x y H Q\/He K x y H Q\/GS x y H Q
def jP:JX X (SU X.K):=BG.or (DS.or EY)
def ua(d:W7)(n j:Nat)(u:On):Obj.mapSeq (·.setIfInBounds j u) { cls:=.type "list",data:=.seq d.toArray n }={ cls:=.type "list",data:=.seq (d.set j u).toArray n }:=by
 simp[Obj.mapSeq]
theorem Inv.lst{H:Hp}{p:KM}(I:Inv X d J H s)(h:H p=Y (.lst g)) :
  ∃(f:W7)(n:Nat),aQ g f/\s.heap.get? p=Y { cls:=.type "list",data:=.seq f.toArray n }/\g.length<=sizeLine:=by
 obtain⟨z,f,n,r,e⟩:=I.Ip p _ h;exact⟨f,n,r,e,z⟩
def Inv.Oz{l d:W7}(I:Inv X g J H s)(h:H p=Y (.lst o))(w:s.heap.get? p=Y { cls:=.type "list",data:=.seq l.toArray n })(m:f { cls:=.type "list",data:=.seq l.toArray n }={ cls:=.type "list",data:=.seq d.toArray j })(r:aQ i d)(v:i.length<=KF)(t:Nat) :
  Inv X g J (upd H p (.lst i)) { s with heap:=s.heap.update p f,toks:=t }:=by
 have e:(s.heap.update p f).get? p=Y { cls:=.type "list",data:=.seq d.toArray j }:=by
  rw[Ye f w (by rw[m]<;>rfl),m]
 refine I.write (x:=p) (e:=p) (by rw[h];trivial) (.inl M) (λb u hb q=>(YI _ _ (YH hb)).trans q) ⟨_,e⟩ ?_;exact⟨v,d,j,r,e⟩
def De:V->V->V->Hp->(Hp->Prop)->Prop:=λo i v H Q=>∃p d k j,o=.ref p/\i=.int k/\H p=Y (.lst d)/\OC d.length k=Y j/\Q (upd H p (.lst (d.set j v)))
def set_list:D7 X De:=by
 intro d s J H o i v ov iv u Q I E F D h;obtain⟨p,C,k,j,rfl,rfl,w,M,q⟩:=h;cases E;obtain⟨t,rfl⟩:=F;obtain⟨m,n,r,f,G⟩:=I.lst w;obtain⟨e,P,y,x⟩:=vR M;have g:=r.length;have N:=lJ;have A:Inv X d J (upd H p (.lst (C.set j v))) { s with heap:=s.heap.update p (Obj.mapSeq (·.setIfInBounds j u)) } :=
  I.Oz w f (ua m n j u) (r.set D j) (by rw[Yg];exact G) s.toks
 by_cases z:0<=k
 ·have l:k.toNat=j:=by
   rw[seqIndex_of z x]at e;exact Zh e
  exact PySem.W.ki_setAt f z `am (by rw[ZJ,← g];exact x) (by rw[l];exact⟨_,A,q⟩)
 ·have l:(k+(m.toArray.size:Int)).toNat=j:=by
   rw[seqIndex_neg `am y]at e;rw[ZJ,← g];exact Zh e
  exact PySem.W.ki_setBack f `am (by rw[ZJ,← g];exact y) `am (by rw[l];exact⟨_,A,q⟩)
def MM(a:Int)(n:Nat):max 0 (min a (n:Int))=((min a.toNat n:Nat):Int):=by
 cases a with
 |ofNat k =>
  show max 0 (min (k:Int) (n:Int))=((min k n:Nat):Int);rcases Nat.le_total k n with h | h
  ·rw[Int.min_eq_left (Int.ofNat_le.mpr h),Yh h];exact Int.max_eq_right (W6 _)
  ·rw[Int.min_eq_right (Int.ofNat_le.mpr h),WW h];exact Int.max_eq_right (W6 _)
 |negSucc k =>
  rw[Int.min_eq_left (Int.le_trans (Int.le_of_lt (Int.negSucc_lt_zero k)) (W6 n)),Int.max_eq_left (Int.le_of_lt (Int.negSucc_lt_zero k))];show (0:Int)=((min 0 n:Nat):Int);rw[Nat.zero_min];rfl
def qK(d e:Option Int)(n:Nat):(sliceBounds d e O n).1=((HT.Jj n 0 d:Nat):Int)/\(sliceBounds d e O n).2.1=((HT.Jj n n e:Nat):Int)/\(sliceBounds d e O n).2.2=1:=by
 refine⟨?_,?_,rfl⟩
 ·cases d with
  |none=>simp[sliceBounds,HT.Jj]
  |some i =>
   simp only[sliceBounds,HT.Jj,Option.getD_none,show (1:Int) > 0 by decide,if_true];by_cases h:i<0
   ·simp only[h,if_true];rw[MM,Yh (by omega)]
   ·simp only[h,if_false];exact MM i n
 ·cases e with
  |none=>simp[sliceBounds,HT.Jj]
  |some i =>
   simp only[sliceBounds,HT.Jj,Option.getD_none,show (1:Int) > 0 by decide,if_true];by_cases h:i<0
   ·simp only[h,if_true];rw[MM,Yh (by omega)]
   ·simp only[h,if_false];exact MM i n
def oJ(d:W7)(e f:Option Int):slicePick d.toArray e f O=((d.drop (HT.Jj d.length 0 e)).take (HT.Jj d.length d.length f-HT.Jj d.length 0 e)).toArray:=by
 obtain⟨i,h,g⟩:=qK e f d.toArray.size;unfold slicePick;rw[i,h,g];simp only[sliceRange_one,pick_run,ZJ]<;>rfl
def Gy(K:X0):V->Option Int->Option Int->Hp->VK->Prop:=λx lo e H Q=>∃a d,x=.ref a/\IF K H a d/\∀p,H p=O->Q (.ref p) (upd H p (.lst (sC d lo e)))
def qZ:Oh X (Gy X.K):=by
 intro f s J H x v p n lo e t Q I i m pl pu h;obtain⟨a,d,rfl,l,q⟩:=h;cases i;obtain⟨u,r,g,j⟩:=I.list l;have hlen:=r.length;refine⟨"list",_,slot_list_getitem.lookup,g.isList.typeIs,?_⟩;refine wpAny_getItem_list_slice g.isList m pl pu .none (by simp) ?_ (by rw[ZJ]<;>lia);rw[oJ,← hlen];refine⟨.ref s.heap.objs.size,_,I.laid (t':=s.toks) (o:=.lst (sC d lo e)) (λb w q=>Zm _ q) (Zp _) ?_,rfl,q _ (I.Ip.fresh (Zp _))⟩;exact⟨ZL (sr d lo e) j,_,0,(r.drop (HT.Jj d.length 0 lo)).take (HT.Jj d.length d.length e-HT.Jj d.length 0 lo),ZV _ M⟩
noncomputable def fB:V->Bool
 |.non=>L
 |.bl _=>L
 |.int _=>L
 |.str _=>L
 |_=>B
noncomputable def Nm:V->V->Bool
 |.non,.non=>L
 |.bl a,.bl b=>a==b
 |.bl a,.int b=>(if a then 1 else 0)==b
 |.int a,.bl b=>a==(if b then 1 else 0)
 |.int a,.int b=>a==b
 |.str a,.str b=>a==b
 |_,_=>B
def Eg(f:RelV y u)(d:RelV x v)(h:fB y=L)(g:fB x=L):SeqAt.EqAt A s u v (Nm y x):=by
 cases y with
 |non =>
  cases f;cases x with
  |non=>cases d;exact SeqAt.EqAt.same _
  |bl b=>cases d;exact SeqAt.EqAt.none_bool b
  |int b=>obtain⟨t,rfl⟩:=d;exact SeqAt.EqAt.none_int b t
  |str b=>obtain⟨t,rfl⟩:=d;exact SeqAt.EqAt.none_str b t
  |_=>exact absurd (show B=L from g) Zd
 |bl a =>
  cases f;cases x with
  |non=>cases d;exact SeqAt.EqAt.bool_none a
  |bl b=>cases d;exact SeqAt.EqAt.bool_bool a b
  |int b=>obtain⟨t,rfl⟩:=d;exact SeqAt.EqAt.bool_int a b t
  |str b=>obtain⟨t,rfl⟩:=d;exact SeqAt.EqAt.bool_str a b t
  |_=>exact absurd (show B=L from g) Zd
 |int a =>
  obtain⟨e,rfl⟩:=f;cases x with
  |non=>cases d;exact SeqAt.EqAt.int_none a e
  |bl b=>cases d;exact SeqAt.EqAt.int_bool a e b
  |int b=>obtain⟨t,rfl⟩:=d;exact SeqAt.EqAt.int_int a e b t
  |str b=>obtain⟨t,rfl⟩:=d;exact SeqAt.EqAt.int_str a e b t
  |_=>exact absurd (show B=L from g) Zd
 |str a =>
  obtain⟨e,rfl⟩:=f;cases x with
  |non=>cases d;exact SeqAt.EqAt.str_none a e
  |bl b=>cases d;exact SeqAt.EqAt.str_bool a e b
  |int b=>obtain⟨t,rfl⟩:=d;exact SeqAt.EqAt.str_int a e b t
  |str b=>obtain⟨t,rfl⟩:=d;exact SeqAt.EqAt.str_str a e b t
  |_=>exact absurd (show B=L from g) Zd
 |_=>exact absurd (show B=L from h) Zd
def LD(x:V)(u:On):Bool:=match u with
 |.none=>Nm .non x
 |.bool b=>Nm (.bl b) x
 |.int i _=>Nm (.int i) x
 |.str z _=>Nm (.str z) x
 |_=>B
def zQ(r:RelV y u)(f:fB y=L):LD x u=Nm y x:=by
 cases y with
 |non=>cases r;rfl
 |bl b=>cases r;rfl
 |int i=>obtain⟨t,rfl⟩:=r;rfl
 |str z=>obtain⟨t,rfl⟩:=r;rfl
 |_=>exact absurd (show B=L from f) Zd
theorem kQ:∀{d:List V}{e:W7},aQ d e->d.all fB=L->e.any (LD x)=d.any λy=>Nm y x
 |_,_,.nil,_=>rfl
 |y :: d,u :: e,.cons r t,f=>by
  rw[WU,YM]at f;rw[Xy,Xy,zQ r f.1,kQ t f.2]
theorem i6(h:RelV x v)(i:fB x=L):∀{e:List V}{g:W7},aQ e g->e.all fB=L->∀u∈g,SeqAt.EqAt A s u v (LD x u)
 |_,_,.nil,_=>λu d=>by cases d
 |y :: e,u :: g,.cons r t,f=>λj d=>by
  rw[WU,YM]at f;rcases Zj.mp d with rfl | d
  ·rw[zQ r f.1];exact Eg r h f.1 i
  ·exact i6 h i t f.2 j d
def QC(x:V)(d:List V):Bool:=d.any λy=>Nm y x
def RW(K:X0)(e:Bool):R2:=λx y H Q=>∃p d,y=.ref p/\(IF K H p d\/Jt K H p d)/\fB x=L/\d.all fB=L/\Q (.bl (if e then !QC x d else QC x d)) H
def xP:OpR X (UV .In) (RW X.K B):=by
 intro g s J H x y v u Q I f j h;obtain⟨p,m,rfl,e,i,fs,q⟩:=h;cases j;rcases e with e | e
 ·obtain⟨d,r,pl,l⟩:=I.list e;refine SeqAt.in_listAt (LD x) pl.isList (λw hw=>i6 f i r fs w (by simpa using hw)) ⟨.bl _,H,I,rfl,?_⟩;rw[show d.toArray.any (LD x)=d.any (LD x) by simp,kQ r fs];exact q
 ·obtain⟨d,r,pl,l⟩:=I.tuple e;refine SeqAt.in_tupleAt (LD x) pl (λw hw=>i6 f i r fs w (by simpa using hw)) ⟨.bl _,H,I,rfl,?_⟩;rw[show d.toArray.any (LD x)=d.any (LD x) by simp,kQ r fs];exact q
def qd:OpR X (UV .NotIn) (RW X.K L):=by
 intro g s J H x y v u Q I f j h;obtain⟨p,m,rfl,e,i,fs,q⟩:=h;cases j;rcases e with e | e
 ·obtain⟨d,r,pl,l⟩:=I.list e;refine SeqAt.notIn_listAt (LD x) pl.isList (λw hw=>i6 f i r fs w (by simpa using hw)) ⟨.bl _,H,I,rfl,?_⟩;rw[show d.toArray.any (LD x)=d.any (LD x) by simp,kQ r fs];exact q
 ·obtain⟨d,r,pl,l⟩:=I.tuple e;refine SeqAt.notIn_tupleAt (LD x) pl (λw hw=>i6 f i r fs w (by simpa using hw)) ⟨.bl _,H,I,rfl,?_⟩;rw[show d.toArray.any (LD x)=d.any (LD x) by simp,kQ r fs];exact q
def dm.or(h:dm X f r)(l:dm X f j):dm X f (λe H Q=>r e H Q\/j e H Q):=by
 intro d s J H e g Q I i q;rcases q with q | q
 ·exact h d s J H e g Q I i q
 ·exact l d s J H e g Q I i q
def qS:dm X (.type "list") (λz H Q=>∃p g,z=[.ref p]/\(IF X.K H p g\/Jt X.K H p g)/\∀l,H l=O->Q (.ref l) (upd H l (.lst g))):=by
 intro m s J H z D Q I r h;obtain⟨p,g,rfl,v,q⟩:=h;obtain⟨u,rfl,C⟩:=vals1 r;cases C;have fin:∀(f:W7),aQ g f->g.length<=KF->∀(d:XAA)(j:Nat),(∀b A,s.heap.get? b=Y A->d.get? b=Y A) →
   d.get? s.heap.objs.size=Y { cls:=.type "list",dict:=O,data:=.seq f.toArray j,slots:=#[] }->EP X m J Q (.ref s.heap.objs.size) { s with heap:=d }:=λf i t d j kp e =>
  ⟨.ref s.heap.objs.size,_,I.laid (t':=s.toks) kp (Zp _) (show bX X.prog X.w _ d _ (.lst g) from⟨t,f,j,i,e⟩),rfl,q _ (I.Ip.fresh (Zp _))⟩
 rcases v with v | v
 ·obtain⟨f,i,pl,t⟩:=I.list v;have hlen:=i.length;obtain⟨o,x,y,n,hd⟩:=pl.isList;exact call_list_seq p (.inl M) x y hd (λd j kp e=>fin f i t d j kp e) (by simp only[ZJ]<;>lia)
 ·obtain⟨f,i,pl,t⟩:=I.tuple v;have hlen:=i.length;obtain⟨o,x,y,n,hd⟩:=pl;exact call_list_seq p (.inr M) x y hd (λd j kp e=>fin f i t d j kp e) (by simp only[ZJ]<;>lia)
def oK:dm X (.type "tuple") (λn H Q=>∃p f,n=[.ref p]/\((IF X.K H p f/\∀l,H l=O->Q (.ref l) (upd H l (.tup f)))\/(Jt X.K H p f/\Q (.ref p) H))):=by
 intro d s J H n z Q I r h;obtain⟨p,f,rfl,h⟩:=h;obtain⟨u,rfl,x⟩:=vals1 r;cases x;rcases h with⟨m,q⟩ | ⟨m,q⟩
 ·obtain⟨j,i,pl,t⟩:=I.list m;have hlen:=i.length;refine call_tuple_list pl.isList (λg kp=>?_) (by simp only[ZJ]<;>lia);have v:Inv X d J H { s with heap:=g }:=I.kept (t':=s.toks) kp;have y:Inv X d J (upd H g.objs.size (.tup f)) { s with heap:=g.push { cls:=.type "tuple",data:=.seq j.toArray } } :=
   v.laid (t':=s.toks) (λb o e=>Zm _ e) (Zp _) (show bX X.prog X.w _ _ _ (.tup f) from⟨t,j,i,NS.new _ _,IsTup.new _ _⟩)
  exact⟨.ref g.objs.size,_,y,rfl,q _ (v.Ip.fresh (Zp _))⟩
 ·obtain⟨j,i,pl,t⟩:=I.tuple m;exact call_tuple_same pl ⟨.ref p,H,I,rfl,q⟩
def Nu(K:X0)(T:String)(x:V)(H:Hp):Prop:=match x with
 |.str _=>T = "str"
 |.int _=>T = "int"
 |.ref p=>(T = "list" ∧ ∃e,IF K H p e)\/(T = "tuple" ∧ ∃o,K.lookup p=Y o/\o.cls=.type "tuple" ∧ o.dict=O) ∨
   (T = "dict" ∧ ((∃d,H p=Y (.dK d))\/∃d,H p=Y (.dT d)))\/(T = "set" ∧ ∃S n,H p=Y (.set S n))
 |_=>False
def FM(I:Inv X f J H s)(r:RelV x v)(g:Nu X.K T x H) :
  s.TypeIs v T/\∀a,v=.ref a->∃h,s.heap.get? a=Y h/\h.dict=O:=by
 cases x with
 |str z =>
  obtain⟨t,rfl⟩:=r;cases (show T = "str" from g);exact⟨Vw s z t,λ_ e=>nomatch e⟩
 |int i =>
  obtain⟨t,rfl⟩:=r;cases (show T = "int" from g);exact⟨typeIs_int s i t,λ_ e=>nomatch e⟩
 |ref p =>
  cases r;rcases g with⟨rfl,q,j⟩ | ⟨rfl,o,d,l,hd⟩ | ⟨rfl,d⟩ | ⟨rfl,S,n,d⟩
  ·obtain⟨u,_,pl,_⟩:=I.list j;refine⟨pl.isList.typeIs,λa e=>?_⟩;cases e;obtain⟨o,n,e,c,hd,_⟩:=pl;exact⟨o,e,hd⟩
  ·refine⟨⟨o,I.LS p o d,l⟩,λa e=>?_⟩;cases e;exact⟨o,I.LS _ o d,hd⟩
  ·have z:∃o,s.heap.get? p=Y o/\o.ExactDict:=by
    rcases d with⟨m,d⟩ | ⟨m,d⟩
    ·obtain⟨_,_,_,_,o,_,_,e,ex,_⟩:=I.Ip p _ d;exact⟨o,e,ex⟩
    ·obtain⟨_,_,_,_,o,_,_,e,ex,_⟩:=I.Ip p _ d;exact⟨o,e,ex⟩
   obtain⟨o,e,ex⟩:=z;refine⟨⟨o,e,ex.1⟩,λa e2=>?_⟩;cases e2;exact⟨o,e,ex.2.1⟩
  ·obtain⟨o,_,_,_,e,ex,_⟩:=I.Ip p _ d;refine⟨⟨o,e,ex.1⟩,λa e2=>?_⟩;cases e2;exact⟨o,e,ex.2.1⟩
 |_=>exact False.elim g
def tBM(K:X0)(T:String)(r:V->List V->Hp->VK->Prop)(f:TE)(t:TA):TE:=λJ H Q=>f J H λx d=>Nu K T x d/\t J d λe g=>r x e g Q
def o6{X:Cx}{o:Expr}{es:List Expr}{to:TE}{t:TA}{name:Str}{apos jj:Pos}{T id:String}{r:V->List V->Hp->VK->Prop}(q:PlainAttrs T)(f:Slot T name id)(D:typeOf (.builtin id)=pure (.type "method_descriptor"))(y:O9 X id r)(w:PE X o to)(z:PA X (e :: es) t)(N:{`q1,XAC o name X.env (eval o X.env)=eval o X.env})(G:{`q1,((backTo jj (Pv (e :: es) X.env)).all (λx=>!x.1)&&(backToKw jj (SZ [] X.env)).all (λx=>x.1.isSome)
   && decide ((e :: es).length+([]:List Keyword).length+(if ([]:List Keyword).isEmpty then 0 else 1)<30))=L})(E:{`q1,(apos.endLine==jj.line)=L})(u:{`q1,K1 e es X})(F:{`q1,K2 jj es X}) :
  PE X (.Call (.Attribute o name apos) (e :: es) [] jj) (tBM X.K T r to t):=by
 intro d s J H Q I h;refine wpAny_Call_method_late N G E M (thn (w d s J H _ I h) λv s1 ⟨x,S,i,r1,ty,p⟩=>?_);obtain⟨C,A⟩:=FM i r1 ty;refine⟨T,id,q,f,D,C,A,?_⟩;have g:=z jj d s1 J S _ i p;rw[u]at g ⊢;refine Calls.callWith_builtin (by show (B||(backTo jj (Pv es X.env)).any (·.1))=B;rw[F]<;>rfl) (Calls.evalArgs_plain ?_);exact thn g λl m ⟨j,R,P,r2,n⟩=>y d m J R x j v l Q P r1 r2 n
end
def MtM(X:Cx)(e:String)(r:V->List V->Hp->VK->Prop):Prop :=
 ∀(a:Yw)(s:IR)(J:St)(H:Hp)(x:V)(b:List V)(v:On)(d:W7)(Q:VK),Inv X a J H s->RelV x v->aQ b d->r x b H Q →
  PP `ay X.A (call (.builtin e) (v :: d)) (EP X a J Q) X.xe s
def aQ.nil_inv(h:aQ [] a):a=[]:=by
 cases h;rfl
def aQ.cons_inv(h:aQ (x :: a) d):∃u b,d=u :: b/\RelV x u/\aQ a b:=by
 cases h with
 |cons r t=>exact⟨_,_,rfl,r,t⟩
def aQ.one(h:aQ [x] a):∃u,a=[u]/\RelV x u:=by
 obtain⟨u,vs,rfl,r,t⟩:=h.cons_inv;rw[t.nil_inv];exact⟨_,rfl,r⟩
section
def Inv.Qw{a its':W7}(I:`a_)(m:H l=Y (.lst xs))(e:s.heap.get? l=Y { cls:=.type "list",data:=.seq a.toArray n })(j:f a.toArray=its'.toArray)(h:aQ ys its')(g:ys.length<=KF) :
  Inv X pins J (upd H l (.lst ys)) { s with heap:=s.heap.update l (Obj.mapSeq f),toks:=d }:=by
 have q:=PySem.IsL.update e f;rw[j]at q;refine I.write (x:=l) (e:=l) (by rw[m];exact trivial) (.inl M) (λo u hb i=>(YI s.heap (Obj.mapSeq f) (YH hb)).trans i) ⟨_,q⟩ ?_;exact⟨g,its',_,h,q⟩
def Inv.Tr{t':Nat}(I:`a_)(e:aQ ys a)(d:ys.length<=KF) :
  Inv X pins J (upd H s.heap.objs.size (.lst ys)) { s with heap:=s.heap.push { cls:=.type "list",data:=.seq a.toArray },toks:=t' } :=
 I.laid (λ_ _ q=>Zm _ q) (Zp _) ⟨d,a,0,e,ZV _ M⟩
theorem Inv.fresh(I:`a_):H s.heap.objs.size=O:=I.Ip.fresh (Zp _)
def Inv.MQ(I:`a_)(d:H l=Y (.lst xs)):xs.length<=KF/\∃(a:W7)(n:Nat),aQ xs a/\xs.length=a.length/\s.heap.get? l=Y { cls:=.type "list",data:=.seq a.toArray n }:=by
 obtain⟨z,a,n,r,e⟩:=I.Ip l _ d;exact⟨z,a,n,r,r.length,e⟩
def Ao(h:n<=KF):Builtin.List.listTooLong n=B:=by
 unfold Builtin.List.listTooLong;exact ZM (by exact Nat.not_lt_of_le h)
end
section
def qU:V->List V->Hp->VK->Prop:=λx b H Q=>∃l a y,x=.ref l/\b=[y]/\H l=Y (.lst a)/\a.length<KF/\Q .non (upd H l (.lst (a++[y])))
def h9:MtM X "list.append" qU:=by
 intro a s J H x o v p Q I f g h;obtain⟨l,m,y,rfl,rfl,d,j,q⟩:=h;cases f;obtain⟨u,rfl,i⟩:=g.one;obtain⟨z,b,n,r,t,e⟩:=I.MQ d;refine call_meets F.slot_list_append ⟨_,e,rfl⟩ F.entry_list_append (F.args_list_append_2 _ _) (PySem.list_append l b.toArray n u (by rw[ZJ];lia)) ⟨e,?_⟩;refine⟨.non,_,I.Qw (its':=b++[u]) d e (by simp) (r.append (.cons i .nil)) ?_,rfl,q⟩;rw[Zw,LI];exact VJ j
def vJ:V->List V->Hp->VK->Prop:=λx e H Q=>∃l b d a,x=.ref l/\e=[.ref b]/\H l=Y (.lst d)/\H b=Y (.lst a)/\d.length+a.length<=KF/\Q .non (upd H l (.lst (d++a)))
def xB:MtM X "list.extend" vJ:=by
 intro g s J H x D v E Q I j m h;obtain⟨l,b,C,y,rfl,rfl,i,t,G,q⟩:=h;cases j;obtain⟨u,rfl,o⟩:=m.one;cases o;obtain⟨z,a,n,r,M,e⟩:=I.MQ i;obtain⟨A,f,p,r2,N,e2⟩:=I.MQ t;have d:a.toArray.size+f.toArray.size<=sizeLine:=by rw[ZJ,ZJ];lia
 have w:¬(!a.toArray.isEmpty&&Builtin.List.listTooLong (a.toArray.size+f.toArray.size))=L:=by
  rw[Ao d,Bool.and_false];exact Zd
 refine call_meets F.slot_list_extend ⟨_,e,rfl⟩ F.entry_list_extend (F.args_list_extend_2 _ _)
  (AutoSeq1.list_extend_list_list_0 l a.toArray n b f.toArray p w (by rw[ZJ];lia) (by exact Nat.le_add_right_of_le d)) ⟨e,e2,?_⟩
 refine⟨.non,_,I.Qw (its':=a++f) i e (by simp) (r.append r2) ?_,rfl,q⟩;rw[Zw];omega
def GP:R2:=λx y H Q=>∃l b d a,x=.ref l/\y=.ref b/\H l=Y (.lst d)/\H b=Y (.lst a)/\d.length+a.length<=KF/\∀p,H p=O->Q (.ref p) (upd H p (.lst (d++a)))
def Ec:OpR X (binaryOp .Add) GP:=by
 intro a s J H x y v u Q I i g h;obtain⟨l,b,w,p,rfl,rfl,j,m,C,q⟩:=h;cases i;cases g;obtain⟨z,d,n,r,D,e⟩:=I.MQ j;obtain⟨t,f,A,r2,E,e2⟩:=I.MQ m;refine PySem.P.add_list e e2 ?_ (by rw[ZJ,ZJ];lia);have o:d.toArray++f.toArray=(d++f).toArray:=by simp
 rw[o];exact⟨.ref _,_,I.Tr (t':=s.toks) (r.append r2) (by rw[Zw];omega),rfl,q _ I.fresh⟩
def len_rep{α:Type}(a:List α)(k:Nat):(List.replicate k a).flatten.length=k*a.length:=by
 induction k with
 |zero=>simp
 |succ k b=>rw[X5,ZI,Zw,b,WE,WC]
end
section
set_option maxRecDepth 100000 in
end
section
variable{κ:Type}[DecidableEq κ]
noncomputable def fZ(b:List (κ×V))(k:κ):Option V:=(b.find? λa=>decide (a.1=k)).map (·.2)
noncomputable def putK(b:List (κ×V))(k:κ)(v:V):List (κ×V) :=
 if (b.any λa=>decide (a.1=k))=L then b.map (λa=>if a.1=k then (a.1,v) else a) else b++[(k,v)]
def iV{p:κ×V}(e:p.1=k):fZ (p :: r) k=Y p.2:=by simp[fZ,Yq,e]
def nh{p:κ×V}(e:¬p.1=k):fZ (p :: r) k=fZ r k:=by simp[fZ,Yq,e]
theorem tM(k:κ):∀a:List (κ×V),(a.any λb=>decide (b.1=k))=(fZ a k).isSome
 |[]=>rfl
 |p :: r=>by
  rw[Xy];by_cases e:p.1=k
  ·simp only[iV e,decide_eq_true e,Bool.true_or,Option.isSome_some]
  ·rw[nh e,ZM e,VO];exact tM k r
def gy(a:List (κ×V))(k:κ)(v:V):(putK a k v).length<=a.length+1:=by
 unfold putK;split
 ·rw[Zt];exact ZQ _ _
 ·rw[Zw,Zg,List.length_nil];exact Zp _
def iN.Je(r:iN o u):o.isSome=u.isSome:=by
 cases o with
 |none=>cases u with
  |none=>rfl
  |some _=>exact(show False from r).elim
 |some _=>cases u with
  |none=>exact(show False from r).elim
  |some _=>rfl
theorem iN.getD{o:Option V}{u:Vv}{d:V}(r:iN o u)(b:RelV d a):RelV (o.getD d) (u.getD a):=by
 cases o with
 |none=>cases u with
  |none=>exact b
  |some _=>exact(show False from r).elim
 |some _=>cases u with
  |none=>exact(show False from r).elim
  |some _=>exact r
def KV.val(r:KV i f)(k:κ):iN (fZ i k) (valueAt f k):=by
 unfold KV at r
 induction r with
 |nil=>exact True.intro
 |@cons p q ps a h t j =>
  obtain⟨g,l⟩:=h;by_cases e:p.1=k
  ·have d:q.1=k:=g.symm.trans e;have b:valueAt (q :: a) k=Y q.2:=by simp[valueAt,Yq,d]
   rw[iV e,b];exact l
  ·have d:¬q.1=k:=λz=>e (g.trans z);have b:valueAt (q :: a) k=valueAt a k:=by simp[valueAt,Yq,d]
   rw[nh e,b];exact j
theorem KV.any(r:KV d b)(k:κ):(d.any λa=>decide (a.1=k))=b.any λa=>decide (a.1=k):=by
 unfold KV at r
 induction r with
 |nil=>rfl
 |cons h t e=>rw[Xy,Xy,e,h.1]
def KV.Ov(r:KV f d)(k:κ)(g:RelV y u) :
  KV (f.map λa=>if a.1=k then (a.1,y) else a) (d.map λa=>if a.1=k then (a.1,u) else a):=by
 unfold KV at r ⊢
 induction r with
 |nil=>exact .nil
 |@cons p q ps l h t i =>
  rw[Zc,Zc];refine .cons ?_ i;obtain⟨b,j⟩:=h;by_cases e:p.1=k
  ·rw[Zo e,Zo (b.symm.trans e)];exact⟨b,g⟩
  ·rw[Zl e,Zl (λz=>e (b.trans z))];exact⟨b,j⟩
def KV.put(r:KV d a)(k:κ)(b:RelV y u):KV (putK d k y) (stored a k u):=by
 unfold putK stored;rw[r.any k];by_cases e:(a.any λf=>decide (f.1=k))=L
 ·rw[Zo e,Zo e];exact r.Ov k b
 ·rw[Zl e,Zl e];exact Paired.snoc r ⟨rfl,b⟩
def KV.keys{b:List (κ×V)}{a:List (κ×On)}(r:KV b a):b.map (·.1)=a.map (·.1):=by
 unfold KV at r
 induction r with
 |nil=>rfl
 |cons h t d=>rw[Zc,Zc,d,h.1]
theorem KV.length{b:List (κ×V)}{a:List (κ×On)}(r:KV b a):b.length=a.length:=Wm r
end
def lR(r:RelV (kV k) u):(aR P w).is k u=L:=by
 cases k with
 |inl i=>obtain⟨t,e⟩:=(show ∃t,u=Value.int i t from r);subst e;exact rV P w i t
 |inr x=>obtain⟨t,e⟩:=(show ∃t,u=Value.str x t from r);subst e;exact tQ P w x t
theorem oV:∀{a:List Key}{b:W7},aQ (a.map kV) b->ItemsAre (aR P w) a b
 |[],_,r=>by rw[Vq]at r;cases r;exact .nil
 |k :: a,_,r=>by
  rw[Zc]at r;cases r with
  |cons h t=>exact .cons (lR h) (oV t)
abbrev KT(H:Hp):List (List Key×V)->List (List Key×KM×On)->Prop:=Paired λp q=>p.1=q.1/\H q.2.1=Y (.tup (p.1.map kV))/\RelV p.2 q.2.2
def KT.val(r:KT H i f)(k:List Key):iN (fZ i k) ((atKey f k).map (·.2)):=by
 induction r with
 |nil=>exact True.intro
 |@cons p q ps a h t j =>
  obtain⟨g,_,l⟩:=h;by_cases e:p.1=k
  ·have d:q.1=k:=g.symm.trans e;have b:atKey (q :: a) k=Y q.2:=by simp[atKey,Yq,d]
   rw[iV e,b];exact l
  ·have d:¬q.1=k:=λz=>e (g.trans z);have b:atKey (q :: a) k=atKey a k:=by simp[atKey,Yq,d]
   rw[nh e,b];exact j
def KT.Ov(r:KT H g d)(k:List Key)(i:RelV y u) :
  KT H (g.map λb=>if b.1=k then (b.1,y) else b) (d.map (putAt k u)):=by
 induction r with
 |nil=>exact .nil
 |@cons p q ps m h t j =>
  rw[Zc,Zc];refine .cons ?_ j;obtain⟨a,f,l⟩:=h;unfold putAt;by_cases e:p.1=k
  ·rw[Zo e,Zo (a.symm.trans e)];exact⟨a,f,i⟩
  ·rw[Zl e,Zl (λz=>e (a.trans z))];exact⟨a,f,l⟩
def KT.put(r:KT H d a)(k:List Key)(h:H b=Y (.tup (k.map kV)))(f:RelV y u) :
  KT H (putK d k y) (storedH a k b u):=by
 have e:(d.any λg=>decide (g.1=k))=(atKey a k).isSome:=by
  rw[tM,(r.val k).Je,Xu]
 unfold putK storedH;rw[e];by_cases q:(atKey a k).isSome=L
 ·rw[Zo q,Zo q];exact r.Ov k f
 ·rw[Zl q,Zl q];exact Paired.snoc r ⟨rfl,h,f⟩
def KT.keeps(r:KT H e d)(g:∀b a,H b=Y (.tup a)->f b=Y (.tup a)):KT f e d :=
 Paired.NF r λ_ _ z=>⟨z.1,g _ _ z.2.1,z.2.2⟩
section
def Dx(b:Ju P w H h)(e:Rd H a u):bX P w H h a u:=e.ok b
def lV(f:Ju P w H h)(e:Rd H a (.dK b)):b.length<=KF/\(a==sysModules)=B/\∃d,KV b d/\h.DictOf (aR P w) a d :=
 show bX P w H h a (.dK b) from Dx f e
def tD(f:Ju P w H h)(e:H a=Y (.dK b)):b.length<=KF/\(a==sysModules)=B/\∃d,KV b d/\h.DictOf (aR P w) a d:=lV f (.inl e)
def dG{b:List Key}(f:Ju P w H h)(e:H a=Y (.tup (b.map kV))):(tupleKind (aR P w)).is h b a:=by
 obtain⟨_,d,r,_,o,j,i,n,g⟩:=(show bX P w H h a (.tup (b.map kV)) from f a _ e)
 exact⟨o,d.toArray,n,j,i,g,by simpa using oV r⟩
def nU(g:Ju P w H h)(e:Rd H a (.dT f)):f.length<=KF/\(a==sysModules)=B ∧
  ∃d,KT H f d/\h.DictOfH (tupleKind (aR P w)) a d:=by
 obtain⟨z,y,d,r,o,C,D,A,v,u,s,n⟩:=(show bX P w H h a (.dT f) from Dx g e)
 refine⟨z,y,d,r,o,C,D,A,v,u,s,λx b=>?_,n⟩;have all:∀{l:List (List Key×V)}{m:List (List Key×KM×On)},KT H l m->∀x∈m,(tupleKind (aR P w)).is h x.1 x.2.1:=by
  intro l m q
  induction q with
  |nil=>intro x b;exact nomatch b
  |@cons p q ps E i t j =>
   intro x b;rcases Zj.mp b with e | b
   ·subst e;exact dG g (by rw[← i.1];exact i.2.1)
   ·exact j x b
 exact all r x b
def Hq(f:Ju P w H h)(e:H a=Y (.dT b)):b.length<=KF/\(a==sysModules)=B ∧
  ∃d,KT H b d/\h.DictOfH (tupleKind (aR P w)) a d:=nU f (.inl e)
end
def gR(H:Hp)(a:KM)(y:V)(r:Option V):Prop :=
 (∃d k,Rd H a (.dK d)/\y=kV k/\r=fZ d k)\/∃d k b,Rd H a (.dT d)/\y=.ref b/\H b=Y (.tup (k.map kV))/\r=fZ d k
def uK(H:Hp)(a:KM)(y v:V)(e:Hp):Prop :=
 (∃d k,H a=Y (.dK d)/\y=kV k/\d.length<KF/\e=upd H a (.dK (putK d k v))) ∨
 ∃d k b,H a=Y (.dT d)/\y=.ref b/\H b=Y (.tup (k.map kV))/\d.length<KF/\e=upd H a (.dT (putK d k v))
theorem gR.k{a:KM}{b:List (Key×V)}{k:Key}(e:H a=Y (.dK b)):gR H a (kV k) (fZ b k):=.inl ⟨b,k,.inl e,rfl,rfl⟩
theorem uK.k{a:KM}{b:List (Key×V)}{k:Key}{v:V}(e:H a=Y (.dK b))(d:b.length<KF):uK H a (kV k) v (upd H a (.dK (putK b k v))):=.inl ⟨b,k,e,rfl,d,rfl⟩
section
def Inv.big(I:`a_):sysModules<s.heap.objs.size:=by
 have h:mainGlobals<s.heap.objs.size:=(I.mod.glob.keeps I.bk).lt;exact WD `ao h
def xN{A:SC}(x:A.units+1<cLine)(I:`a_)(g:gR H a y (Y v))(n:RelV y u)(h:∀d m,Inv X pins J H m->RelV v d->Q d m) :
  PP `ay A (getItem (.ref a) u) Q E s:=by
 rcases g with⟨D,k,e,f,l⟩ | ⟨D,k,b,e,f,F,l⟩
 ·subst f;obtain⟨z,hd,t,rel,i⟩:=lV I.Ip e;obtain⟨d,hw,j⟩:=iN.some_of (v:=v) (o:=valueAt t k) (by rw[l];exact rel.val k);exact wpAny_getItem_of (lR n) i.mapOf hw (h d _ (I.tok _) j)
 ·subst f;cases (show u=Value.ref b from n);obtain⟨z,hd,q,rel,i⟩:=nU I.Ip e;obtain⟨d,hw,j⟩:=iN.some_of (v:=v) (o:=(atKey q k).map (·.2)) (by rw[l];exact rel.val k);obtain⟨p,C,G⟩:=Zy.mp hw;refine wpAny_getItem_heap (WZ x) (dG I.Ip F) i C ?_;rw[G];exact h d _ (I.tok _) j
def HH{A:SC}(m:A.units+1<cLine)(I:`a_)(g:gR H a y o)(j:RelV y u)(h:∀i,Inv X pins J H i->Q (.bool o.isSome) i) :
  PP `ay A (UV .In u (.ref a)) Q E s:=by
 rcases g with⟨n,k,e,d,l⟩ | ⟨n,k,b,e,d,p,l⟩
 ·subst d;obtain⟨z,hd,x,rel,f⟩:=lV I.Ip e;refine wpAny_in_of (lR j) hd f.mapOf ?_;rw[← (rel.val k).Je,← l];exact h _ (I.tok _)
 ·subst d;cases (show u=Value.ref b from j);obtain⟨z,hd,t,rel,f⟩:=nU I.Ip e;refine wpAny_in_heap (WZ m) (dG I.Ip p) hd f ?_;have q:=(rel.val k).Je;rw[Xu]at q;rw[← q,← l];exact h _ (I.tok _)
def By{A:SC}(m:A.units+1<cLine)(I:`a_)(g:gR H a y o)(j:RelV y u)(h:∀i,Inv X pins J H i->Q (.bool (!o.isSome)) i) :
  PP `ay A (UV .NotIn u (.ref a)) Q E s:=by
 rcases g with⟨n,k,e,d,l⟩ | ⟨n,k,b,e,d,p,l⟩
 ·subst d;obtain⟨z,hd,x,rel,f⟩:=lV I.Ip e;refine wpAny_notIn_of (lR j) hd f.mapOf ?_;rw[← (rel.val k).Je,← l];exact h _ (I.tok _)
 ·subst d;cases (show u=Value.ref b from j);obtain⟨z,hd,t,rel,f⟩:=nU I.Ip e;refine wpAny_notIn_heap (WZ m) (dG I.Ip p) hd f ?_;have q:=(rel.val k).Je;rw[Xu]at q;rw[← q,← l];exact h _ (I.tok _)
def mw{t':Nat}(I:`a_)(h:Iy (H a))(i:Heap.SameBut a s.heap d)(he:∃q,d.get? a=Y q)(g:bX X.prog X.w (upd H a f) d a f) :
  Inv X pins J (upd H a f) { s with heap:=d,toks:=t' } :=
 I.write (x:=a) (e:=a) h (.inl M) (λb q hb z=>(i.2 b hb).trans z) he g
def pM{f:XAA}{e:List (Key×V)}(z:e.length<=KF)(g:(a==sysModules)=B)(d:KV e b)(h:f.DictOf (aR P w) a b) :
  bX P w i f a (.dK e):=⟨z,g,b,d,h⟩
def xF{A:SC}(U:A.units+1<cLine)(I:`a_)(g:uK H a y v P)(D:RelV y u)(F:RelV v r)(h:∀C,Inv X pins J P C->Q () C) :
  PP `ay A (setItem (.ref a) u r) Q E s:=by
 rcases g with⟨d,k,e,p,l,t⟩ | ⟨d,k,b,e,p,N,l,t⟩
 ·subst p t;obtain⟨z,hd,S,rel,x⟩:=tD I.Ip e;have j:S.length<=sizeLine:=by rw[← rel.length];exact z
  have n:(putK d k v).length<=sizeLine:=by have:=gy d k v;lia
  refine wpAny_setItem_pairs (hsz:=j) (lR D) x λG i m=>h _ ?_;have he:∃q,G.get? a=Y q:=let ⟨q,_,_,f,_⟩:=i;⟨q,f⟩
  exact mw I (by rw[e];exact True.intro) m he (pM n hd (rel.put k F) i)
 ·subst p t;cases (show u=Value.ref b from D);obtain⟨z,hd,R,rel,x⟩:=Hq I.Ip e;have j:R.length<=sizeLine:=by rw[← Wm rel];exact z
  have n:(putK d k v).length<=sizeLine:=by have:=gy d k v;lia
  refine wpAny_setItem_heap (hsz:=j) (WZ U) (dG I.Ip N) x λG i m=>h _ ?_;obtain⟨q,es,ep,f,h2,h3,h4,_,Z⟩:=i;refine mw I (by rw[e];exact True.intro) m ⟨q,f⟩ ⟨n,hd,_,(rel.put k N F).keeps λc ys M=>?_,q,es,ep,f,h2,h3,h4,Z⟩;rw[aE (Ad M e (λz=>nomatch z))];exact M
end
section
def G2(I:`a_)(e:Rd H a (.dK gV))(h:∀t b,Inv X pins J H b->Q (.int gV.length t) b):PP `ay A (call (.builtin "len") [.ref a]) Q E s:=by
 obtain⟨z,hd,f,rel,d⟩:=lV I.Ip e;refine call_len_dict hd d (by rw[← rel.length];rw[WY]at z;lia) ?_;rw[← rel.length];exact h _ _ (I.tok _)
end
def tF(I:Inv X d J H s)(g:gR H a y o):s.TypeIs (.ref a) "dict" := by
 rcases g with⟨h,k,e,_,_⟩ | ⟨h,k,b,e,_,_,_⟩
 ·obtain⟨_,_,j,_,f⟩:=lV I.Ip e;exact f.typeIs
 ·obtain⟨_,_,i,_,f⟩:=nU I.Ip e;exact f.typeIs
def rH{P:Re}{w:XAB}(h:XAA)(a:sysModules<h.objs.size):bX P w H (h.push { cls:=.type "dict",data:=.dict #[] }) h.objs.size (.dK []) :=
 ⟨ZD _,KS.mpr (YH (Ze a)),[],.nil,Heap.DictOf.new h⟩
def FB:TE:=λ_ H Q=>∀p,H p=O->Q (.ref p) (upd H p (.dK []))
section
def yc:PE X (.Dict [] [] pos) FB:=λb s J H Q I h =>
 wpAny_Dict_empty ⟨.ref s.heap.objs.size,_,I.laid (a:=s.heap.objs.size) (o:=.dK []) (t':=s.toks) (λ_ _ q=>Zm _ q) (Zp _) (rH s.heap I.big),rfl,h _ (I.Ip.fresh (Zp _))⟩
end
noncomputable def t9:List (TE×TE)->St->Hp->(List (V×V)->Hp->Prop)->Prop
 |[],_,H,Q=>Q [] H
 | (b,a) :: r,J,H,Q=>b J H λx f=>a J f λy e=>t9 r J e λps d=>Q ((x,y) :: ps) d
abbrev VV:List (V×V)->List (On×On)->Prop:=Paired λp q=>RelV p.1 q.1/\RelV p.2 q.2
def PPs(X:Cx)(e:Pos)(d:List (Option Expr))(a:List Expr)(i:List (TE×TE)):Prop :=
 ∀(b:Yw)(s:IR)(J:St)(H:Hp)(Q:List (V×V)->Hp->Prop),Inv X b J H s->t9 i J H Q →
  PP `ay X.A (evalPairs (pairTrees d a X.env e)) (λg h=>∃ps f,Inv X b J f h/\VV ps g/\Q ps f) X.xe s
def CW:PPs X a [] [] []:=λb s J H Q I h=>pairTrees_nil_walk ⟨[],H,I,.nil,h⟩
def yo(t:PE X k f)(q:PE X v e)(r:PPs X b g d i) :
  PPs X b (Y k :: g) (v :: d) ((f,e) :: i):=λa s J H Q I h =>
 pairTrees_cons_walk (thn (t a s J H _ I h) λu s1 ⟨x,E,A,m,p⟩=>thn (q a s1 J E _ A p) λF j ⟨y,D,z,l,o⟩ =>
  thn (r a j J D _ z o) λws G ⟨ps,C,w,rel,n⟩=>⟨(x,y) :: ps,C,w,.cons ⟨m,l⟩ rel,n⟩)
def mZ(d a:List (Key×V)):List (Key×V):=a.foldl (λacc b=>putK acc b.1 b.2) d
def KV.merge:∀{more:List (Key×V)}{d:List (Key×On)}{b:List (Key×V)}{a:List (Key×On)},KV more d->KV b a->KV (mZ b more) (merged a d):=by
 intro more d b a r;unfold KV at r
 induction r generalizing b a with
 |nil=>intro q;exact q
 |@cons p q ps i h t g =>
  intro f;have e:KV (putK b p.1 p.2) (stored a q.1 q.2):=by
   have:=f.put p.1 h.2;rw[← h.1];exact this
  exact g e
theorem jJ:∀(more a:List (Key×V)),(mZ a more).length<=a.length+more.length
 |[],a=>by show a.length<=a.length+0;exact ZQ _ _
 |p :: r,a=>by
  have d:=jJ r (putK a p.1 p.2);have b:=gy a p.1 p.2;show (mZ (putK a p.1 p.2) r).length<=_;rw[Zg];lia
theorem nI{P:Re}{w:XAB}:∀{e:List (Key×V)}{ws:List (On×On)},VV (e.map λf=>(kV f.1,f.2)) ws->∃d,Carries (aR P w) ws d/\KV e d
 |[],_,r=>by rw[Vq]at r;cases r;exact⟨[],True.intro,.nil⟩
 |p :: e,_,r=>by
  rw[Zc]at r;cases r with
  |@cons a b j bs h t =>
   obtain⟨d,c,q⟩:=nI (P:=P) (w:=w) t;obtain⟨i,g⟩:=b;exact⟨(p.1,g) :: d,⟨lR h.1,rfl,c⟩,.cons ⟨rfl,h.2⟩ q⟩
def FZ(e:List (TE×TE)):TE:=λJ H Q=>∀p,H p=O->t9 e J (upd H p (.dK [])) λps d=>d p=Y (.dK [])/\∃a:List (Key×V),ps=a.map (λb=>(kV b.1,b.2))/\a.length<=15/\Q (.ref p) (upd d p (.dK (mZ [] a)))
def B9(h:PPs X f b d l)(N:b.all (·.isSome)=L)(D:b.length=d.length)(F:b≠[])(i:b.length<=15):PE X (.Dict b d f) (FZ l):=by
 intro g s J H Q I q;have C:=I.Ip.fresh (Zp s.heap.objs.size);have R:=I.laid (a:=s.heap.objs.size) (o:=.dK []) (h':=s.heap.push { cls:=.type "dict",data:=.dict #[] }) (t':=s.toks) (λ_ _ q=>Zm _ q) (Zp _) (rH s.heap I.big);refine wpAny_Dict_walk (knd:=aR X.prog X.w) N D F i (thn (h g _ J _ _ R (q _ C)) λws S ⟨ps,U,n,rel,e,j,G,lk,v⟩=>?_);subst G;obtain⟨r,c,t⟩:=nI (P:=X.prog) (w:=X.w) rel;obtain⟨z,hd,p,u,M⟩:=tD n.Ip e;cases u;refine⟨r,c,M,λh' m y=>⟨.ref s.heap.objs.size,_,?_,rfl,v⟩⟩;have x:(mZ [] j).length<=sizeLine:=by
  have E:=jJ j [];rw[List.length_nil]at E;rw[WY];lia
 have he:∃q,h'.get? s.heap.objs.size=Y q:=let ⟨q,_,_,A,_⟩:=m;⟨q,A⟩
 exact mw n (by rw[e];exact True.intro) y he (pM x hd (t.merge .nil) m)
structure M1(X:Cx)(o:Expr)(m:Str)(apos:Pos)(e:Expr)(jj:Pos):Prop where
 base:XAC o m X.env (eval o X.env)=eval o X.env
 Jo:((backTo jj (Pv [e] X.env)).all (λx=>!x.1)&&(backToKw jj (SZ [] X.env)).all (λx=>x.1.isSome)
  && decide (([e]:List Expr).length+([]:List Keyword).length+(if ([]:List Keyword).isEmpty then 0 else 1)<30))=true
 line:(apos.endLine==jj.line)=true
 trees:backTo jj (Pv [e] X.env)=[(false,eval e X.env)]
def IsD(H:Hp)(a:KM):Prop:=(∃b,Rd H a (.dK b))\/∃b,Rd H a (.dT b)
def EV(I:Inv X g J H s)(d:IsD H a) :
  s.TypeIs (.ref a) "dict" ∧ (∀b,Value.ref a=.ref b->∃f,s.heap.get? b=Y f/\f.dict=O)/\(a==sysModules)=B:=by
 rcases d with⟨l,e⟩ | ⟨l,e⟩
 ·obtain⟨_,hd,n,_,h⟩:=lV I.Ip e;refine⟨h.typeIs,λb q=>?_,hd⟩;cases q;obtain⟨f,_,_,j,i,_⟩:=h;exact⟨f,j,i.2.1⟩
 ·obtain⟨_,hd,m,_,h⟩:=nU I.Ip e;refine⟨h.typeIs,λb q=>?_,hd⟩;cases q;obtain⟨f,_,_,j,i,_⟩:=h;exact⟨f,j,i.2.1⟩
section
def EA{A:SC}(q:A.units+1<cLine)(I:`a_)(g:gR H a y o)(n:RelV y u)(h:∀j m,Inv X pins J H m->RelV (o.getD .non) j->Q j m) :
  PP `ay A (call (.builtin "dict.get") [.ref a,u]) Q E s:=by
 rcases g with⟨t,k,e,i,l⟩ | ⟨t,k,b,e,i,v,l⟩
 ·subst i;obtain⟨z,hd,x,rel,f⟩:=lV I.Ip e;refine call_meetsIn Vl f.typeIs PySem.F.entry_dict_get (PySem.F.args_dict_get_2 _ _) (meets_dict_get (aR X.prog X.w) a (lR n) hd) ⟨_,f.mapOf,h _ _ (I.tok _) ?_⟩;rw[l];exact(rel.val k).getD M
 ·subst i;cases (show u=Value.ref b from n);obtain⟨z,hd,p,rel,f⟩:=nU I.Ip e;refine call_meetsIn Vl f.typeIs PySem.F.entry_dict_get (PySem.F.args_dict_get_2 _ _) (meetsH_dict_get (tupleKind (aR X.prog X.w)) a b hd) ⟨WZ q,k,p,dG I.Ip v,f,h _ _ (I.tok _) ?_⟩;rw[l];exact(rel.val k).getD M
end
def FW(f e:TE):TE:=λJ H Q=>f J H λx d=>∃a,x=.ref a/\IsD d a/\e J d λy b=>∃o,gR b a y o/\Q (o.getD .non) b
section
def x9{X:Cx}(t:X.A.units+1<cLine)(v:PE X o td)(he:PE X e ty)(m:M1 X o "get" apos e jj):PE X (.Call (.Attribute o "get" apos) [e] [] jj) (FW td ty):=by
 intro b s J H Q I h;refine wpAny_Call_method m.base m.Jo m.line PySem.F.plainAttrs_dict Vl PySem.F.type_dict_get (thn (v b s J H _ I h) λu s1 ⟨x,E,i,p,a,ex,d,r⟩=>?_);subst ex;obtain rfl:u=Value.ref a:=p;obtain⟨l,j,_⟩:=EV i d;refine⟨l,j,?_⟩;rw[m.trees];refine Calls.callWith_builtin M (Calls.evalArgs_plain (Calls.spliced_cons (thn (he b s1 J E _ i r) λiv P ⟨y,D,C,n,ov,g,q⟩=>Calls.spliced_nil ?_)));exact EA t C g n λG N z w=>⟨_,D,z,w,q⟩
end
end L2
namespace Att
open PySem PySem.W PySem.Calls PyProof.Rows
def mn:∀(ns:Vg)(d:W7),WellAll P h d (ns.map WData.int)->IntsAre d ns:=by
 intro ns
 induction ns with
 |nil =>
  intro d w;rw[Vq]at w;cases w;exact .nil
 |cons n ns e =>
  intro d w;rw[Zc]at w;cases w with
  |cons a b =>
   cases a;exact .cons _ _ (e _ b)
def xq{l:OpenLaw}(w:l.most=Y n)(f:l.row.toRowW.claim.pre b=L)(j:WellAll P h e b) :
  ∃a o ns,e=[Value.ref a]/\b=[WData.list (ns.map WData.int)]/\h.get? a=Y { cls:=.type "list",data:=.seq o.toArray }/\IntsAre o ns/\ns.length<=n:=by
 have m:WShape.hasAll [] b [.list .int]=L:=(pre_splitW f).1;have p:l.pre.holds [] { args:=b }=L:=(pre_splitW f).2;obtain⟨d,r,rfl,z,y⟩:=hasAllW_cons m;obtain rfl:=hasAllW_nil y;obtain⟨C,rfl,x⟩:=hasW_list z;obtain⟨ns,rfl⟩:=items_int x;have hlen:ns.length<=n:=by
  unfold OpenLaw.pre at p;have i:(WTm.not (.lt (.lit (.int (n:Int))) (.len (.arg 0)))).holds [] { args:=[.list (ns.map .int)] }=L:=by
   have i:=(holds_andW p).1;rw[w]at i;exact i
  have g:=condW_of i (w_not (w_lt w_lit (w_len_list (w_arg M))));rw[Zt]at g;refine ZK λq=>?_;have u:(n:Int)<((ns.length:Nat):Int):=by omega
  first
   | (rw[decide_eq_true u]at g;exact absurd g `ao)
   | (simp at g;omega)
 cases j with
 |cons t s =>
  cases s;cases t with
  |list v A=>exact⟨_,_,ns,rfl,rfl,v,mn ns _ A,hlen⟩
def wx(l:OpenLaw)(a:List WData):l.row.toRowW.claim.post a (.bool L) a=L :=
 postW_of (r:=l.row.toRowW) (X:=(L==L))
  (show WShape.has [] (.bool L) .bool=L by first | rfl | decide | simp[WShape.has,WShape.arms,WShape.armsAll])
  (show (WTm.eq .res (.lit (.bool L))).value [] { args:=a,res:=Y (.bool L),after:=a }=Y (.bool (L==L)) from w_eq_bool (w_res M) w_lit) M
def sL{l:OpenLaw}{d:DefRec}(F:l.most=some n)(R:d.params.defaults=[])(j:∀(w:XAB)(p b:IR)(mg s:Wq)(i:KM)(o:Obj)(pm cd doc:On)(a:KM)(g:W7)(ns:Vg),
   Ground q e [] A w p mg s b.heap->z w b.heap →
   b.heap.get? i=some o->o.data=.func (docDef d.name d.params d.body d.scope pm cd doc)->b.heap.CodeRec cd d.name->mg d.name=some (.ref i) →
   b.heap.get? a=some { cls:=.type "list",data:=.seq g.toArray }->IntsAre g ns->ns.length<=n->b.gens=#[] →
   codeAny (KB l.prog w) callerA (.call (.ref i) ⟨[.ref a],[]⟩) (λr m=>r=.ok (.ret (.bool L))/\OldK b.heap m.heap/\m.os=b.os/\AllBare m.gens) b) :
  WalkO q e A z l.row.toRowW d [] (λf g=>PySem.call f g):=by
 intro w p b mg s G Y i o pm cd doc Q kV E hd v y u hg args vals U h x C t J;obtain rfl:Q=.none:=Dflts.none y R;obtain rfl:kV=.none:=Dflts.noKw y;obtain⟨a,g,ns,rfl,rfl,S,hints,hlen⟩:=xq F h t;refine enter_call (WR (j w p b mg s i o pm cd doc a g ns G Y E (fd_plain hd) v u S hints hlen hg) λr m D=>?_);obtain⟨rfl,P,N,M⟩:=D;exact⟨.inl ⟨.bool L,.bool L,[],rfl,λ_=>rfl,.bool L,wx l _,λ_=>⟨List.Pairwise.nil,λ_ H=>(nomatch H)⟩⟩,P,N,M⟩
end Att
namespace L2
open PySem PySem.Spec PyProof.Rows
theorem oS:∀{a:W7}{ns:Vg},IntsAre a ns->aQ (ns.map V.int) a
 |_,_,.nil=>.nil
 |_,_,.cons n t h=>.cons ⟨t,rfl⟩ (oS h)
noncomputable def AJ(H:Hp):Prop:=∀b,H b=O\/∃o a,H b=Y (.frz o (.lst a))
def zD{K:X0}{f:IR}{j:W7}(KX:K.In f.heap)(N8:f.heap.Ns mainGlobals t)(g:f.heap.Ns builtinsNs G)(Uh:∀x:Str,x ≠ "__name__" → G x=bootBuiltins x)(TY:f.heap.NoLimit)(hg:f.gens=#[])(D:f.heap.get? a=Y { cls:=.type "list",data:=.seq j.toArray })(X:IntsAre j p)(U:p.length<=KF)(hr:Im k callerA)(F:∀base:XAA,K.In base->base.Ns mainGlobals t->FnOk P w K t base CX k N fd [x] R)(QW:∀(s:IR)(u:On),BindsTo s fd ⟨[u],[]⟩ [(x,u)])(N7:∀H:Hp,AJ H->IF K H a (p.map V.int)->R [.ref a] H (λv _=>v=.bl L) λ_ _ _=>False)(UB:∀H e i,CX [] H f (λ_ _ _=>False) e i->False) :
  codeAny (KB P w) callerA (.call (.ref N) ⟨[.ref a],[]⟩) (λr i=>r=.ok (.ret (.bool L))/\OldK f.heap i.heap/\i.os=f.os/\AllBare i.gens) f:=by
 have S:=oS X;have Tt:=X.length;have core:∀H:Hp,AJ H->IF K H a (p.map V.int)->Ju P w H f.heap->(∀b,H b≠O->b=a)->(H a≠O->K.lookup a=O) →
   codeAny (KB P w) callerA (.call (.ref N) ⟨[.ref a],[]⟩) (λr i=>r=.ok (.ret (.bool L))/\OldK f.heap i.heap/\i.os=f.os/\AllBare i.gens) f:=by
  intro H Z hS Ip hA hK;have LY:∀{b:KM}{o:Obj},f.heap.get? b=Y o->H b=O->(oI f.heap H).get? b=Y o:=λe n=>zE e n;have P8:∀{b:KM}{o:Obj}{A:Array DictEntry}{C:Nat},f.heap.get? b=Y o->o.data=.dict A C->H b=O:=λ{b o A C} e d=>by
   cases q:H b with
   |none=>rfl
   |some u =>
    have Q:b=a:=hA b (by rw[q];simp);subst Q;rw[D]at e;cases e;have d':Data.seq j.toArray _=Data.dict A C:=d;cases d'
  have E:∀{b:KM}{m:Wq},f.heap.Ns b m->(oI f.heap H).Ns b m:=λ{b m} ⟨o,A,C,e,d,r⟩=>⟨o,A,C,LY e (P8 e d),d,r⟩
  have y:K.In (oI f.heap H):=λb o e=>LY (KX b o e) (by
   cases q:H b with
   |none=>rfl
   |some u =>
    have Q:b=a:=hA b (by rw[q];simp);subst Q;rw[hK (by rw[q];simp)]at e;cases e)
  have hM:Mod K t (oI f.heap H):=⟨y,E N8,⟨G,E g,Uh⟩,let ⟨mc,h1,h2⟩:=TY;⟨mc,E h1,h2⟩⟩
  have e0:Env0 P w K t (oI f.heap H) callerA [] f H:=⟨rfl,hM,λb q e=>(BY.mp e).1,λb o e=>Cr e,X2 (wH _ _),trivial,λb g=>absurd (show b∈([]:Wp) from g) (by simp),Ip,.of_eq hg⟩
  refine WR ((F _ y (E N8)).run callerA [] f H ⟨[.ref a],[]⟩ [.ref a] [.ref a] _ _ hr e0 (QW f (.ref a)) (.cons M .nil) (N7 H Z hS)) λr i h=>?_;cases r with
  |error e=>exact(UB H e i h).elim
  |ok fl =>
   cases fl with
   |next=>exact False.elim h
   |brk=>exact False.elim h
   |cont=>exact False.elim h
   |ret u =>
    obtain⟨v,H',os,bare,un,TK,r',q⟩:=h;have q':v=.bl L:=q;subst q';obtain rfl:u=Value.bool L:=r';refine⟨rfl,OldK.of_keep λb o e=>?_,os,bare⟩;cases q:H b with
    |none=>exact un.keep b o e q (by intro z;exact absurd (show b∈([]:Wp) from z) (by simp)) (by simp)
    |some u =>
     rcases Z b with z | ⟨ob,xs,z⟩
     ·rw[q]at z;cases z
     ·have z2:=un.KH b ob _ z;obtain⟨e1,_⟩:=Ip b _ z;obtain⟨e2,_⟩:=TK b _ z2;rw[e]at e1;cases e1;exact e2
 cases J:K.lookup a with
 |some o =>
  have e:=KX a o J;rw[D]at e;cases e;refine core (λ_=>O) (λ_=>.inl M) (.inr ⟨_,j.toArray,_,J,rfl,rfl,rfl,by rw[ZJ,Tt];exact U,by simpa using S⟩) (λb u z=>by have l:(O:Option HO)=Y u:=z;cases l) (λb z=>absurd M z) λz=>absurd M z
 |none =>
  refine core (λb=>if b=a then Y (.frz { cls:=.type "list",data:=.seq j.toArray } (.lst (p.map V.int))) else O) (λb=>?_) (.inl (.inr ⟨{ cls:=.type "list",data:=.seq j.toArray },Zo M⟩)) (λb u z=>?_) (λb z=>?_) λ_=>J
  ·by_cases g:b=a
   ·exact .inr ⟨_,_,Zo g⟩
   ·exact .inl (Zl g)
  ·by_cases g:b=a
   ·have l:=(Zo g).symm.trans z;cases l;subst g;exact⟨D,by rw[Zt];exact U,j,_,S,D⟩
   ·have l:=(Zl g).symm.trans z;cases l
  ·by_cases g:b=a
   ·exact g
   ·exact absurd (Zl g) z
def jl{l:PySem.W.OpenLaw}{n k:Nat}{t:XAB->XAA->Prop}{d:DefRec}{K:Params->X0}{CX:XAB->Mx}{sp:XAB->Sp}{x:Str}(C:l.most=some n)(R:n<=KF)(S:d.params.defaults=[])(A:Im k callerA)(E:∀(w:XAB)(h:XAA),t w h->(K w.params).In h)(F:∀(w:XAB)(mg:Wq)(j:KM)(h:XAA),(K w.params).In h->h.Ns mainGlobals mg->mg d.name=some (.ref j) →
   ∃fd:P3,(∀(s:IR)(u:On),BindsTo s fd ⟨[u],[]⟩ [(x,u)]) ∧
    ∀base:XAA,(K w.params).In base->base.Ns mainGlobals mg->FnOk l.prog w (K w.params) mg base (CX w) k j fd [x] (sp w))(X:∀(w:XAB)(H:Hp)(a:KM)(ns:Vg),ns.length<=n->AJ H->IF (K w.params) H a (ns.map V.int)->sp w [.ref a] H (λv _=>v=.bl L) λ_ _ _=>False)(Q:∀(w:XAB)(H:Hp)(s:IR)(e:On)(m:IR),CX w [] H s (λ_ _ _=>False) e m->False) :
  PySem.W.WalkO q i P t l.row.toRowW d [] (λf r=>PySem.call f r):=by
 refine Att.sL C S λw Z z mg mb j o pm cd doc a r ns G Y ho hd D p U hints hlen hg=>?_;have y:=E w _ Y;obtain⟨fd,hb,N⟩:=F w mg j _ y G.T.g p;exact zD y G.T.g G.T.b G.T.builtins G.T.nolimit hg U hints (ZL hlen R) A N hb (λH M J=>X w H a ns hlen M J) λH e m=>Q w H z e m
noncomputable def inClass(s:Stmt)(j:Nat):Stmt:=match s with
 |.ClassDef _ _ _ body _ _ _ _ _ _ _=>body.getD j (.Pass ⟨0,0,0,0⟩)
 |_=>.Pass ⟨0,0,0,0⟩
noncomputable def dU(s:Stmt):Arguments:=match s with
 |.FunctionDef _ a _ _ _ _ _ _ _ _=>a
 |_=>{ posonlyargs:=[],args:=[],vararg:=O,kwonlyargs:=[],kw_defaults:=[],kwarg:=O,defaults:=[] }
noncomputable def bq(s:Stmt):List Stmt:=match s with
 |.FunctionDef _ _ b _ _ _ _ _ _ _=>b
 |_=>[]
def aq(s:Stmt):Scope:=match s with
 |.FunctionDef _ _ _ _ _ _ sc _ _ _=>sc
 |_=>{ kind:=.function,names:=[],isGenerator:=B,isCoroutine:=B }
noncomputable abbrev Jk:Mx:=λ_ _ _ _ _ _=>False
noncomputable abbrev E0:XK:=λ_ _ _=>False
def oW{X:Cx}:j9 Jk X E0:=λ_ _ _ _ _ _ _ h=>h.elim
structure IP(K:X0)(x qual:Str)(st:Stmt)(f:KM)(fd:P3):Prop where
 ex:∃(oc:On)(od:Option KM)(kV doc pm:On)(an:Option KM)(IB ct:On)(Ml:Array (Vv)),
  fd=PySem.W.fnOf x qual (dU st) (bq st) (aq st) .none kV doc pm an IB ct/\K.lookup f=some ⟨oc,od,.func fd,Ml⟩/\PySem.W.codeIn K IB qual=true
 kp:PySem.W.keepIn K (.ref f)=true
section
variable{K:X0}
def IP.ok{x:Str}{m:P3}{i:List Str}(F:IP K x a d f m)(S:Il N i (aq d))(j:∀b H Q E,g b H Q E->b.length=i.length)(p:∀(e:On)(A:SC)(outer:List Env)(s:IR)(H:Hp)(b:List V)(Q:VK)(E:XK),Im k (A.deeper (envOfC a (aq d) s.heap.objs.size f e))->g b H Q E →
   ∃t,Kp (jC Jk P w K mg base N a (aq d) f e A outer s H E).LP (bq d) t/\t { nx:=λ_ r=>Q .non r,rt:=Q } (start N b) H):FnOk P w K mg base Jk (k+1) f m i g:=by
 obtain⟨oc,u,kV,doc,pm,an,e,ct,v,rfl,lk,l⟩:=F.ex;refine Hi lk l S j λA outer s H b Q E n o=>?_;obtain⟨t,h,q⟩:=p e A outer s H b Q E n o;exact⟨t,h.LP,q⟩
def IP.binds{e:List Str}(F:IP K x a b f i)(h:∀(kV doc pm:On)(an:Option KM)(g ct:On)(d:W7),d.length=e.length->bindArgs (PySem.W.fnOf x a (dU b) (bq b) (aq b) .none kV doc pm an g ct) ⟨d,[]⟩=pure (e.zip d)):Binds K i e []:=by
 obtain⟨oc,l,kV,doc,pm,an,g,ct,m,rfl,lk,j⟩:=F.ex;exact .all (h kV doc pm an g ct)
def An{st:Stmt}(l:K.lookup f=Y ⟨m,j,.func (PySem.W.fnOf x a (dU st) (bq st) (aq st) .none g b e i d h),n⟩)(c:PySem.W.codeIn K d a=L)(k:PySem.W.keepIn K (.ref f)=L):IP K x a st f (PySem.W.fnOf x a (dU st) (bq st) (aq st) .none g b e i d h):=⟨⟨m,j,g,b,e,i,d,h,n,rfl,l,c⟩,k⟩
end
def kM(a:Im k A):A.units+1<cLine:=Yj (Xe (by decide:1<=64) _) a.units
section
def pv{X:Cx}(i:Nat)(f:{`q1,X.N[i]?=Y x})(d:{`q4,Kf X.env.scope x})(e:{`q0,K3 x})(b:{`q0,K4 x}):PE X (.Name x a) (GA i):=d8 f d e b
end
def xD{A B:Prop}(h:B):if false=L then A else B:=by
 rw[Zl Zd];exact h
def wW{A B:Prop}(h:A):if L=L then A else B:=by
 rw[Zo M];exact h
noncomputable def aM(H a:Hp):Prop:=∀b o,H b=Y o->a b=Y o
def aM.refl(H:Hp):aM H H:=λ_ _ h=>h
def aM.trans(a:aM H e)(b:aM e d):aM H d:=λc o h=>b c o (a c o h)
def aM.free(e:aM H a)(h:a l=O):H l=O:=by
 cases q:H l with
 |none=>rfl
 |some o =>
  rw[e l o q]at h;cases h
end L2
end
section
namespace L2
open PySem PySem.Spec PyProof.Rows
abbrev oB:=List (List Key)
def hN(w:XAB)(k:oB):Int:=reduceHash (Builtin.Tuple.tupleHashOf (k.map λx=>reduceHash (Builtin.Tuple.tupleHashOf (x.map (GE w)))))
def HQ(w:XAB)(x:oB×KM×On):DictEntry:=⟨hN w x.1,.ref x.2.1,x.2.2⟩
abbrev KN:List (oB×KM×V)->List (oB×KM×On)->Prop:=Paired λp q=>p.1=q.1/\p.2.1=q.2.1/\RelV p.2.2 q.2.2
def DN(a:KM)(d:List (oB×KM×V)):HO:=.ext λw h=>d.length<=KF/\(a==sysModules)=B/\∃b:List (oB×KM×On),KN d b ∧
 ∃o e f,h.get? a=Y o/\o.ExactDict/\o.data=.dict e f/\e.toList=b.map (HQ w)/\(b.map (·.1)).Nodup
def SA(H:Hp)(k:oB)(b:KM):Prop:=∃a:Wp,H b=Y (.tup (a.map V.ref))/\Paired (λ(x:List Key) (c:KM)=>H c=Y (.tup (x.map kV))) k a
def SA.mono{k:oB}(x:SA H k b)(t:∀a d,H a=Y (.tup d)->e a=Y (.tup d)):SA e k b:=by
 obtain⟨f,h,r⟩:=x;exact⟨f,t _ _ h,Paired.NF r λ_ _ z=>t _ _ z⟩
end L2
end
section
namespace VS
open PySem PySem.Spec PyProof.Rows L2
noncomputable def sx(s:Tx):Str:=⟨s.toArray⟩
def oE(s:Tx):Prop:=s.length<=dZ/\∀c∈s,c<1114112
noncomputable abbrev Me:=Nat->Option V
structure Gx where
 K:X0
 ct:Nat->KM×(Nat->Str)
 me:Me:=λ_=>none
def Gx.at(G:Gx)(m:Me):Gx:=⟨G.K,G.ct,m⟩
noncomputable def aS:Key->T
 |.inl i=>.int i
 |.inr x=>.str x.cps.toList
def nkT(k:oB):T:=.tup (k.map λx=>T.tup (x.map aS))
def l7(K:X0)(H:Hp)(a:KM)(d:Vg):Prop :=
 (∃o,H a=Y (.frz o (.lst (d.map V.int)))) ∨
  ∃(o:Obj)(b:Array On)(n:Nat),K.lookup a=Y o/\o.cls=.type "list" ∧ o.dict=O/\o.data=.seq b n/\b.size<=KF/\aQ (d.map V.int) b.toList
mutual
inductive Rp(G:Gx)(H:Hp):V->T->Wp->Prop
 |non:Rp G H .non .non []
 |bl (b:Bool):Rp G H (.bl b) (.bl b) []
 |int (i:Int):Rp G H (.int i) (.int i) []
 |str (s:Tx):oE s->Rp G H (.str (sx s)) (.str s) []
 |scr {a:KM} {ns:Vg}:l7 G.K H a ns->Rp G H (.ref a) (.scr ns) []
 |tup {a:KM} {vs:List V} {ts:Ut} {Fs:Xz}:H a=some (.tup vs)->RpL G H vs ts Fs->Rp G H (.ref a) (.tup ts) Fs.flatten
 |lst {a:KM} {vs:List V} {ts:Ut} {Fs:Xz}:H a=some (.lst vs)->RpL G H vs ts Fs->Rp G H (.ref a) (.lst ts) (a :: Fs.flatten)
 |dct {a:KM} {ks:List Key} {vs:List V} {ts:Ut} {Fs:Xz}:H a=some (.dK (ks.zip vs))->ks.length=vs.length->RpL G H vs ts Fs->Rp G H (.ref a) (.dct 0 ((ks.map aS).zip ts)) (a :: Fs.flatten)
 |dctT {a:KM} {ks:List (List Key)} {vs:List V} {ts:Ut} {Fs:Xz}:H a=some (.dT (ks.zip vs))->ks.length=vs.length->RpL G H vs ts Fs->Rp G H (.ref a) (.dct 1 ((ks.map λk=>T.tup (k.map aS)).zip ts)) (a :: Fs.flatten)
 |dctN {a:KM} {ks:List (oB×KM)} {vs:List V} {ts:Ut} {Fs:Xz}:H a=some (DN a ((ks.zip vs).map λp=>(p.1.1,p.1.2,p.2)))->ks.length=vs.length->(∀p∈ks,SA H p.1 p.2)->RpL G H vs ts Fs->Rp G H (.ref a) (.dct 2 ((ks.map λp=>nkT p.1).zip ts)) (a :: Fs.flatten)
 |dctZ {a:KM} {o:Obj} {ks:List Key} {vs:List V} {ts:Ut} {Fs:Xz}:H a=some (.frz o (.dK (ks.zip vs)))->ks.length=vs.length->RpL G H vs ts Fs->Rp G H (.ref a) (.dct 3 ((ks.map aS).zip ts)) Fs.flatten
 |exc {c:Nat} {a:KM} {o:Obj}:H a=some (.frz o (.own a))->(o.cls=.ref (G.ct c).1/\o.dict=none/\∃vs,o.data=.fields vs)->Rp G H (.ref a) (.obj c []) []
 |ins {c:Nat} {a dx:KM} {b:Bool} {ks:Vu} {vs:List V} {ts:Ut} {Fs:Xz}:H a=some (.ins (G.ct (c+1)).1 dx ((ks.map (G.ct (c+1)).2).zip vs))->ks.length=vs.length->(b=true->G.me 0=some (.ref a))->RpL G H vs ts Fs->Rp G H (.ref a) (.obj (c+1) ((0,.bl b) :: ks.zip ts)) (a :: Fs.flatten)
 |mk {m:Nat} {a:KM} {t:T} {F:Wp}:G.me m=some (.ref a)->Rp G H (.ref a) t F->Rp G H (.ref a) (.obj 0 [(0,.bl true),(m,t)]) F
inductive RpL(G:Gx)(H:Hp):List V->Ut->Xz->Prop
 |nil:RpL G H [] [] []
 |cons {v:V} {t:T} {F:Wp} {vs:List V} {ts:Ut} {Fs:Xz}:Rp G H v t F->RpL G H vs ts Fs->RpL G H (v :: vs) (t :: ts) (F :: Fs)
end
structure Kept(H H':Hp):Prop where
 tup:∀a xs,H a=some (.tup xs)->H' a=some (.tup xs)
 frz:∀a o u,H a=some (.frz o u)->H' a=some (.frz o u)
def Kept.refl(H:Hp):Kept H H:=⟨λ_ _ h=>h,λ_ _ _ h=>h⟩
def Kept.trans(a:Kept H e)(b:Kept e d):Kept H d:=⟨λc x h=>b.tup c x (a.tup c x h),λc o u h=>b.frz c o u (a.frz c o u h)⟩
def Kept.of(e:aM H b):Kept H b:=⟨λa _ h=>e a _ h,λa _ _ h=>e a _ h⟩
theorem Kept.upd{H:Hp}(d:Iy (H a)\/H a=O):Kept H (upd H a o):=by
 have ne:∀b u,H b=Y u->¬Iy (Y u)->b≠a:=λb u h nm e=>by
  subst e;rcases d with m | m
  ·rw[h]at m;exact nm m
  ·rw[h]at m;cases m
 exact⟨λb f h=>by rw[aE (ne b _ h λz=>z)];exact h,λb o u h=>by rw[aE (ne b _ h λz=>z)];exact h⟩
def l7.kept{K:X0}(h:l7 K H a b)(k:Kept H d):l7 K d a b:=by
 rcases h with⟨o,e⟩ | h
 ·exact .inl ⟨o,k.frz _ _ _ e⟩
 ·exact .inr h
def l7.seq{K:X0}(h:l7 K H a b):IF K H a (b.map V.int):=by
 rcases h with⟨o,e⟩ | h
 ·exact .inl (.inr ⟨o,e⟩)
 ·exact .inr h
def tj{H d:Hp}{a:KM}{F:Wp}(f:∀b∈a :: F,∀o,H b=Y o->d b=Y o):∀b∈F,∀o,H b=Y o->d b=Y o:=λb m=>f b (Zv _ m)
def uY{H a:Hp}{F:Wp}{d:Xz}(f:∀b∈(F :: d).flatten,∀o,H b=Y o->a b=Y o):(∀b∈F,∀o,H b=Y o->a b=Y o)/\∀b∈d.flatten,∀o,H b=Y o->a b=Y o:=by
 rw[ZI]at f;exact⟨λb m=>f b (LH _ m),λb m=>f b (ZX _ m)⟩
def Rp.keep(k:Kept H e)(r:Rp G H v t F):(∀a∈F,∀o,H a=Y o->e a=Y o)->Rp G e v t F :=
 Rp.rec (motive_1:=λv t F _=>(∀a∈F,∀o,H a=Y o->e a=Y o)->Rp G e v t F) (motive_2:=λj q g _=>(∀a∈g.flatten,∀o,H a=Y o->e a=Y o)->RpL G e j q g)
  (λ_=>.non) (λb _=>.bl b) (λi _=>.int i) (λs h _=>.str s h) (λh _=>.scr (h.kept k)) (λh _ d f=>.tup (k.tup _ _ h) (d f)) (λh _ d f=>.lst (f _ Zx _ h) (d (tj f))) (λh l _ d f=>.dct (f _ Zx _ h) l (d (tj f))) (λh l _ d f=>.dctT (f _ Zx _ h) l (d (tj f)))
  (λh l n _ d f=>.dctN (f _ Zx _ h) l (λp m=>(n p m).mono k.tup) (d (tj f))) (λh l _ d f=>.dctZ (k.frz _ _ _ h) l (d f)) (λh x _=>.exc (k.frz _ _ _ h) x) (λh l m _ d f=>.ins (f _ Zx _ h) l m (d (tj f))) (λh _ d f=>.mk h (d f)) (λ_=>.nil) (λ_ _ w u f=>.cons (w (uY f).1) (u (uY f).2)) r
theorem RpL.keep(k:Kept H g):∀{e:List V}{b:Ut}{d:Xz},RpL G H e b d->(∀a∈d.flatten,∀o,H a=Y o->g a=Y o)->RpL G g e b d:=by
 intro e b
 induction b generalizing e with
 |nil=>intro d r f;cases r;exact .nil
 |cons t b h =>
  intro d r f;cases r with
  |cons r q=>exact .cons (r.keep k (uY f).1) (h q (uY f).2)
def Rp.same(e:aM H b)(r:Rp G H v t F):Rp G b v t F:=r.keep (Kept.of e) λa _ o h=>e a o h
def RpL.same(e:aM H b)(r:RpL G H v t F):RpL G b v t F:=r.keep (Kept.of e) λa _ o h=>e a o h
def AE{H:Hp}{a:KM}{F:Wp}(h:Iy (H a))(d:∀b∈F,Iy (H b)):∀b∈a :: F,Iy (H b):=λb m=>(Zj.mp m).elim (λe=>e ▸ h) (d b)
def zt{H:Hp}{a:KM}{o:HO}(h:H a=Y o)(m:Iy (Y o)):Iy (H a):=by rw[h];exact m
def GN{H:Hp}{F:Wp}{a:Xz}(e:∀b∈F,Iy (H b))(d:∀b∈a.flatten,Iy (H b)):∀b∈(F :: a).flatten,Iy (H b):=λb m=>by
 rw[ZI]at m;exact(Zi.mp m).elim (e b) (d b)
def Rp.IH(r:Rp G H v t F):∀a∈F,Iy (H a) :=
 Rp.rec (motive_1:=λv t F _=>∀a∈F,Iy (H a)) (motive_2:=λg i f _=>∀a∈f.flatten,Iy (H a))
  (λ_ m=>nomatch m) (λ_ _ m=>nomatch m) (λ_ _ m=>nomatch m) (λ_ _ _ m=>nomatch m) (λ_ _ m=>nomatch m) (λ_ _ b=>b) (λh _ b=>AE (zt h True.intro) b) (λh _ _ b=>AE (zt h True.intro) b) (λh _ _ b=>AE (zt h True.intro) b)
  (λh _ _ _ b=>AE (zt h True.intro) b) (λ_ _ _ b=>b) (λ_ _ _ m=>nomatch m) (λh _ _ _ b=>AE (zt h True.intro) b) (λ_ _ b=>b) (λ_ m=>nomatch m) (λ_ _ e d=>GN e d) r
theorem RpL.IH:∀{e:List V}{b:Ut}{d:Xz},RpL G H e b d->∀a∈d.flatten,Iy (H a):=by
 intro e b
 induction b generalizing e with
 |nil=>intro d r;cases r;exact λ_ m=>nomatch m
 |cons t b f =>
  intro d r;cases r with
  |cons r q=>exact GN r.IH (f q)
def Iy.oe(m:Iy o):o≠O:=λe=>by subst e;exact m
def Hb{b:Xz}(e:VS.Ir t=L->F=[])(d:VS.dJ a=L->b.flatten=[])(i:VS.dJ (t :: a)=L):(F :: b).flatten=[]:=by
 have i:=ZU.mp i;rw[ZI,e i.1,d i.2];rfl
theorem Rp.Ir(r:Rp G H v t F):VS.Ir t=L->F=[] :=
 Rp.rec (motive_1:=λv t F _=>VS.Ir t=L->F=[]) (motive_2:=λg a f _=>VS.dJ a=L->f.flatten=[])
  (λ_=>rfl) (λ_ _=>rfl) (λ_ _=>rfl) (λ_ _ _=>rfl) (λ_ _=>rfl) (λ_ _ b i=>b i) (λ_ _ _ i=>absurd (show B=L from i) Zd) (λ_ _ _ _ i=>absurd (show B=L from i) Zd) (λ_ _ _ _ i=>absurd (show B=L from i) Zd)
  (λ_ _ _ _ _ i=>absurd (show B=L from i) Zd) (λ_ _ _ _ i=>absurd (show B=L from i) Zd) (λ_ _ _=>rfl) (λ_ _ _ _ _ i=>absurd (show B=L from i) Zd) (λ_ _ _ i=>absurd (show B=L from i) Zd) (λ_=>rfl) (λ_ _ e d i=>Hb e d i) r
theorem RpL.Ir:∀{d:List V}{a:Ut}{b:Xz},RpL G H d a b->VS.dJ a=L->b.flatten=[]:=by
 intro d a
 induction a generalizing d with
 |nil=>intro b r i;cases r;exact rfl
 |cons t a e =>
  intro b r i;cases r with
  |cons r q=>exact Hb r.Ir (e q) i
def RpL.len:∀{b:List V}{a:Ut}{d:Xz},RpL G H b a d->b.length=a.length/\d.length=a.length:=by
 intro b a
 induction a generalizing b with
 |nil=>intro d r;cases r;exact⟨rfl,rfl⟩
 |cons t a e =>
  intro d r;cases r with
  |cons r q=>exact⟨congrArg (·+1) (e q).1,congrArg (·+1) (e q).2⟩
theorem RpL.get{G:Gx}:∀{a:List V}{b:Ut}{d:Xz}(i:Nat){t:T},RpL G H a b d->b[i]?=Y t->∃v F,a[i]?=Y v/\d[i]?=Y F/\Rp G H v t F
 |_,_,_,_,_,.nil,e=>by simp at e
 |_,_,_,0,_,.cons r _,e=>by
  simp at e;subst e;exact⟨_,_,rfl,rfl,r⟩
 |_,_,_,i+1,_,.cons _ q,e=>by
  obtain⟨v,F,h,g,f⟩:=RpL.get i q (by simpa using e);exact⟨v,F,by simpa using h,by simpa using g,f⟩
def RpL.append:∀{b:List V}{a:Ut}{f:Xz}{d:List V}{e:Ut}{Gs:Xz},RpL G H b a f->RpL G H d e Gs->RpL G H (b++d) (a++e) (f++Gs):=by
 intro b a
 induction a generalizing b with
 |nil=>intro f d e Gs r s;cases r;exact s
 |cons t a g =>
  intro f d e Gs r s;cases r with
  |cons r q=>exact .cons r (g q s)
theorem RpL.take:∀{a:List V}{b:Ut}{d:Xz}(n:Nat),RpL G H a b d->RpL G H (a.take n) (b.take n) (d.take n)
 |_,_,_,0,_=>by simpa using RpL.nil
 |_,_,_,n+1,.nil=>.nil
 |_,_,_,n+1,.cons r q=>.cons r (RpL.take n q)
theorem RpL.drop:∀{a:List V}{b:Ut}{d:Xz}(n:Nat),RpL G H a b d->RpL G H (a.drop n) (b.drop n) (d.drop n)
 |_,_,_,0,q=>q
 |_,_,_,n+1,.nil=>.nil
 |_,_,_,n+1,.cons r q=>RpL.drop n q
noncomputable def iF:Cell->T
 |.pu t=>t
 |.ow t=>t
noncomputable abbrev Iw:=Nat->Wp
structure SR(G:Gx)(Z:Iw)(U:VS.Env)(J:L2.St)(H:Hp):Prop where
 len:U.length=J.length
 rp:∀i c,U[i]?=some (some c)->∃v,J[i]?=some (some v)/\Rp G H v (iF c) (Z i)
 nd:∀i t,U[i]?=some (some (.ow t))->(Z i).Nodup
 sep:∀i j t c,U[i]?=some (some (.ow t))->U[j]?=some (some c)->i≠j->∀a∈Z i,a∉Z j
noncomputable def cL(Z:Iw)(U:VS.Env)(a:KM):Prop:=∃j t,U[j]?=Y (Y (.pu t))/\a∈Z j
noncomputable def bB(Z:Iw)(U:VS.Env)(a:KM):Prop:=∃j t,U[j]?=Y (Y (.ow t))/\a∈Z j
def Fp(Z:Iw)(U:VS.Env)(H:Hp):Md->Wp->Prop
 |.fr,F=>F.Nodup/\∀a∈F,H a=O
 |.pu,F=>∀a∈F,H a=O\/cL Z U a
 |.bo,F=>∀a∈F,H a=O\/cL Z U a\/bB Z U a
theorem SR.same(s:SR G Z U J H)(e:aM H a):SR G Z U J a :=
 ⟨s.len,λi c h=>let ⟨v,d,b⟩:=s.rp i c h;⟨v,d,b.same e⟩,s.nd,s.sep⟩
def SR.KC(s:SR G Z U J H)(h:cL Z U a):Iy (H a):=by
 obtain⟨j,t,d,b⟩:=h;obtain⟨v,_,r⟩:=s.rp j _ d;exact r.IH a b
def SR.Jd(s:SR G Z U J H)(h:bB Z U a):Iy (H a):=by
 obtain⟨j,t,d,b⟩:=h;obtain⟨v,_,r⟩:=s.rp j _ d;exact r.IH a b
def Fp.nil{m:Md}:Fp Z U H m []:=by
 cases m
 ·exact⟨Yt,λa h=>by simp at h⟩
 ·exact λa h=>by simp at h
 ·exact λa h=>by simp at h
theorem Fp.bo{U:VS.Env}{H:Hp}:∀{m:Md},Fp Z U H m F->Fp Z U H .bo F
 |.fr,h=>λa m=>.inl (h.2 a m)
 |.pu,h=>λa m=>(h a m).elim .inl λz=>.inr (.inl z)
 |.bo,h=>h
theorem Fp.pu{U:VS.Env}{H:Hp}{F:Wp}:∀{m:Md},m ≠ .bo->Fp Z U H m F->Fp Z U H .pu F
 |.fr,_,h=>λa m=>.inl (h.2 a m)
 |.pu,_,h=>h
 |.bo,n,_=>absurd M n
theorem Fp.back(e:aM H b):∀{m:Md},Fp Z U b m F->Fp Z U H m F
 |.fr,h=>⟨h.1,λa m=>e.free (h.2 a m)⟩
 |.pu,h=>λa m=>(h a m).imp e.free id
 |.bo,h=>λa m=>(h a m).imp e.free id
theorem Fp.up{U:VS.Env}{m:Md}{v:V}(f:Fp Z U H m F)(r:Rp G a v t F):Fp Z U H (VS.up m t).1 F:=by
 unfold VS.up;by_cases h:VS.Ir t=L
 ·rw[r.Ir h];exact Fp.nil
 ·simp only[h,if_false,YS];exact f
def tE(G:Gx)(c:Ex):TE:=λJ H Q=>∃Z U m r,SR G Z U J H/\c U=Y (m,r)/\∀v a F,aM H a->Rp G a v r F->Fp Z U H m F->Q v a
def PV(G:Gx)(X:Cx)(e:Expr)(c:Ex):Prop:=PE X e (tE G c)
def PE.weak{X:Cx}{t:TE}(h:PE X e t)(w:∀J H Q,b J H Q->t J H Q):PE X e b:=λa s J H Q I q=>h a s J H Q I (w J H Q q)
def PT.weak{X:Cx}{t:TT}(h:PT X e t)(w:∀J H Q,b J H Q->t J H Q):PT X e b:=λa s J H Q I q=>h a s J H Q I (w J H Q q)
def PA.weak{X:Cx}{t:TA}(h:PA X e t)(w:∀J H Q,b J H Q->t J H Q):PA X e b:=λpos a s J H Q I q=>h pos a s J H Q I (w J H Q q)
def tT(G:Gx)(c:Ex):TT:=λJ H Q=>∃Z U m r b,SR G Z U J H/\c U=Y (m,r)/\MD r=Y b/\∀a,aM H a->Q b a
def Kg(G:Gx)(X:Cx)(e:Expr)(c:Ex):Prop:=PT X e (tT G c)
noncomputable def JB(l:Uv)(a:Xz):Wp:=match l,a with
 |v :: l,F :: a=>match v.1 with
  |.fr=>F++JB l a
  |_=>JB l a
 |_,_=>[]
structure NU(Z:Iw)(U:VS.Env)(H:Hp)(l:Uv)(Fs:Xz):Prop where
 each:∀(i:Nat) v F,l[i]?=some v->Fs[i]?=some F->Fp Z U H v.1 F
 nd:(JB l Fs).Nodup
def PL(G:Gx)(c:IZ):TA:=λJ H Q=>∃Z U l,SR G Z U J H/\c U=Y l/\∀b a d,aM H a->RpL G a b (trees l) d->NU Z U H l d->Q b a
def Jz(G:Gx)(X:Cx)(a:List Expr)(c:IZ):Prop:=PA X a (PL G c)
section
def aj{i j pos}:PV G X (.Constant (.int i) j pos) (Q3 i):=PE.weak pO λJ H Q d=>by
 obtain⟨Z,U,m,r,s,e,k⟩:=d;cases (show Y (Md.fr,T.int i)=Y (m,r) from e);exact k _ _ _ (aM.refl _) (.int i) Fp.nil
def rS{i j pos}:PV G X (.Constant (.bool i) j pos) (eC (.bl i)):=PE.weak G9 λJ H Q d=>by
 obtain⟨Z,U,m,r,s,e,k⟩:=d;cases (show Y (Md.fr,T.bl i)=Y (m,r) from e);exact k _ _ _ (aM.refl _) (.bl i) Fp.nil
def zT{j pos}:PV G X (.Constant .none j pos) (eC .non):=PE.weak DL λJ H Q d=>by
 obtain⟨Z,U,m,r,s,e,k⟩:=d;cases (show Y (Md.fr,T.non)=Y (m,r) from e);exact k _ _ _ (aM.refl _) .non Fp.nil
def jc{j pos}(h:x=sx t:=by decide +kernel)(f:{`q0,oE t}):PV G X (.Constant (.str x) j pos) (eC (.str t)):=PE.weak D2 λJ H Q d=>by
 obtain⟨Z,U,m,r,s,e,k⟩:=d;cases (show Y (Md.fr,T.str t)=Y (m,r) from e);subst h;exact k _ _ _ (aM.refl _) (.str t f) Fp.nil
def aU{X:Cx}(i:Nat)(w:{`q1,X.N[i]?=Y x})(p:{`q4,Kf X.env.scope x})(u:{`q0,K3 x})(j:{`q0,K4 x}):PV G X (.Name x g) (aa i):=PE.weak (d8 w p u j) λJ H Q q=>by
 obtain⟨Z,U,m,r,s,e,k⟩:=q;unfold aa at e;split at e
 ·rename_i t h;obtain⟨v,n,d⟩:=s.rp _ _ h;have o:VS.up .pu t=(m,r):=Zh e;have y:t=r:=congrArg Prod.snd o;have em:(VS.up .pu t).1=m:=congrArg Prod.fst o;rw[← y,← em]at k;refine⟨v,n,k v H (Z i) (aM.refl _) d ?_⟩;have f:Fp Z U H .pu (Z i):=λa l=>.inr ⟨i,_,h,l⟩;exact f.up d
 ·rename_i t h;obtain⟨v,n,d⟩:=s.rp _ _ h;cases e;exact⟨v,n,k v H (Z i) (aM.refl _) d λa l=>.inr (.inr ⟨i,_,h,l⟩)⟩
 ·cases e
structure RF(G:Gx)(Z:Iw)(U:VS.Env)(H0 H:Hp)(x y:Val)(u w:V)(F1 F2:Wp):Prop where
 same:aM H0 H
 r1:Rp G H u x.2 F1
 r2:Rp G H w y.2 F2
 f1:Fp Z U H0 x.1 F1
 f2:Fp Z U H0 y.1 F2
 nd:x.1=.fr->y.1=.fr->(F1++F2).Nodup
def d6(G:Gx)(r:R2)(f:Val->Val->Uu):Prop:=∀(Z:Iw)(U:VS.Env)(e H:Hp)(x y:Val)(u w:V)(h g:Wp)(m:Md)(t:T)(Q:VK),RF G Z U e H x y u w h g->f x y=Y (m,t) →
 (∀v d F,aM H d->Rp G d v t F->Fp Z U e m F->Q v d)->r u w H Q
def Av{G:Gx}{ca cb:Ex}{J:L2.St}{H:Hp}{Q:V->V->Hp->Prop}{Z:Iw}{U:VS.Env}{x y:Val}(s:SR G Z U J H)(m:ca U=Y x)(l:cb U=Y y)(k:∀u w d f e,RF G Z U H d x y u w f e->Q u w d):tE G ca J H λu g=>tE G cb J g λw d=>Q u w d:=by
 refine⟨Z,U,x.1,x.2,s,m,λu g f e1 r1 f1=>⟨Z,U,y.1,y.2,s.same e1,l,λw d e e2 r2 f2=>k u w d f e ⟨e1.trans e2,r1.same e2,r2,f1,f2.back e1,λi h=>?_⟩⟩⟩;rw[i]at f1;rw[h]at f2;refine ZG.mpr ⟨f1.1,f2.1,λa j b hb z=>?_⟩;subst z;exact Iy.oe (r1.IH a j) (f2.2 a hb)
def ly(g:d6 G r f)(h:tE G (e2 f ca cb) J H Q):Pc r (tE G ca) (tE G cb) J H Q:=by
 obtain⟨Z,U,m,t,s,e,k⟩:=h;unfold e2 at e;obtain⟨x,j,e⟩:=Zz.mp e;obtain⟨y,i,e⟩:=Zz.mp e;exact Av s j i λu w l p o d=>g Z U H l x y u w p o m t Q d e λv n F e1 r1 f1=>k v n F (d.same.trans e1) r1 f1
def iP(g:OpR X (binaryOp d) r)(e:d6 G r f)(j:PV G X a ca)(i:PV G X b cb):PV G X (.BinOp a d b pos) (e2 f ca cb) :=
 PE.weak (DA g j i) λJ H Q h=>ly e h
def D6(g:OpR X (UV d) r)(e:d6 G r f)(l:PV G X a ca)(j:PV G X b cb)(i:behindInMarks d b=B):PV G X (.Compare a [d] [b] pos) (e2 f ca cb) :=
 PE.weak (u4 g l j i) λJ H Q h=>ly e h
noncomputable def Tells(f:Val->Val->Uu):Prop:=∀x y m t,f x y=Y (m,t)->∃b,t=.bl b
def Rp.JL{b:Bool}(r:Rp G H v (.bl b) F):v=.bl b:=by cases r;rfl
def Rp.int_inv{b:Int}(r:Rp G H v (.int b) F):v=.int b:=by cases r;rfl
def Rp.str_inv{b:Tx}(r:Rp G H v (.str b) F):v=.str (sx b)/\oE b:=by cases r with | str _ h=>exact⟨rfl,h⟩
def rN{c:Ex}(h:tT G c J H Q)(f:∀U m r,c U=Y (m,r)->∃b,r=.bl b)(w:∀Q,tE G c J H Q->t J H Q):zP t J H Q:=by
 obtain⟨Z,U,m,r,b,s,e,d,k⟩:=h;refine w _ ⟨Z,U,m,r,s,e,λv j F e1 r1 f1=>?_⟩;obtain⟨i,g⟩:=f U m r e;rw[g]at d r1;cases (show Y i=Y b from d);exact⟨_,r1.JL,k j e1⟩
def dA{r:R2}(j:OpR X (UV d) r)(g:d6 G r f)(i:Tells f)(o:PV G X a ca)(n:PV G X b cb)(l:behindInMarks d b=B):Kg G X (.Compare a [d] [b] pos) (e2 f ca cb) :=
 PT.weak (vo j o n l) λJ H Q h=>rN h (λU m r e=>by
  unfold e2 at e;obtain⟨x,_,e⟩:=Zz.mp e;obtain⟨y,_,e⟩:=Zz.mp e;exact i x y m r e) λQ h=>ly g h
def bp{G:Gx}{Z:Iw}{U:VS.Env}{e H:Hp}{m:Md}{t:T}{v:V}{Q:VK}(k:∀v d F,aM H d->Rp G d v t F->Fp Z U e m F->Q v d)(r:Rp G H v t []):Q v H:=k v H [] (aM.refl _) r Fp.nil
def bh{H:Hp}(h:H p=O):aM H (upd H p o):=λb d e=>by rw[aE (cF e h)];exact e
theorem Fp.new(d:g p=O)(h:p∉F):∀{m:Md},Fp Z U g m F->Fp Z U g m (p :: F)
 |.fr,f=>⟨ZY.mpr ⟨h,f.1⟩,λa m=>(Zj.mp m).elim (λe=>by rw[e];exact d) (f.2 a)⟩
 |.pu,f=>λa m=>(Zj.mp m).elim (λe=>by rw[e];exact .inl d) (f a)
 |.bo,f=>λa m=>(Zj.mp m).elim (λe=>by rw[e];exact .inl d) (f a)
def pK(e:K9 d l=Y (m,t)):t=.lst l/\l.length<=dZ/\m=(if dJ l then .fr else d):=by
 unfold K9 at e;split at e
 ·rename_i h;cases e;exact⟨rfl,h,rfl⟩
 ·cases e
def jo{G:Gx}{Z:Iw}{U:VS.Env}{i H:Hp}{q m:Md}{l:Ut}{t:T}{o:List V}{n:Xz}{Q:VK}(d:aM i H)(e:K9 q l=Y (m,t))(r:RpL G H o l n)(f:Fp Z U i q n.flatten)(k:∀v j F,aM H j->Rp G j v t F->Fp Z U i m F->Q v j):∀p,H p=O->Q (.ref p) (upd H p (.lst o)):=by
 intro p g;obtain⟨rfl,s,rfl⟩:=pK e;refine k _ _ _ (bh g) (.lst aw (r.same (bh g))) ?_;have np:p∉n.flatten:=λm=>Iy.oe (r.IH p m) g;by_cases h:dJ l=L
 ·rw[h,Zo M];rw[r.Ir h]at np ⊢;exact Fp.nil.new (d.free g) np
 ·rw[Zl h];exact f.new (d.free g) np
theorem RF.join(i:RF G Z U h H x y u w f e){F:Wp}(g:F.Sublist (f++e)):Fp Z U h (x.1.join y.1) F:=by
 obtain⟨same,r1,r2,f1,f2,nd⟩:=i;have split:∀a∈F,a∈f\/a∈e:=λa d=>Zi.mp (g.subset d);obtain⟨l,x⟩:=x;obtain⟨j,y⟩:=y;have both:∀{P:KM->Prop},(∀a∈f,P a)->(∀a∈e,P a)->∀a∈F,P a:=λn m a d=>(split a d).elim (n a) (m a);cases l<;>cases j
 ·exact⟨(nd M M).sublist g,both f1.2 f2.2⟩
 ·exact both (λa d=>.inl (f1.2 a d)) f2
 ·exact both (λa d=>.inl (f1.2 a d)) f2
 ·exact both f1 (λa d=>.inl (f2.2 a d))
 ·exact both f1 f2
 ·exact both (f1.bo) f2
 ·exact both f1 (λa d=>.inl (f2.2 a d))
 ·exact both f1 (f2.bo)
 ·exact both f1 f2
def fD:dZ=sizeLine:=rfl
def c6(s:Tx):(sx s).length=s.length:=rfl
def FX(s t:Tx):sx s++sx t=sx (s++t):=by
 show Str.append (sx s) (sx t)=_;simp[sx,Str.append]
def Rp.lst_inv(r:Rp G H v (.lst l) F):∃a d e,v=.ref a/\F=a :: e.flatten/\H a=Y (.lst d)/\RpL G H d l e:=by
 cases r with
 |lst h q=>exact⟨_,_,_,rfl,rfl,h,q⟩
def Rp.Jn(r:Rp G H v (.tup l) F):∃a d e,v=.ref a/\F=e.flatten/\H a=Y (.tup d)/\RpL G H d l e:=by
 cases r with
 |tup h q=>exact⟨_,_,_,rfl,rfl,h,q⟩
def Rp.NB(r:Rp G H v (.scr l) F):∃a,v=.ref a/\F=[]/\l7 G.K H a l:=by
 cases r with
 |scr h=>exact⟨_,rfl,rfl,h⟩
end
section
def G1:R2:=λx y H Q=>Mj (λi j=>.int (i+j)) x y H Q\/(∃i j,x=.str i/\y=.str j/\i.length+j.length<=KF/\Q (.str (i++j)) H)\/GP x y H Q
def ju:OpR X (binaryOp .Add) G1:=EI.or (uT.or Ec)
def lD:d6 G G1 aW:=by
 intro Z U E H x y u w A z m t Q f e k;have q:=λ{F:Wp} (h:List.Sublist F (A++z))=>f.join h;obtain⟨D,x⟩:=x;obtain⟨C,y⟩:=y;obtain⟨same,r1,r2,f1,f2,nd⟩:=f;unfold aW at e;split at e
 ·rename_i i _ j e1 e2;cases e1;cases e2;cases e;exact .inl ⟨_,_,r1.int_inv,r2.int_inv,bp k (.int _)⟩
 ·rename_i s _ p e1 e2;cases e1;cases e2;split at e
  ·rename_i d;cases e;refine .inr (.inl ⟨_,_,r1.str_inv.1,r2.str_inv.1,by rw[c6,c6,← fD];exact d,?_⟩);rw[FX];exact bp k (.str _ ⟨by rw[Zw];exact d,λc r=>(Zi.mp r).elim (r1.str_inv.2.2 c) (r2.str_inv.2.2 c)⟩)
  ·cases e
 ·rename_i s _ p e1 e2;cases e1;cases e2;obtain⟨a,n,J,rfl,rfl,v,l⟩:=r1.lst_inv;obtain⟨b,o,Gs,rfl,rfl,hb,g⟩:=r2.lst_inv;obtain⟨_,d,_⟩:=pK e;refine .inr (.inr ⟨a,b,n,o,rfl,rfl,v,hb,?_,jo same e (l.append g) (q ?_) k⟩)
  ·rw[Zw]at d;rw[l.len.1,g.len.1,← fD];exact d
  ·rw[Yo];exact(Yd _ _).append (Yd _ _)
 ·cases e
def p6:d6 G (Mj λi j=>.int (i-j)) rO:=by
 intro Z U f H x y u w h g m t Q a e k;obtain⟨d,x⟩:=x;obtain⟨b,y⟩:=y;obtain⟨same,r1,r2,f1,f2,nd⟩:=a;unfold rO at e;split at e
 ·rename_i e1 e2;cases e1;cases e2;cases e;exact⟨_,_,r1.int_inv,r2.int_inv,bp k (.int _)⟩
 ·cases e
def mL:d6 G (rI Hv λi j=>.int (i/j)) jH:=by
 intro Z U f H x y u w l g m t Q a e k;obtain⟨d,x⟩:=x;obtain⟨b,y⟩:=y;obtain⟨same,r1,r2,f1,f2,nd⟩:=a;unfold jH at e;split at e
 ·rename_i e1 e2;cases e1;cases e2;split at e
  ·rename_i h;cases e;exact⟨_,_,r1.int_inv,r2.int_inv,h,bp k (.int _)⟩
  ·cases e
 ·cases e
def Fb:d6 G (rI (λ_ j=>0<j) λi j=>.int (i%j)) oMod:=by
 intro Z U f H x y u w l g m t Q a e k;obtain⟨d,x⟩:=x;obtain⟨b,y⟩:=y;obtain⟨same,r1,r2,f1,f2,nd⟩:=a;unfold oMod at e;split at e
 ·rename_i e1 e2;cases e1;cases e2;split at e
  ·rename_i h;cases e;exact⟨_,_,r1.int_inv,r2.int_inv,h,bp k (.int _)⟩
  ·cases e
 ·cases e
theorem j5:∀(s t:Tx),KD s t=decide (s<t)
 |[],[]=>by simp[KD]
 |[],_ :: _=>by simp[KD]
 |_ :: _,[]=>by simp[KD]
 |a :: s,b :: t=>by
  unfold KD;rw[j5 s t];by_cases e:a<b
  ·simp[e,Y9]
  ·by_cases d:b<a
   ·have:¬a=b:=by exact XS d
    simp[e,d,Y9,this]
   ·have:a=b:=by lia
    subst this;simp[Y9]
def rLt:R2:=λx y H Q=>Mj (λi j=>.bl (decide (i<j))) x y H Q\/(∃i j,x=.str i/\y=.str j/\Q (.bl (decide (i.cps.toList<j.cps.toList))) H)
def og:OpR X (UV .Lt) rLt:=G5.or xM
def tW:d6 G rLt oLt:=by
 intro Z U g H x y u w i h m t Q b e k;obtain⟨f,x⟩:=x;obtain⟨d,y⟩:=y;obtain⟨same,r1,r2,f1,f2,nd⟩:=b;unfold oLt at e;split at e
 ·rename_i e1 e2;cases e1;cases e2;cases e;exact .inl ⟨_,_,r1.int_inv,r2.int_inv,bp k (.bl _)⟩
 ·rename_i s _ a e1 e2;cases e1;cases e2;cases e;refine .inr ⟨_,_,r1.str_inv.1,r2.str_inv.1,?_⟩;have:decide ((sx s).cps.toList<(sx a).cps.toList)=KD s a:=by rw[j5];exact decide_eq_decide.mpr (by simp[sx])
  rw[this];exact bp k (.bl _)
 ·cases e
def iU:Tells oLt:=by
 intro x y m t e;unfold oLt at e;split at e<;>first | (cases e;exact⟨_,rfl⟩) | cases e
def FJ:RM=2 ^ 64:=rfl
def Et:d6 G (rI Bu λi j=>.int (i*j)) fC:=by
 intro Z U f H x y u w l g m t Q a e k;obtain⟨d,x⟩:=x;obtain⟨b,y⟩:=y;obtain⟨same,r1,r2,f1,f2,nd⟩:=a;unfold fC at e;split at e
 ·rename_i e1 e2;cases e1;cases e2;split at e
  ·rename_i h;cases e;refine⟨_,_,r1.int_inv,r2.int_inv,?_,bp k (.int _)⟩;rw[FJ]at h;exact h
  ·cases e
 ·cases e
def uG{i:Int}:Jx n i=OC n i:=by
 unfold Jx OC;by_cases h:0<=i
 ·rw[Zo h,Zo h]
 ·rw[Zl h,Zl h];by_cases a:0<=i+n
  ·rw[Zo a,Zo `am]
  ·rw[Zl a,Zl `am]
def jY{α:Type}{l:List α}{i:Int}{k:Nat}{x:α}(b:Jx l.length i=Y k)(a:l[k]?=Y x):O7 l i=Y x:=by
 unfold O7;rw[← uG,b];exact a
def cn{a:Xz}{F:Wp}{i:Nat}(h:a[i]?=Y F):F.Sublist a.flatten:=by
 obtain⟨b,rfl⟩:=ZW.mp h;exact List.sublist_flatten_of_mem (Ys b)
theorem Fp.sub{F:Wp}(h:F.Sublist d):∀{m:Md},Fp Z U H m d->Fp Z U H m F
 |.fr,f=>⟨f.1.sublist h,λa b=>f.2 a (h.subset b)⟩
 |.pu,f=>λa b=>f a (h.subset b)
 |.bo,f=>λa b=>f a (h.subset b)
def ux:d6 G (SU G.K) aJ:=by
 intro Z U N H x y u w R P m t Q C e k;obtain⟨M,x⟩:=x;obtain⟨J,y⟩:=y;obtain⟨same,r1,r2,f1,f2,nd⟩:=C;unfold aJ at e;split at e
 ·rename_i p l o i e1 e2;cases e1;cases e2;obtain⟨j,d,e⟩:=Zz.mp e;obtain⟨x,b,e⟩:=Zy.mp e;obtain⟨a,n,E,rfl,rfl,q,h⟩:=r1.lst_inv;obtain⟨v,F,s,r,g⟩:=h.get j b;refine .inl ⟨a,n,i,v,rfl,r2.int_inv,IF.of q,jY (by rw[h.len.1];exact d) s,?_⟩;have f:=((f1.sub (Yd _ _)).sub (cn r)).up g;unfold VS.sub at e;rw[e]at f;have z:x=t:=congrArg Prod.snd e;rw[z]at g;exact k v H F (aM.refl _) g f
 ·rename_i p l o i e1 e2;cases e1;cases e2;obtain⟨j,d,e⟩:=Zz.mp e;obtain⟨x,b,e⟩:=Zy.mp e;obtain⟨a,n,E,rfl,rfl,q,h⟩:=r1.Jn;obtain⟨v,F,s,r,g⟩:=h.get j b;refine .inr (.inl ⟨a,n,i,v,rfl,r2.int_inv,Jt.of q,jY (by rw[h.len.1];exact d) s,?_⟩);have f:=(f1.sub (cn r)).up g;unfold VS.sub at e;rw[e]at f;have z:x=t:=congrArg Prod.snd e;rw[z]at g;exact k v H F (aM.refl _) g f
 ·rename_i p l o i e1 e2;cases e1;cases e2;obtain⟨j,d,e⟩:=Zz.mp e;obtain⟨x,b,e⟩:=Zy.mp e;cases e;obtain⟨a,rfl,rfl,sa⟩:=r1.NB;refine .inl ⟨a,l.map V.int,i,.int x,rfl,r2.int_inv,sa.seq,jY (by rw[Zt];exact d) (by rw[ZP,b];rfl),bp k (.int _)⟩
 ·rename_i p l o i e1 e2;cases e1;cases e2;obtain⟨j,d,e⟩:=Zz.mp e;obtain⟨x,b,e⟩:=Zy.mp e;cases e;obtain⟨rfl,A⟩:=r1.str_inv;refine .inr (.inr ⟨sx l,i,x,rfl,r2.int_inv,by rw[c6,← fD];exact A.1,jY (k:=j) (by simpa[sx] using d) (by simpa[sx] using b),?_⟩);exact bp k (.str [x] ⟨by show 1<=dZ;decide,λc D=>by rw[Zk.mp D];exact A.2 x (YU b)⟩)
 ·cases e
end
section
theorem u9:∀{l:Uv}{d:Xz},x∈JB l d->∃(i:Nat)(v:Val)(F:Wp),l[i]?=Y v/\v.1=.fr/\d[i]?=Y F/\x∈F
 |[],_,h=>by simp[JB]at h
 |_ :: _,[],h=>by simp[JB]at h
 |v :: l,F :: d,h=>by
  have go:x∈JB l d->∃(i:Nat)(u:Val)(f:Wp),(v :: l)[i]?=Y u/\u.1=.fr/\(F :: d)[i]?=Y f/\x∈f:=λm=>by
   obtain⟨i,u,f,q,o,n,j⟩:=u9 m;exact⟨i+1,u,f,by simpa using q,o,by simpa using n,j⟩
  unfold JB at h;split at h
  ·rename_i g;rcases Zi.mp h with h | h
   ·exact⟨0,v,F,rfl,g,rfl,h⟩
   ·exact go h
  ·exact go h
def ag:Jz G X [] ai:=PA.weak ft λJ H Q d=>by
 obtain⟨Z,U,l,s,e,k⟩:=d;cases (show Y ([]:Uv)=Y l from e);exact k [] H [] (aM.refl _) .nil ⟨λi v F h=>by simp at h,by simp[JB]⟩
def ae(C:PV G X e ca)(w:Jz G X es cs)(t:{`q1,K1 e es X}):Jz G X (e :: es) (ab ca cs):=PA.weak (df C w t) λJ H Q A=>by
 obtain⟨Z,U,l,s,e,k⟩:=A;unfold ab at e;obtain⟨x,N,e⟩:=Zz.mp e;obtain⟨j,M,e⟩:=Zz.mp e;cases e;refine⟨Z,U,x.1,x.2,s,N,λv S F e1 r1 f1=>⟨Z,U,j,s.same e1,M,λm P R e2 r2 f2=>k (v :: m) P (F :: R) (e1.trans e2) (.cons (r1.same e2) r2) ⟨λi u h g d=>?_,?_⟩⟩⟩
 ·cases i with
  |zero =>
   cases (show Y x=Y u from g);cases (show Y F=Y h from d);exact f1
  |succ i=>exact(f2.each i u h (by simpa using g) (by simpa using d)).back e1
 ·unfold JB;split
  ·rename_i r;rw[r]at f1;refine ZG.mpr ⟨f1.1,f2.nd,λy o z n q=>?_⟩;subst q;obtain⟨i,u,h,g,d,E,D⟩:=u9 n;have f:=f2.each i u h g E;rw[d]at f;exact Iy.oe (r1.IH y o) (f.2 y D)
  ·exact f2.nd
theorem kC:∀{l:Uv},cu l=.fr->∀v∈l,v.1=.fr
 |[],_,v,h=>by simp at h
 | (m,t) :: r,e,v,h=>by
  have d:m.join (cu r)=.fr:=e;have g:m=.fr:=by
   revert d;cases m<;>cases cu r<;>simp[Md.join]
  have f:cu r=.fr:=by
   revert d;cases m<;>cases cu r<;>simp[Md.join]
  rcases Zj.mp h with rfl | h
  ·exact g
  ·exact kC f v h
theorem kP:∀{l:Uv},cu l ≠ .bo->∀v∈l,v.1 ≠ .bo
 |[],_,v,h=>by simp at h
 | (m,t) :: r,e,v,h=>by
  have d:m.join (cu r) ≠ .bo:=e;have g:m ≠ .bo:=by
   revert d;cases m<;>cases cu r<;>simp[Md.join]
  have f:cu r ≠ .bo:=by
   revert d;cases m<;>cases cu r<;>simp[Md.join]
  rcases Zj.mp h with rfl | h
  ·exact g
  ·exact kP f v h
theorem wc:∀{l:Uv}{d:Xz},l.length=d.length->(∀v∈l,v.1=.fr)->JB l d=d.flatten
 |[],[],_,_=>rfl
 |[],_ :: _,h,_=>by simp at h
 |_ :: _,[],h,_=>by simp at h
 |v :: l,F :: d,h,q=>by
  unfold JB;rw[q v Zx,wc (by simpa using h) λu f=>q u (Zv _ f)];rfl
def fY{d:Xz}(h:x∈d.flatten):∃(i:Nat)(F:Wp),d[i]?=Y F/\x∈F:=by
 obtain⟨F,j,f⟩:=Uz.mp h;obtain⟨i,g⟩:=List.mem_iff_getElem?.mp j;exact⟨i,F,g,f⟩
def NU.join(f:NU Z U H l j)(n:l.length=j.length):Fp Z U H (cu l) j.flatten:=by
 have at':∀x∈j.flatten,∃v F,v∈l/\x∈F/\Fp Z U H v.1 F:=λx d=>by
  obtain⟨i,F,m,g⟩:=fY d;have:i<l.length:=by
   have:=(ZW.mp m).1;lia
  exact⟨l[i],F,Ys this,g,f.each i _ F (Zq this) m⟩
 cases e:cu l with
 |fr =>
  have al:=kC e;refine⟨by rw[← wc n al];exact f.nd,λx d=>?_⟩;obtain⟨v,F,h,g,q⟩:=at' x d;rw[al v h]at q;exact q.2 x g
 |pu =>
  have al:=kP (l:=l) (by rw[e];decide);intro x d;obtain⟨v,F,h,g,q⟩:=at' x d;exact Fp.pu (al v h) q x g
 |bo =>
  intro x d;obtain⟨v,F,h,g,q⟩:=at' x d;exact q.bo x g
structure Args(G:Gx)(Z:Iw)(U:VS.Env)(H0 H:Hp)(l:Uv)(vs:List V)(Fs:Xz):Prop where
 same:aM H0 H
 rp:RpL G H vs (trees l) Fs
 fp:NU Z U H0 l Fs
theorem Args.len(A:Args G Z U g H l f d):l.length=d.length:=by
 have:=A.rp.len.2;simp[trees]at this;exact Eq.symm this
def fK(G:Gx)(r:List V->Hp->VK->Prop)(f:Uv->Uu):Prop:=∀(Z:Iw)(U:VS.Env)(h H:Hp)(l:Uv)(g:List V)(i:Xz)(m:Md)(t:T)(Q:VK),Args G Z U h H l g i->f l=Y (m,t) →
 (∀v d F,aM H d->Rp G d v t F->Fp Z U h m F->Q v d)->r g H Q
def Da(h:fK G r f)(s:SR G Z U J H)(i:cs U=Y l)(e:f l=Y (m,t))(k:∀v d F,aM H d->Rp G d v t F->Fp Z U H m F->Q v d):PL G cs J H λg n=>r g n Q :=
 ⟨Z,U,l,s,i,λg d o e1 r1 f1=>h Z U H d l g o m t Q ⟨e1,r1,f1⟩ e λv j F e2 r2 f2=>k v j F (e1.trans e2) r2 f2⟩
def nr(q:dm X (.builtin d) r)(g:fK G r f)(o:Gl X x)(n:X.mg x=O)(h:bootBuiltins x=Y (.builtin d))(u:Jz G X (e :: es) cs)(j:{`q0,x ≠ "__name__"})(w:{`q0,K3 x})(he:{`q1,K1 e es X})(hpl:{`q1,K2 pos es X}):PV G X (.Call (.Name x p) (e :: es) [] pos) (eN f cs) :=
 PE.weak (rj q o n h u j w he hpl) λJ H Q i=>by
  obtain⟨Z,U,m,t,s,e,k⟩:=i;unfold eN at e;obtain⟨l,v,e⟩:=Zz.mp e;exact Da g s v e k
def js{G:Gx}{X:Cx}{es:List Expr}{cs:IZ}{pos p:Pos}{r:List V->Hp->VK->Prop}{f:Uv->Uu}{Ty:String}{x:Str}(o:dm X (.type Ty) r)(d:fK G r f)(n:Gl X x)(j:X.mg x=O)(g:bootBuiltins x=Y (.type Ty))(q:Jz G X (e :: es) cs)(i:{`q0,x ≠ "__name__"})(v:{`q0,K3 x})(he:{`q1,K1 e es X})(hpl:{`q1,K2 pos es X}):PV G X (.Call (.Name x p) (e :: es) [] pos) (eN f cs) :=
 PE.weak (lO o n j g q i v he hpl) λJ H Q h=>by
  obtain⟨Z,U,m,t,s,e,k⟩:=h;unfold eN at e;obtain⟨l,u,e⟩:=Zz.mp e;exact Da d s u e k
def bH(h:Jz G X es cs):PV G X (.List es pos) (bW cs):=PE.weak (yD h) λJ H Q f=>by
 obtain⟨Z,U,m,t,s,e,k⟩:=f;unfold bW at e;obtain⟨l,i,e⟩:=Zz.mp e;refine⟨Z,U,l,s,i,λd n o e1 r1 f1=>?_⟩;have A:Args G Z U H n l d o:=⟨e1,r1,f1⟩
 obtain⟨_,g,_⟩:=pK e;refine⟨by rw[r1.len.1,← fD];exact g,jo e1 e r1 (f1.join A.len) λv j F e2 r2 f2=>k v j F (e1.trans e2) r2 f2⟩
def jb{x1}(h:Jz G X es cs):PV G X (.Tuple es x1 pos) (jA cs):=PE.weak (Ej h) λJ H Q d=>by
 obtain⟨Z,U,m,t,s,e,k⟩:=d;unfold jA at e;obtain⟨l,n,e⟩:=Zz.mp e;refine⟨Z,U,l,s,n,λf g i e1 r1 f1=>?_⟩;have A:Args G Z U H g l f i:=⟨e1,r1,f1⟩
 unfold rE at e;split at e
 ·rename_i j;cases e;refine⟨by rw[r1.len.1,← fD,trees,Zt];exact j,λq d=>?_⟩;have r2:Rp G (upd g q (.tup f)) (.ref q) (.tup (trees l)) i.flatten:=.tup aw (r1.same (bh d));exact k _ _ _ (e1.trans (bh d)) r2 (Fp.up (f1.join A.len) r2)
 ·cases e
def Bc(r:Rp G H v t F)(h:MD t=Y k):Ft G.K v H k:=by
 cases r with
 |non=>cases h;rfl
 |bl b=>cases h;rfl
 |int i=>cases h;rfl
 |str s j =>
  cases h;refine⟨by rw[c6,← fD];exact j.1,?_⟩;rw[c6];cases s with
  |nil=>rfl
  |cons a r =>
   have:((List.length (a :: r):Int) != 0)=L:=by simp;lia
   rw[this];rfl
 |scr d=>cases h
 |tup d q =>
  cases h;refine .inr (.inl ⟨_,Jt.of d,?_⟩);have:=q.len.1;rename_i f g _;cases f<;>cases g<;>simp_all
 |lst d q =>
  cases h;refine .inl ⟨_,IF.of d,?_⟩;have:=q.len.1;rename_i f g _;cases f<;>cases g<;>simp_all
 |dct d j q =>
  cases h;refine .inr (.inr ⟨_,d,?_⟩);have:=q.len.1;rename_i l f g _;cases l<;>cases f<;>cases g<;>simp_all
 |dctT d j q=>cases h
 |dctN d j n q=>cases h
 |dctZ _ _ _=>cases h
 |exc _ _=>cases h
 |ins _ _ _ _=>cases h
 |mk _ _=>cases h
def qM(h:PV G X a ca)(d:{`q1,X.K=G.K})(he:{`q2,∀whole,isTrue a X.env whole=(do let v ← whole;standAt a.pos;holding [v] (truthy v))}):Kg G X a ca :=
 PT.weak (xV h he) λJ H Q ⟨Z,U,m,r,b,s,e,f,k⟩=>⟨Z,U,m,r,s,e,λv g F e1 r1 f1=>⟨b,by rw[d];exact Bc r1 f,k g e1⟩⟩
def Np(G:Gx)(X:Cx)(e:Expr)(c:Ex):Prop:=PW X e (tT G c)
def PW.weak{X:Cx}{e:Expr}{t f:TT}(h:PW X e t)(w:∀J H Q,f J H Q->t J H Q):PW X e f:=λg d s J H Q I q=>h g d s J H Q I (w J H Q q)
def Np.RX(h:Np G X e ca):Kg G X e ca:=PW.pt h
def zr(e:oy ca cb U=Y (m,r)):(∃n,ca U=Y (n,.bl L)/\cb U=Y (m,r))\/(∃n,ca U=Y (n,.bl B)/\m=.fr/\r=.bl B):=by
 unfold oy at e;obtain⟨⟨n,x⟩,d,e⟩:=Zz.mp e;split at e
 ·rename_i h;cases (show x=.bl L from h);exact .inl ⟨n,d,e⟩
 ·rename_i h;cases (show x=.bl B from h);cases e;exact .inr ⟨n,d,rfl,rfl⟩
 ·cases e
def Cg(e:Og ca cb U=Y (m,r)):(∃n,ca U=Y (n,.bl B)/\cb U=Y (m,r))\/(∃n,ca U=Y (n,.bl L)/\m=.fr/\r=.bl L):=by
 unfold Og at e;obtain⟨⟨n,x⟩,d,e⟩:=Zz.mp e;split at e
 ·rename_i h;cases (show x=.bl L from h);cases e;exact .inr ⟨n,d,rfl,rfl⟩
 ·rename_i h;cases (show x=.bl B from h);exact .inl ⟨n,d,e⟩
 ·cases e
def uZ{G:Gx}{X:Cx}{a:Expr}{ca cb:Ex}{pos:Pos}{rest:List Expr}(j:Kg G X a ca)(i:Np G X (.BoolOp .And (b :: rest) pos) cb):Np G X (.BoolOp .And (a :: b :: rest) pos) (oy ca cb) :=
 PW.weak (zI j i) λJ H Q h=>by
  obtain⟨Z,U,m,r,k,s,e,f,q⟩:=h;rcases zr e with⟨n,d,e2⟩ | ⟨n,d,rfl,rfl⟩
  ·refine⟨Z,U,n,_,L,s,d,rfl,λg e1=>?_⟩;refine wW ?_;exact⟨Z,U,m,r,k,s.same e1,e2,f,λl e2=>q l (e1.trans e2)⟩
  ·refine⟨Z,U,n,_,B,s,d,rfl,λg e1=>?_⟩;refine xD ?_;cases f;exact q g e1
def t7{G:Gx}{X:Cx}{a:Expr}{ca cb:Ex}{pos:Pos}{rest:List Expr}(j:Kg G X a ca)(i:Np G X (.BoolOp .Or (b :: rest) pos) cb):Np G X (.BoolOp .Or (a :: b :: rest) pos) (Og ca cb) :=
 PW.weak (Do j i) λJ H Q h=>by
  obtain⟨Z,U,m,r,k,s,e,f,q⟩:=h;rcases Cg e with⟨n,d,e2⟩ | ⟨n,d,rfl,rfl⟩
  ·refine⟨Z,U,n,_,B,s,d,rfl,λg e1=>?_⟩;refine xD ?_;exact⟨Z,U,m,r,k,s.same e1,e2,f,λl e2=>q l (e1.trans e2)⟩
  ·refine⟨Z,U,n,_,L,s,d,rfl,λg e1=>?_⟩;refine wW ?_;cases f;exact q g e1
def yd(e:zA ca U=Y (m,r)):∃n b,ca U=Y (n,.bl b)/\m=.fr/\r=.bl (!b):=by
 unfold zA at e;obtain⟨⟨n,x⟩,d,e⟩:=Zz.mp e;split at e
 ·rename_i b h;cases (show x=.bl b from h);cases e;exact⟨n,b,d,rfl,rfl⟩
 ·cases e
def CH(f:Kg G X a ca):Kg G X (.UnaryOp .Not a pos) (zA ca):=PT.weak (FL f) λJ H Q d=>by
 obtain⟨Z,U,m,r,k,s,e,g,q⟩:=d;obtain⟨n,b,h,rfl,rfl⟩:=yd e;cases g;exact⟨Z,U,n,_,b,s,h,rfl,λi e1=>q i e1⟩
def vD(r:Rp G H v t F):decide (v=.non)=Ph t:=by
 cases r<;>simp[Ph]
def DG{c:Ex}(h:tT G c J H Q)(f:∀U m r,c U=Y (m,r)->∃b,r=.bl b)(w:∀Q,tE G c J H Q->t J H Q):tB t J H Q:=by
 obtain⟨Z,U,m,r,b,s,e,d,k⟩:=h;refine w _ ⟨Z,U,m,r,s,e,λv j F e1 r1 f1=>?_⟩;obtain⟨i,g⟩:=f U m r e;rw[g]at d r1;cases (show Y i=Y b from d);exact⟨_,r1.JL,k j e1⟩
end
section
def RpL.one{vs:List V}{Fs:Xz}(r:RpL G H vs [t] Fs):∃v F,vs=[v]/\Fs=[F]/\Rp G H v t F:=by
 cases r with
 |cons r q=>cases q;exact⟨_,_,rfl,rfl,r⟩
def Gf(K:X0):List V->Hp->VK->Prop:=λd H Q=>(∃x n,d=[x]/\GH K x H n/\Q (.int n) H)\/(∃a f,d=[V.ref a]/\H a=Y (.dK f)/\Q (.int f.length) H)
def uj:dm X (.builtin "len") (λf H Q=>∃a d,f=[V.ref a]/\H a=Y (.dK d)/\Q (.int d.length) H):=by
 intro g s J H f m Q I r h;obtain⟨a,d,rfl,j,q⟩:=h;obtain⟨u,rfl,i⟩:=vals1 r;cases i;exact G2 I (.inl j) λt n l=>⟨.int d.length,H,l,⟨t,rfl⟩,q⟩
def wF:dm X (.builtin "len") (Gf X.K):=zd.or uj
def FP:fK G (Gf G.K) bu:=by
 intro Z U C H l j o m t Q A e k;refine L2.jG λz f=>?_;unfold bu at e;split at e
 ·rename_i x;obtain⟨w,x⟩:=x;obtain⟨n,d,e⟩:=Zy.mp e;cases e;obtain⟨v,F,rfl,rfl,r⟩:=(show RpL G H j [x] o from A.rp).one;have fin:Q (.int (n:Int)) H:=bp k (.int _);cases r with
  |non=>cases d
  |bl b=>cases d
  |int i=>cases d
  |str s g =>
   cases d;refine f ?_;exact .inl ⟨_,_,rfl,⟨by rw[c6,← fD];exact g.1,rfl⟩,by rw[c6];exact fin⟩
  |scr h =>
   cases d;refine f ?_;refine .inl ⟨_,_,rfl,.inl ⟨_,h.seq,rfl⟩,?_⟩;rw[Zt];exact fin
  |tup h q =>
   cases d;refine f ?_;refine .inl ⟨_,_,rfl,.inr ⟨_,Jt.of h,rfl⟩,?_⟩;rw[q.len.1];exact fin
  |lst h q =>
   cases d;refine f ?_;refine .inl ⟨_,_,rfl,.inl ⟨_,IF.of h,rfl⟩,?_⟩;rw[q.len.1];exact fin
  |dct h g q =>
   cases d;refine f ?_;refine .inr ⟨_,_,rfl,h,?_⟩;rename_i y ws u _;have e1:=q.len.1;rw[YQ,Zt]at fin;rw[YQ,e1];exact fin
  |dctT h g q=>cases d
  |dctN h g n q=>cases d
  |dctZ _ _ _=>cases d
  |exc _ _=>cases d
  |ins _ _ _ _=>cases d
  |mk _ _=>cases d
 ·cases e
def Dt(K:X0):List V->Hp->VK->Prop:=λf H Q=>∃p d,f=[.ref p]/\(IF K H p d\/Jt K H p d)/\∀l,H l=O->Q (.ref l) (upd H l (.lst d))
def u0:fK G (Dt G.K) Dm:=by
 intro Z U q H l j n m t Q A e k;unfold Dm at e;split at e
 ·rename_i o x;obtain⟨v,F,rfl,rfl,g⟩:=(show RpL G H j [.lst x] n from A.rp).one;obtain⟨a,d,Gs,rfl,rfl,i,h⟩:=g.lst_inv;have f:=A.fp.each 0 _ _ M M;exact⟨a,d,rfl,.inl (IF.of i),jo A.same e h (f.sub (Yd _ _)) k⟩
 ·rename_i o x;obtain⟨v,F,rfl,rfl,g⟩:=(show RpL G H j [.tup x] n from A.rp).one;obtain⟨a,d,Gs,rfl,rfl,i,h⟩:=g.Jn;have f:=A.fp.each 0 _ _ M M;exact⟨a,d,rfl,.inr (Jt.of i),jo A.same e h f k⟩
 ·cases e
def tO(G:Gx)(c:Option Ex):TO:=λJ H Q=>∃Z U o,SR G Z U J H/\pb c U=Y o/\∀d,aM H d->Q o d
def Sz(G:Gx)(X:Cx)(e:Option Expr)(c:Option Ex):Prop:=PO X e (tO G c)
def PO.weak{X:Cx}{e:Option Expr}{t f:TO}(h:PO X e t)(w:∀J H Q,f J H Q->t J H Q):PO X e f:=λd s J H Q I q=>h d s J H Q I (w J H Q q)
def m8:Sz G X O O:=PO.weak u6 λJ H Q d=>by
 obtain⟨Z,U,o,s,e,k⟩:=d;cases (show Y (O:Option Int)=Y o from e);exact k H (aM.refl _)
def iQ(h:PV G X a ca):Sz G X (Y a) (Y ca):=PO.weak (vf h) λJ H Q f=>by
 obtain⟨Z,U,o,s,e,k⟩:=f;obtain⟨⟨m,y⟩,g,e⟩:=Zz.mp (show (ca U).bind (λy=>(int? y.2).map Y)=Y o from e);obtain⟨i,d,e⟩:=Zy.mp e;cases e;refine⟨Z,U,m,y,s,g,λv l F e1 r1 f1=>?_⟩;cases y with
 |int j =>
  cases d;exact⟨_,r1.int_inv,k l e1⟩
 |_=>cases d
def lI{α:Type}(l:List α)(d f:Option Int):cut l d f=(l.drop (HT.Jj l.length 0 d)).take (HT.Jj l.length l.length f-HT.Jj l.length 0 d):=by
 unfold cut;cases d<;>cases f<;>rfl
theorem MM(a:Int)(n:Nat):max 0 (min a (n:Int))=((min a.toNat n:Nat):Int):=L2.MM a n
def R9(h:(k:Nat)<=n):max 0 (min (k:Int) (n:Int))=(k:Int):=by rw[MM,Yl,Yh h]
def CU(a:Int)(n:Nat):max 0 (min a (n:Int))=max 0 (min ((min a.toNat n:Nat):Int) (n:Int)):=by
 rw[MM,MM,Yl,Nat.min_assoc,Wi]
def zC(d f:Option Int)(n:Nat):Builtin.Str.strSliceIndices d f 1 n=Builtin.Str.strSliceIndices (Y ((min (HT.Jj n 0 d) n:Nat):Int)) (Y ((min (HT.Jj n n f) n:Nat):Int)) 1 n:=by
 have nn:∀k:Nat,¬((k:Int)<0):=λk=>by lia
 unfold Builtin.Str.strSliceIndices;simp only[show (1:Int) > 0 by decide,if_true,nn,if_false];congr 1
 ·cases d with
  |none=>simp only[HT.Jj];rw[MM,Yl,Nat.zero_min,Nat.zero_min];rfl
  |some i =>
   simp only[HT.Jj];by_cases h:i<0
   ·simp only[h,if_true];exact CU _ _
   ·simp only[h,if_false];rw[Nat.min_assoc,Wi];exact CU _ _
 ·cases f with
  |none=>simp only[HT.Jj];rw[MM,Yl,Wi,Wi]
  |some i =>
   simp only[HT.Jj];by_cases h:i<0
   ·simp only[h,if_true];exact CU _ _
   ·simp only[h,if_false];rw[Nat.min_assoc,Wi];exact CU _ _
def jI(s:Tx)(d f:Option Int):PySem.StrLaws.sliceText (sx s) d f=sx (cut s d f):=by
 have key:PySem.StrLaws.sliceText (sx s) d f=PySem.StrLaws.sliceText (sx s) (Y ((min (HT.Jj s.length 0 d) s.length:Nat):Int)) (Y ((min (HT.Jj s.length s.length f) s.length:Nat):Int)):=by
  unfold PySem.StrLaws.sliceText;rw[c6,zC]
 rw[key];have hd:∀a:Nat,s.drop (min a s.length)=s.drop a:=λa=>by
  by_cases h:a<=s.length
  ·rw[Yh h]
  ·rw[WW (by exact X1 h),XQ (Zp _),XQ (by exact X1 h)]
 by_cases h:min (HT.Jj s.length 0 d) s.length<=min (HT.Jj s.length s.length f) s.length
 ·rw[PySem.StrLaws.sliceText_nat (sx s) h (by rw[c6];exact Xn _ _),lI];show (⟨_⟩:Str)=⟨_⟩;congr 2;show ((sx s).cps.toList.drop _).take _=_;have:(sx s).cps.toList=s:=rfl;rw[this,hd];by_cases i:HT.Jj s.length 0 d<=s.length
  ·rw[Yh i];by_cases g:HT.Jj s.length s.length f<=s.length
   ·rw[Yh g]
   ·rw[WW (by exact X1 g),Yv (by rw[Yz];exact Zp _),Yv (by rw[Yz];lia)]
  ·rw[XQ (by exact X1 i)];simp
 ·have j:cut s d f=[]:=by
   rw[lI];have:HT.Jj s.length s.length f-HT.Jj s.length 0 d=0:=by omega
   rw[this,List.take_zero]
  rw[j];unfold PySem.StrLaws.sliceText;have e2:Builtin.Str.strSliceIndices (Y ((min (HT.Jj s.length 0 d) s.length:Nat):Int)) (Y ((min (HT.Jj s.length s.length f) s.length:Nat):Int)) 1 (sx s).length=[]:=by
   have e1:∀k:Nat,¬((k:Int)<0):=λk=>by lia
   unfold Builtin.Str.strSliceIndices sliceRange;simp only[show (1:Int) > 0 by decide,if_true,e1,if_false,c6];rw[R9 (Xn _ _),R9 (Xn _ _),Zl λz=>h (ZS (Int.ofNat_lt.mp z))];rfl
  rw[e2];have:¬((1:Int)==1&&([]:Vu).length==(sx s).length)=L:=by
   rw[c6];simp;lia
  rw[Zl this];rfl
noncomputable def Gm:V->Option Int->Option Int->Hp->VK->Prop:=λx lo d H Q=>∃z,x=.str z/\z.length<=KF/\Q (.str (PySem.StrLaws.sliceText z lo d)) H
def part_of(h:IsPart v o):∃q:Option (Int×Tok),v=partValue q/\o=q.map (·.1):=by
 cases h with
 |none=>exact⟨O,rfl,rfl⟩
 |int i t=>exact⟨Y (i,t),rfl,rfl⟩
def qi{α β:Type}(f:α->Option β)(l:List α):(l.filterMap f).length<=l.length:=List.length_filterMap_le f l
def BK(d f:Option Int)(n:Nat):(Builtin.Str.strSliceIndices d f 1 n).length<=n:=by
 rw[zC];by_cases h:min (HT.Jj n 0 d) n<=min (HT.Jj n n f) n
 ·rw[PySem.StrLaws.strSliceIndices_plain h (by exact Xn _ _),Zt,ZC];lia
 ·have e1:∀k:Nat,¬((k:Int)<0):=λk=>by lia
  unfold Builtin.Str.strSliceIndices sliceRange;simp only[show (1:Int) > 0 by decide,if_true,e1,if_false];rw[R9 (Xn _ _),R9 (Xn _ _),Zl λz=>h (ZS (Int.ofNat_lt.mp z))];simp
def xZ:Oh X Gm:=by
 intro f s J H x v n m lo r o Q I g j pl pu h;obtain⟨z,rfl,i,q⟩:=h;obtain⟨t,rfl⟩:=g;obtain⟨l,rfl,rfl⟩:=part_of pl;obtain⟨u,rfl,rfl⟩:=part_of pu;refine⟨"str",_,F.slot_str_getitem.lookup,Vw s z t,wpAny_getItem_str_slice (l:=l) (u:=u) (st:=O) j M ?_⟩;unfold sliceMade;split
 ·rename_i d;refine⟨.str z,H,I,⟨t,rfl⟩,?_⟩;have e:PySem.StrLaws.sliceText z (l.map (·.1)) (u.map (·.1))=z:=by
   unfold PySem.StrLaws.sliceText;exact Zo d
  rw[e]at q;exact q
 ·rename_i d;refine⟨ZL ?_ i,.str _,H,I.tok _,⟨_,rfl⟩,?_⟩
  ·show (List.filterMap _ _).toArray.size<=_;rw[ZJ];exact ZL (qi _ _) (BK _ _ _)
  ·have e:PySem.StrLaws.sliceText z (l.map (·.1)) (u.map (·.1))=⟨((slicePicked z l u O).filterMap (z.cps[·]?)).toArray⟩:=by
    unfold PySem.StrLaws.sliceText;exact Zl d
   rw[e]at q;exact q
def rSl(K:X0):V->Option Int->Option Int->Hp->VK->Prop:=λx lo d H Q=>Gm x lo d H Q\/Gy K x lo d H Q
def HM:Oh X (rSl X.K):=xZ.or qZ
def vE{α:Type}(l:List α)(d f:Option Int):(cut l d f).length<=l.length:=by
 rw[lI,Kw,Yz];lia
theorem RpL.cut{j:Xz}(r:RpL G H g i j)(d f:Option Int):RpL G H (sC g d f) (VS.cut i d f) (VS.cut j d f):=by
 have h:=r.len;rw[lI,lI,h.2];unfold sC;rw[h.1];exact(r.drop _).take _
def kE{α:Type}(l:List α)(d f:Option Int):(VS.cut l d f).Sublist l:=by
 rw[lI];exact(VC _ _).trans (List.drop_sublist _ _)
def m9{F G:Xz}(h:F.Sublist G):F.flatten.Sublist G.flatten:=by
 induction h with
 |slnil=>exact Wc _
 |cons a _ d=>rw[ZI];exact d.trans (Xj _ _)
 |cons_cons a _ d=>rw[ZI,ZI];exact(Wc _).append d
def kJ(ha:PV G X a ca)(d:Sz G X j r)(R:Sz G X n u)(hK:{`q1,X.K=G.K}):PV G X (.Subscript a (.Slice j n O E) pos) (LF ca r u) :=
 PE.weak (kj HM ha d R) λJ H Q P=>by
  obtain⟨Z,U,m,t,s,e,k⟩:=P;unfold LF at e;obtain⟨⟨M,x⟩,ea,o⟩:=Zz.mp e;obtain⟨l,el,w⟩:=Zz.mp o;obtain⟨h,eh,f⟩:=Zz.mp w;clear e o w;refine⟨Z,U,M,x,s,ea,λv H1 F e1 r1 f1=>⟨Z,U,l,s.same e1,el,λH2 e2=>⟨Z,U,h,(s.same e1).same e2,eh,λy e3=>?_⟩⟩⟩;have g:aM H y:=(e1.trans e2).trans e3;have i:=(r1.same e2).same e3;unfold oSl at f;split at f
  ·rename_i N z q;cases q;cases f;obtain⟨rfl,d⟩:=i.str_inv;refine .inl ⟨_,rfl,by rw[c6,← fD];exact d.1,?_⟩;rw[jI];exact k _ y _ g (.str _ ⟨ZL (vE _ _ _) d.1,λc S=>d.2 c ((kE _ _ _).subset S)⟩) Fp.nil
  ·rename_i N z q;cases q;obtain⟨a',A,Fs,rfl,rfl,IC,C⟩:=i.lst_inv;refine .inr ⟨a',A,rfl,by rw[hK];exact IF.of IC,jo g f (C.cut l h) ((f1.sub (Yd _ _)).sub (m9 (kE _ _ _))) λv H4 F e5 D f4=>k v H4 F (g.trans e5) D f4⟩
  ·cases f
end
section
def Cz(G:Gx)(r:V->List V->Hp->VK->Prop)(f:Val->Uv->Uu):Prop:=∀(Z:Iw)(U:VS.Env)(d i H:Hp)(x:Val)(v:V)(F:Wp)(l:Uv)(h:List V)(j:Xz)(m:Md)(t:T)(Q:VK),
 aM d i->Rp G H v x.2 F->Fp Z U d x.1 F->Args G Z U i H l h j->f x l=Y (m,t)->(∀v g F,aM H g->Rp G g v t F->Fp Z U d m F->Q v g)->r v h H Q
def zj{g:Pos}(A:PlainAttrs n)(h:Slot n d j)(OJ:typeOf (.builtin j)=pure (.type "method_descriptor"))(N:O9 X j r)(C:Cz G r f)(R:∀H v (x:Val) F l z,Rp G H v x.2 F->f x l=Y z->Nu G.K n v H)(M:PV G X a ca)(P:Jz G X (e :: es) cs)(S:{`q1,X.K=G.K})(IA:{`q1,XAC a d X.env (eval a X.env)=eval a X.env})(IK:{`q1,((backTo i (Pv (e :: es) X.env)).all (λx=>!x.1)&&(backToKw i (SZ [] X.env)).all (λx=>x.1.isSome)
   && decide ((e :: es).length+([]:List Keyword).length+(if ([]:List Keyword).isEmpty then 0 else 1)<30))=L})(Iv:{`q1,(g.endLine==i.line)=L})(D:{`q1,K1 e es X})(Iu:{`q1,K2 i es X}) :
  PV G X (.Call (.Attribute a d g) (e :: es) [] i) (eM f ca cs) :=
 PE.weak (o6 A h OJ N M P IA IK Iv D Iu) λJ H Q E=>by
  obtain⟨Z,U,m,t,s,e,k⟩:=E;unfold eM at e;obtain⟨x,ea,e'⟩:=Zz.mp e;obtain⟨l,el,o⟩:=Zz.mp e';refine⟨Z,U,x.1,x.2,s,ea,λv q F e1 r1 f1=>⟨by rw[S];exact R q v x F l _ r1 o,Z,U,l,s.same e1,el,λu H2 Fs e2 r2 f2=>?_⟩⟩;exact C Z U H q H2 x v F l u Fs m t Q e1 (r1.same e2) f1 ⟨e2,r2,f2⟩ o λw H3 F' e3 y f3=>k w H3 F' ((e1.trans e2).trans e3) y f3
def Cb:∀(sep:Tx)(d:List Tx),Txt.join (sx sep) (d.map sx)=sx (dh sep d):=by
 intro sep d;have fold:∀(l:List Tx)(acc:Tx),(l.map sx).foldl (λacc p=>acc++(sx sep).cps++p.cps) acc.toArray=(l.foldl (λacc p=>acc++sep++p) acc).toArray:=by
  intro l
  induction l with
  |nil=>intro acc;rfl
  |cons x r f =>
   intro acc;rw[Zc,Xq,Xq,← f];congr 1;simp[sx]
 have g:∀(r:List Tx)(acc:Tx),r.foldl (λacc p=>acc++sep++p) acc=dh sep (acc :: r):=by
  intro r
  induction r with
  |nil=>intro acc;rfl
  |cons x r f =>
   intro acc;rw[Xq,f];cases r with
   |nil=>rfl
   |cons y r=>simp[dh]
 cases d with
 |nil=>rfl
 |cons x r =>
  show (⟨_⟩:Str)=⟨_⟩;congr 1;show ((r.map sx).foldl _ x.toArray)=_;rw[fold,g]
theorem mF:∀{d:List V}{l:Ut}{g:Xz}{f:List Tx},RpL G H d l g->strs? l=Y f->d=f.map λs=>V.str (sx s)
 |_,_,_,_,.nil,e=>by cases e;rfl
 |_,_,_,_,.cons (t:=t) r q,e=>by
  cases t with
  |str s =>
   obtain⟨h,e1,e2⟩:=Zy.mp e;subst e2;rw[mF q e1,r.str_inv.1];rfl
  |_=>cases e
theorem nS:∀{d:List Tx}{f:W7},aQ (d.map λs=>V.str (sx s)) f->StrsAre f (d.map sx)
 |[],_,h=>by cases h;exact .nil
 |s :: d,_,h=>by
  cases h with
  |cons r q =>
   obtain⟨t,rfl⟩:=r;exact .cons _ _ (nS q)
def rJoin(K:X0):V->List V->Hp->VK->Prop:=λx f H Q=>∃sep p d,x=.str (sx sep)/\f=[.ref p]/\IF K H p (d.map λs=>V.str (sx s))/\total d+d.length*sep.length<=16777216/\Q (.str (sx (dh sep d))) H
theorem vK:∀d:List Tx,((d.map sx).map (·.length)).sum=total d
 |[]=>rfl
 |s :: r=>by
  rw[Zc,Zc,X9,vK r,c6];rfl
def vX:O9 X "str.join" (rJoin X.K):=by
 intro d s J H x n v o Q I g m h;obtain⟨sep,p,f,rfl,rfl,j,l,q⟩:=h;obtain⟨t,rfl⟩:=g;obtain⟨u,rfl,i⟩:=vals1 m;cases i;obtain⟨y,r,pl,z⟩:=I.list j;refine join_list pl.isList (ys:=f.map sx) (by simpa using nS r) ?_ λw k=>⟨.str _,H,I.tok _,⟨_,by rw[Cb]⟩,q⟩
 rw[vK,Zt,c6];exact l
theorem kf(d:Tx):∀f:List Tx,(dh d f).length<=total f+f.length*d.length
 |[]=>by simp[dh,total]
 |[x]=>by simp[dh,total]
 |x :: y :: r=>by
  have:=kf d (y :: r);simp only[dh,total,Zw,Zg]at this ⊢;have e:(r.length+1+1)*d.length=(r.length+1)*d.length+d.length:=WE _ _;lia
theorem jQ(d:Tx):∀(f:List Tx)(c:Nat),c∈dh d f->c∈d\/∃s∈f,c∈s
 |[],c,h=>by simp[dh]at h
 |[x],c,h=>.inr ⟨x,Zx,h⟩
 |x :: y :: r,c,h=>by
  simp only[dh,Zi]at h;rcases h with (h | h) | h
  ·exact .inr ⟨x,Zx,h⟩
  ·exact .inl h
  ·exact(jQ d (y :: r) c h).imp id λ⟨s,g,i⟩=>⟨s,Zv _ g,i⟩
theorem jT:∀{g:List V}{l:Ut}{h:Xz}{f:List Tx},RpL G H g l h->strs? l=Y f->∀s∈f,∀c∈s,c<1114112
 |_,_,_,_,.nil,e,s,d=>by cases e;simp at d
 |_,_,_,_,.cons (t:=t) r q,e,s,d=>by
  cases t with
  |str x =>
   obtain⟨i,e1,e2⟩:=Zy.mp e;subst e2;rcases Zj.mp d with rfl | d
   ·exact r.str_inv.2.2
   ·exact jT q e1 s d
  |_=>cases e
def CQ:Cz G (rJoin G.K) iH:=by
 intro Z U R P H x v F l o E m t Q q r f A e k;unfold iH at e;split at e
 ·rename_i M sep N w;obtain⟨d,n,g⟩:=Zz.mp e;split at g
  ·rename_i i;cases g;obtain⟨J,S,rfl,rfl,u⟩:=(show RpL G H o [.lst w] E from A.rp).one;obtain⟨z,ws,Gs,rfl,rfl,j,h⟩:=u.lst_inv;rw[mF h n]at j;refine⟨sep,z,d,r.str_inv.1,rfl,IF.of j,i,bp k (.str _ ⟨ZL (kf sep d) i,λc y=>(jQ sep d c y).elim (r.str_inv.2.2 c) λ⟨s,D,C⟩=>jT h n s D c C⟩)⟩
  ·cases g
 ·cases e
def kg(r:Rp G H v t F)(h:∃s,t=.str s):Nu G.K "str" v H:=by
 obtain⟨s,rfl⟩:=h;rw[r.str_inv.1];rfl
def vV{d:Pos}(i:PV G X a ca)(j:Jz G X [e] cs)(g:{`q1,X.K=G.K})(q:{`q1,XAC a "join" X.env (eval a X.env)=eval a X.env})(o:{`q1,((backTo f (Pv [e] X.env)).all (λx=>!x.1)&&(backToKw f (SZ [] X.env)).all (λx=>x.1.isSome)
   && decide `be)=L})(m:{`q1,(d.endLine==f.line)=L})(h:{`q1,K1 e [] X})(n:{`q1,(backTo f (Pv [] X.env)).any (·.1)=B}) :
  PV G X (.Call (.Attribute a "join" d) [e] [] f) (eM iH ca cs) :=
 zj Wo PySem.F.slot_str_join PySem.F.type_str_join (g ▸ vX) CQ (λH v x F l z r e=>kg r (by
  unfold iH at e;split at e
  ·exact⟨_,rfl⟩
  ·cases e)) i j g q o m h n
noncomputable def Du:V->List V->Hp->VK->Prop:=λx d H Q=>∃z y,x=.str z/\d=[.str y]/\Q (.bl (Txt.endswith z y)) H
def Cy:O9 X "str.endswith" Du:=by
 intro d s J H x l v m Q I g j h;obtain⟨z,y,rfl,rfl,q⟩:=h;obtain⟨t,rfl⟩:=g;obtain⟨u,rfl,i⟩:=vals1 j;obtain⟨f,rfl⟩:=i;exact call_meets F.slot_str_endswith (Vw s z t) F.entry_str_endswith (F.args_str_endswith_2 _ _) (gives_str_endswith z y t f).meets (show EP X d J Q _ s from⟨.bl _,H,I,rfl,q⟩)
def A8(s t:Tx):Txt.endswith (sx s) (sx t)=t.isSuffixOf s:=by
 unfold Txt.endswith;rw[Vr,c6,c6];have e1:(sx s).cps.toList=s:=rfl;have e2:(sx t).cps.toList=t:=rfl;rw[e1,e2];rw[YF,W4];simp only[Xg,YM,decide_eq_true_eq,beq_iff_eq];constructor
 ·rintro⟨g,f⟩;rw[Yv (by rw[Yz];omega)]at f;have d:=Yi (s.length-t.length) s;rw[f]at d;exact⟨_,d⟩
 ·rintro⟨u,rfl⟩;simp
def B6:Cz G Du pq:=by
 intro Z U s q H x v F l d i m t Q g r f A e k;unfold pq at e;split at e
 ·rename_i n z o y;cases e;obtain⟨j,u,rfl,rfl,h⟩:=(show RpL G H d [.str y] i from A.rp).one;refine⟨_,_,r.str_inv.1,by rw[h.str_inv.1],?_⟩;rw[A8];exact bp k (.bl _)
 ·cases e
end
end VS
end
section
namespace VS
@[simp] def Kd(x y:Val):Uu:=match x.2 with
 |.dct 0 l=>if iM y.2 then (fq l y.2).map (sub x.1) else O
 |_=>aJ x y
noncomputable def flat:T->Bool
 |.non=>L
 |.bl _=>L
 |.int _=>L
 |.str _=>L
 |_=>B
@[simp] def kI(x y:Val):Uu:=match y.2 with
 |.dct 0 l=>if iM x.2 then Y (.fr,.bl (fq l x.2).isSome) else O
 |.lst l=>if flat x.2&&l.all flat then Y (.fr,.bl (l.any λy=>eqT y x.2)) else O
 |.tup l=>if flat x.2&&l.all flat then Y (.fr,.bl (l.any λy=>eqT y x.2)) else O
 |_=>O
@[simp] def cR(x y:Val):Uu:=match kI x y with
 |some (_,.bl b)=>Y (.fr,.bl (!b))
 |_=>O
def pm{α:Type}(f:T->Option (T×α)):List Ky->T->Option (T×α)
 |[],t=>f t
 |.fld k :: r,t=>match t with
  |.obj (c+1) (q :: fs)=>(fs.findIdx? λp=>p.1==k).bind λi=>(fs[i]?).bind λp=>(pm f r p.2).map λz=>(.obj (c+1) (q :: fs.set i (p.1,z.1)),z.2)
  |_=>O
 |.un :: r,t=>match t with
  |.obj 0 [(0,.bl true),(m,x)]=>(pm f r x).map λz=>(.obj 0 [(0,.bl L),(m,z.1)],z.2)
  |_=>O
 |.at k :: r,t=>match t with
  |.lst l=>match k with
   |.int i=>(Jx l.length i).bind λj=>(l[j]?).bind λx=>(pm f r x).map λz=>(.lst (l.set j z.1),z.2)
   |_=>O
  |.dct 0 l=>if iM k then (l.findIdx? λp=>eqT p.1 k).bind λi=>(l[i]?).bind λp=>(pm f r p.2).map λz=>(.dct 0 (l.set i (p.1,z.1)),z.2) else O
  |_=>O
end VS
end
section
namespace VS
open PySem PySem.Spec PyProof.Rows L2
section
mutual
def LM:T->PyData
 |.non=>.none
 |.bl b=>.bool b
 |.int i=>.int i
 |.str s=>.str (sx s)
 |.tup l=>.tuple (oM l)
 |.lst l=>.list (oM l)
 |_=>.none
def oM:Ut->List PyData
 |[]=>[]
 |t :: r=>LM t :: oM r
end
def G8(h:oE s):PyData.strOk (sx s)=L:=by
 unfold PyData.strOk sx;simp only[Array.all_eq_true,decide_eq_true_eq];intro i a;have:s.toArray[i]∈s:=by simp
 have:=h.2 _ this;simpa using this
def AW:(sx s==sx t)=(s==t):=by
 rw[YF,beq_iff_eq,beq_iff_eq];constructor
 ·intro h;have:(sx s).cps=(sx t).cps:=by rw[h]
  simpa[sx] using this
 ·intro h;rw[h]
mutual
theorem qJ:∀(n k:Nat)(t u:T),JK n t=L->JK k u=L->PyData.eqv (LM t) (LM u)=eqT t u
 |n,k,t,u,b,a=>by
  cases t with
  |scr _=>cases n<;>cases b
  |dct _ _=>cases n<;>cases b
  |obj _ _=>cases n<;>cases b
  |tup l =>
   cases n with
   |zero=>cases b
   |succ n =>
    cases u with
    |tup r =>
     cases k with
     |zero=>cases a
     |succ k =>
      exact nO n k l r (Yr.mp b) (Yr.mp a)
    |scr _=>cases k<;>cases a
    |dct _ _=>cases k<;>cases a
    |obj _ _=>cases k<;>cases a
    |_=>rfl
  |lst l =>
   cases n with
   |zero=>cases b
   |succ n =>
    cases u with
    |lst r =>
     cases k with
     |zero=>cases a
     |succ k =>
      exact nO n k l r (Yr.mp b) (Yr.mp a)
    |scr _=>cases k<;>cases a
    |dct _ _=>cases k<;>cases a
    |obj _ _=>cases k<;>cases a
    |_=>rfl
  |str s =>
   cases u with
   |str r=>exact AW
   |scr _=>cases k<;>cases a
   |dct _ _=>cases k<;>cases a
   |obj _ _=>cases k<;>cases a
   |_=>rfl
  |_ =>
   cases u with
   |scr _=>cases k<;>cases a
   |dct _ _=>cases k<;>cases a
   |obj _ _=>cases k<;>cases a
   |_=>rfl
theorem nO:∀(n k:Nat)(l r:Ut),(∀t∈l,JK n t=L)->(∀t∈r,JK k t=L)->PyData.eqvAll (oM l) (oM r)=zk l r
 |_,_,[],[],_,_=>rfl
 |_,_,[],_ :: _,_,_=>rfl
 |_,_,_ :: _,[],_,_=>rfl
 |n,k,t :: l,u :: r,d,b=>by
  show (PyData.eqv (LM t) (LM u)&&PyData.eqvAll (oM l) (oM r))=(eqT t u&&zk l r);rw[qJ n k t u (d t Zx) (b u Zx),nO n k l r (λx a=>d x (Zv _ a)) λx a=>b x (Zv _ a)]
end
def Rp.MB(r:Rp G H v (.tup d) F):∃b a e,v=.ref b/\H b=Y (.tup a)/\RpL G H a d e:=by
 cases r with
 |tup h q=>exact⟨_,_,_,rfl,h,q⟩
def Rp.MP(r:Rp G H v (.lst d) F):∃b a e,v=.ref b/\H b=Y (.lst a)/\RpL G H a d e:=by
 cases r with
 |lst h q=>exact⟨_,_,_,rfl,h,q⟩
theorem lE{s:IR}(f:∀{v:V}{t:T}{F:Wp}{u:On},Rp G H v t F->RelV v u->JK n t=L->∃b,Reads s.heap u (LM t) b/\(LM t).canLay0=L/\(LM t).depth<=n):∀{d:List V}{a:Ut}{x:Xz}{e:W7},RpL G H d a x->aQ d e->(∀t∈a,JK n t=L) →
  ∃b,ReadsAll s.heap e (oM a) b/\PyData.canLayAll0 (oM a)=L/\PyData.depthAll (oM a)<=n
 |_,_,_,_,.nil,r,_=>by cases r;exact⟨_,.nil,rfl,ZD _⟩
 |_,_,_,_,.cons p q,r,h=>by
  cases r with
  |cons r1 r2 =>
   obtain⟨b,l,j,i⟩:=f p r1 (h _ Zx);obtain⟨bs,w,o,m⟩:=lE f q r2 λt g=>h t (Zv _ g);exact⟨_,.cons l w,ZU.mpr ⟨j,o⟩,Nat.max_le.mpr ⟨i,m⟩⟩
def mW(r:Rp G H v t F)(a:RelV v u)(d:flat t=L):∃e,Reads h u (LM t) e/\(LM t).canLay0=L/\(LM t).depth<=n:=by
 cases r with
 |non=>cases a;exact⟨_,.none,rfl,ZD _⟩
 |bl b=>cases a;exact⟨_,.bool b,rfl,ZD _⟩
 |int i=>obtain⟨t,rfl⟩:=a;exact⟨_,.int i t,rfl,ZD _⟩
 |str s h=>obtain⟨t,rfl⟩:=a;exact⟨_,.str _ t,G8 h,ZD _⟩
 |_=>cases d
def kW(I:Inv X d J H s)(n:Nat):∀{v:V}{t:T}{F:Wp}{u:On},Rp G H v t F->RelV v u->JK n t=L->∃w,Reads s.heap u (LM t) w/\(LM t).canLay0=L/\(LM t).depth<=n:=by
 induction n with
 |zero =>
  intro v t F u r a h;refine mW r a ?_;cases t<;>first | rfl | exact h
 |succ n x =>
  intro v t F u r a h;cases t with
  |tup l =>
   obtain⟨b,y,E,rfl,e,q⟩:=Rp.MB r;cases a;obtain⟨A,f,z,D⟩:=I.tuple (Jt.of e);obtain⟨w,p,m,j⟩:=lE x q f (Yr.mp h);obtain⟨o,g,i,C,hd⟩:=z;exact⟨_,.tuple g i hd (by simpa using p),m,Xo j⟩
  |lst l =>
   obtain⟨b,y,E,rfl,e,q⟩:=Rp.MP r;cases a;obtain⟨A,f,pl,D⟩:=I.list (IF.of e);obtain⟨w,p,m,j⟩:=lE x q f (Yr.mp h);obtain⟨o,g,i,C,hd⟩:=pl.isList;exact⟨_,.list g i hd (by simpa using p),m,Xo j⟩
  |scr _=>cases h
  |dct _ _=>cases h
  |obj _ _=>cases h
  |_=>exact mW r a M
def CL(G:Gx)(a:Bool):R2:=λx y H Q=>∃t u F b,Rp G H x t F/\Rp G H y u b/\JK 60 t=L/\JK 60 u=L/\Q (.bl (if a then !eqT t u else eqT t u)) H
def jm{d:PyData}(h:d.canLay0=L)(a:d.depth<=60):SeqAt.shaped d=L:=by
 unfold SeqAt.shaped;rw[h,Bool.true_and];exact decide_eq_true `am
def jU(g:X.A.units+64<cLine):OpR X (UV .Eq) (CL G B):=by
 intro a s J H x y v u Q I f e h;obtain⟨t,w,F,r,r1,r2,d,b,q⟩:=h;obtain⟨p,o,n,m⟩:=kW I 60 r1 f d;obtain⟨bs,l,j,i⟩:=kW I 60 r2 e b;refine eq_dataH o l (jm n m) (jm j i) g ⟨.bl _,H,I,rfl,?_⟩;rw[qJ 60 60 t w d b];exact q
def FN(g:X.A.units+64<cLine):OpR X (UV .NotEq) (CL G L):=by
 intro a s J H x y v u Q I f e h;obtain⟨t,w,F,r,r1,r2,d,b,q⟩:=h;obtain⟨p,o,n,m⟩:=kW I 60 r1 f d;obtain⟨bs,l,j,i⟩:=kW I 60 r2 e b;refine ne_dataH o l (jm n m) (jm j i) g ⟨.bl _,H,I,rfl,?_⟩;rw[qJ 60 60 t w d b];exact q
def ox:d6 G (CL G B) oEq:=by
 intro Z U b H x y u w f d m t Q a e k;unfold oEq at e;split at e
 ·rename_i h;cases e;exact⟨_,_,_,_,a.r1,a.r2,h.1,h.2,bp k (.bl _)⟩
 ·cases e
def Gc:d6 G (CL G L) Lp:=by
 intro Z U b H x y u w f d m t Q a e k;unfold Lp at e;split at e
 ·rename_i h;cases e;exact⟨_,_,_,_,a.r1,a.r2,h.1,h.2,bp k (.bl _)⟩
 ·cases e
def tells_eq:Tells oEq:=by
 intro x y m t e;unfold oEq at e;split at e<;>first | (cases e;exact⟨_,rfl⟩) | cases e
def AC:Tells Lp:=by
 intro x y m t e;unfold Lp at e;split at e<;>first | (cases e;exact⟨_,rfl⟩) | cases e
end
structure IE(Z:Iw)(U:VS.Env)(H:Hp)(Z':Iw)(U':VS.Env)(H':Hp):Prop where
 keep:∀a o,H a=some o->¬bB Z U a->H' a=some o/\¬bB Z' U' a
 IH:∀a,H a≠none->H' a≠none
 ow:∀a,bB Z' U' a->bB Z U a\/H a=none
 pu:∀a,cL Z' U' a->cL Z U a\/bB Z U a\/H a=none
 kept:Kept H H'
theorem IE.refl(Z:Iw)(U:VS.Env)(H:Hp):IE Z U H Z U H:=⟨λa o h n=>⟨h,n⟩,λ_ h=>h,λ_ h=>.inl h,λ_ h=>.inl h,Kept.refl H⟩
theorem IE.none(f:IE Z U H d g b){a:KM}(h:b a=O):H a=O:=by
 cases e:H a with
 |none=>rfl
 |some o=>exact absurd h (f.IH a (by rw[e];exact λz=>nomatch z))
theorem IE.trans{b:Iw}{U U1:VS.Env}{j i:Hp}(f:IE Z U H d U1 j)(g:IE d U1 j b e i):IE Z U H b e i where
 keep:=λa o h n=>let ⟨m,l⟩:=f.keep a o h n;g.keep a o m l
 IH:=λa h=>g.IH a (f.IH a h)
 ow:=λa h=>by
  rcases g.ow a h with h | h
  ·exact f.ow a h
  ·exact .inr (f.none h)
 pu:=λa h=>by
  rcases g.pu a h with h | h | h
  ·exact f.pu a h
  ·rcases f.ow a h with h | h
   ·exact .inr (.inl h)
   ·exact .inr (.inr h)
  ·exact .inr (.inr (f.none h))
 kept:=f.kept.trans g.kept
def IE.same(e:aM H b):IE Z U H Z U b :=
 ⟨λa o h n=>⟨e a o h,n⟩,λa h z=>h (e.free z),λ_ h=>.inl h,λ_ h=>.inl h,Kept.of e⟩
def rM(Z:Iw)(U:VS.Env)(H:Hp):Md->Wp->Prop
 |.fr,F=>F.Nodup/\∀a∈F,H a=O\/bB Z U a
 |_,F=>∀a∈F,H a=O\/cL Z U a\/bB Z U a
theorem rM.back(f:IE Z U H d e g):∀{m:Md},rM d e g m F->rM Z U H m F
 |.fr,h=>⟨h.1,λa b=>(h.2 a b).elim (λz=>.inl (f.none z)) λz=>(f.ow a z).elim .inr .inl⟩
 |.pu,h=>λa b=>by
  rcases h a b with z | z | z
  ·exact .inl (f.none z)
  ·rcases f.pu a z with z | z | z
   ·exact .inr (.inl z)
   ·exact .inr (.inr z)
   ·exact .inl z
  ·exact(f.ow a z).elim (λz=>.inr (.inr z)) .inl
 |.bo,h=>λa b=>by
  rcases h a b with z | z | z
  ·exact .inl (f.none z)
  ·rcases f.pu a z with z | z | z
   ·exact .inr (.inl z)
   ·exact .inr (.inr z)
   ·exact .inl z
  ·exact(f.ow a z).elim (λz=>.inr (.inr z)) .inl
noncomputable def Nx(G:Gx)(Z:Iw)(U:VS.Env)(H:Hp)(d:VS.Env)(k:L2.St->Hp->Prop):Prop:=∀b e a,SR G b d e a->IE Z U H b d a->k e a
def u7(G:Gx)(Z:Iw)(U:VS.Env)(H:Hp)(D:Ends):Out->Prop
 |.nx a=>Nx G Z U H a D.nx
 |.bk a=>Nx G Z U H a D.bk
 |.ct a=>Nx G Z U H a D.ct
 |.rt v a=>∀u b F d e,SR G d a e b->IE Z U H d a b->Rp G b u v.2 F->rM Z U H v.1 F->D.rt u b
def tS(G:Gx)(c:Sx):TS:=λD J H=>∃Z U o,SR G Z U J H/\c U=Y o/\u7 G Z U H D o
def PSV(G:Gx)(X:Cx)(a:Stmt)(c:Sx):Prop:=PS X a (tS G c)
def gE(G:Gx)(X:Cx)(a:List Stmt)(c:Sx):Prop:=Kp X a (tS G c)
def PS.weak{X:Cx}{t:TS}(h:PS X e t)(w:∀D J H,b D J H->t D J H):PS X e b:=λa s J H D I q=>h a s J H D I (w D J H q)
def Kp.weak{X:Cx}{t:TS}(h:Kp X e t)(w:∀D J H,b D J H->t D J H):Kp X e b:=λa s J H D I q=>h a s J H D I (w D J H q)
theorem u7.back(f:IE Z U H i j l):∀{o:Out},u7 G Z U H D o->u7 G i j l D o
 |.nx e,h=>λa b d s g=>h a b d s (f.trans g)
 |.bk e,h=>λa b d s g=>h a b d s (f.trans g)
 |.ct e,h=>λa b d s g=>h a b d s (f.trans g)
 |.rt v e,h=>λu d F a b s g r q=>h u d F a b s (f.trans g) r (q.back f)
section
variable{st:Stmt}
def bw:gE G X [] di:=Kp.weak BE λD J H a=>by
 obtain⟨Z,U,o,s,e,k⟩:=a;cases (show Y (Out.nx U)=Y o from e);exact k Z J H s (IE.refl _ _ _)
def af(i:PSV G X st c1)(h:gE G X PM c2):gE G X (st :: PM) (ak c1 c2):=Kp.weak (Al i h) λD J H g=>by
 obtain⟨Z,U,o,s,e,k⟩:=g;unfold ak at e;obtain⟨b,e1,e2⟩:=Zz.mp e;refine⟨Z,U,b,s,e1,?_⟩;cases b with
 |nx a=>exact λj l m d f=>⟨j,a,o,d,e2,k.back f⟩
 |rt v a=>cases e2;exact k
 |bk a=>cases e2;exact k
 |ct a=>cases e2;exact k
def wK:PSV G X (.Break pos) Gj:=PS.weak x4 λD J H a=>by
 obtain⟨Z,U,o,s,e,k⟩:=a;cases (show Y (Out.bk U)=Y o from e);exact k Z J H s (IE.refl _ _ _)
def cK(h:Kg G X t d)(j:gE G X a c1)(i:gE G X b c2):PSV G X (.If t a b pos) (Jw d c1 c2):=PS.weak (Dq h j i) λD J H g=>by
 obtain⟨Z,U,o,s,e,k⟩:=g;unfold Jw at e;obtain⟨⟨m,x⟩,l,e1⟩:=Zz.mp e;obtain⟨f,n,e2⟩:=Zz.mp e1;refine⟨Z,U,m,x,f,s,l,n,λp e3=>?_⟩;cases f with
 |true =>
  rw[Zo M]at e2;exact wW ⟨Z,U,o,s.same e3,e2,k.back (IE.same e3)⟩
 |false =>
  rw[Zl Zd]at e2;exact xD ⟨Z,U,o,s.same e3,e2,k.back (IE.same e3)⟩
theorem Fp.ret:∀{m:Md},Fp Z U H m F->rM Z U H (match m with | .bo=>.pu | m=>m) F
 |.fr,f=>⟨f.1,λa b=>.inl (f.2 a b)⟩
 |.pu,f=>λa b=>(f a b).elim .inl λz=>.inr (.inl z)
 |.bo,f=>f
def bT(he:PV G X e ce):PSV G X (.Return (Y e) pos) (fJ ce):=PS.weak (qu he) λD J H a=>by
 obtain⟨Z,U,o,s,e,k⟩:=a;unfold fJ at e;obtain⟨⟨m,x⟩,b,e1⟩:=Zz.mp e;cases e1;exact⟨Z,U,m,x,s,b,λv d F e1 r1 f1=>k v d F Z J (s.same e1) (IE.same e1) r1 f1.ret⟩
def cI{U:VS.Env}{c:Cell}(h:(U.set i O)[j]?=Y (Y c)):j≠i/\U[j]?=Y (Y c):=by
 rw[V0]at h;split at h
 ·split at h<;>cases h
 ·rename_i n;exact⟨λz=>n z.symm,h⟩
def SR.drop(s:SR G Z U J H)(i:Nat):SR G Z (U.set i O) J H :=
 ⟨by rw[Yg];exact s.len,λj c h=>s.rp j c (cI h).2,λj t h=>s.nd j t (cI h).2,λj k t c b a n=>s.sep j k t c (cI b).2 (cI a).2 n⟩
def IE.drop(i:Nat):IE Z U H Z (U.set i O) H :=
 ⟨λa o h n=>⟨h,λ⟨j,t,d,b⟩=>n ⟨j,t,(cI d).2,b⟩⟩,λ_ h=>h,λa ⟨j,t,d,b⟩=>.inl ⟨j,t,(cI d).2,b⟩,λa ⟨j,t,d,b⟩=>.inl ⟨j,t,(cI d).2,b⟩,Kept.refl H⟩
def dS{X:Cx}(i:Nat)(u:{`q1,X.N[i]?=Y x})(l:{`q4,Kf X.env.scope x})(r:{`q0,K3 x})(d:{`q0,K4 x}):PSV G X (.Return (Y (.Name x p)) pos) (fA i):=PS.weak (qu (d8 u l r d)) λD J H n=>by
 obtain⟨Z,U,o,s,e,k⟩:=n;unfold fA at e;split at e
 ·rename_i t h;obtain⟨v,j,b⟩:=s.rp _ _ h;cases e;exact⟨v,j,k v H (Z i) Z J (s.drop i) (IE.drop i) b ⟨s.nd i t h,λa g=>.inr ⟨i,t,h,g⟩⟩⟩
 ·rename_i t h;obtain⟨v,j,b⟩:=s.rp _ _ h;cases e;refine⟨v,j,k v H (Z i) Z J s (IE.refl _ _ _) b ?_⟩;have f:Fp Z U H .pu (Z i):=λa g=>.inr ⟨i,t,h,g⟩;have f2:=(f.up b).ret;have:(match (VS.up .pu (iF (.pu t))).1 with | .bo=>Md.pu | m=>m)=(VS.up .pu t).1:=by
   show (match (VS.up .pu t).1 with | .bo=>Md.pu | m=>m)=_;unfold VS.up;split<;>(rename_i q;revert q;split<;>simp)
  rw[this]at f2;exact f2
 ·cases e
noncomputable def ma(Z:Iw)(i:Nat)(F:Wp):Iw:=λj=>if j=i then F else Z j
def jq:ma Z i F i=F:=Zo M
def eU(h:j≠i):ma Z i F j=Z j:=Zl h
def iy{U:VS.Env}{c:Cell}(h:(U.set i (Y c))[j]?=Y (Y a)):(j=i/\a=c)\/(j≠i/\U[j]?=Y (Y a)):=by
 rw[V0]at h;split at h
 ·rename_i e;split at h
  ·exact .inl ⟨e.symm,(Zh (Zh h)).symm⟩
  ·cases h
 ·rename_i n;exact .inr ⟨λz=>n z.symm,h⟩
def SR.put{H':Hp}{v:V}{c:Cell}{F:Wp}(s:SR G Z U J H)(u:i<U.length)(r:Rp G H' v (iF c) F)(q:∀j b,j≠i->U[j]?=Y (Y b)->∀w,Rp G H w (iF b) (Z j)->Rp G H' w (iF b) (Z j))(x:∀t,c=.ow t->F.Nodup)(y:∀t,c=.ow t->∀j b,j≠i->U[j]?=Y (Y b)->∀a∈F,a∉Z j)(l:∀j t,j≠i->U[j]?=Y (Y (.ow t))->∀a∈Z j,a∉F) :
  SR G (ma Z i F) (U.set i (Y c)) (J.set i (Y v)) H' where
 len:=by rw[Yg,Yg];exact s.len
 rp:=λj b h=>by
  rcases iy h with⟨rfl,rfl⟩ | ⟨n,h⟩
  ·exact⟨v,by rw[Wg (by rw[← s.len];exact u)],by rw[jq];exact r⟩
  ·obtain⟨w,m,f⟩:=s.rp j b h;exact⟨w,by rw[YT (YH n)];exact m,by rw[eU n];exact q j b n h w f⟩
 nd:=λj t h=>by
  rcases iy h with⟨rfl,e⟩ | ⟨n,h⟩
  ·rw[jq];exact x t e.symm
  ·rw[eU n];exact s.nd j t h
 sep:=λj k t b m f n=>by
  rcases iy m with⟨rfl,e⟩ | ⟨g,p⟩
  ·rcases iy f with⟨rfl,e2⟩ | ⟨d,o⟩
   ·exact absurd M n
   ·rw[jq,eU d];exact y t e.symm k b d o
  ·rcases iy f with⟨rfl,e2⟩ | ⟨d,o⟩
   ·rw[jq,eU g];exact l j t g p
   ·rw[eU g,eU d];exact s.sep j k t b p o n
def kc{U:VS.Env}{c:Cell}(h:bB (ma Z i F) (U.set i (Y c)) a):(∃t,c=.ow t/\a∈F)\/bB Z U a:=by
 obtain⟨j,t,d,b⟩:=h;rcases iy d with⟨rfl,e⟩ | ⟨n,d⟩
 ·rw[jq]at b;exact .inl ⟨t,e.symm,b⟩
 ·rw[eU n]at b;exact .inr ⟨j,t,d,b⟩
def qk{U:VS.Env}{c:Cell}(h:cL (ma Z i F) (U.set i (Y c)) a):(∃t,c=.pu t/\a∈F)\/cL Z U a:=by
 obtain⟨j,t,d,b⟩:=h;rcases iy d with⟨rfl,e⟩ | ⟨n,d⟩
 ·rw[jq]at b;exact .inl ⟨t,e.symm,b⟩
 ·rw[eU n]at b;exact .inr ⟨j,t,d,b⟩
def SR.MJ(s:SR G Z U J H)(h:bB Z U a)(g:cL Z U a):False:=by
 obtain⟨j,t,d,f⟩:=h;obtain⟨k,u,b,i⟩:=g;have n:j≠k:=λe=>by subst e;rw[d]at b;cases b
 exact s.sep j k t _ d b n a f i
def SR.val{U:VS.Env}{m:Md}{c:Cell}(s:SR G Z U J H)(C:i<U.length)(e:aM H A)(r:Rp G A v t F)(f:Fp Z U H m F)(p:(c=.pu t/\m ≠ .bo)\/(c=.ow t/\m=.fr)):SR G (ma Z i F) (U.set i (Y c)) (J.set i (Y v)) A/\IE Z U H (ma Z i F) (U.set i (Y c)) A:=by
 have IH:∀{a},H a=O->∀j x,U[j]?=Y (Y x)->a∉Z j:=λ{a} h j x g b=>by
  obtain⟨w,_,q⟩:=s.rp j x g;exact Iy.oe (q.IH a b) h
 have ct:iF c=t:=by rcases p with⟨rfl,_⟩ | ⟨rfl,_⟩<;>rfl
 have y:∀a∈F,H a=O\/cL Z U a:=λa b=>by
  rcases p with⟨_,n⟩ | ⟨_,n⟩
  ·exact f.pu n a b
  ·rw[n]at f;exact .inl (f.2 a b)
 constructor
 ·refine s.put C (by rw[ct];exact r) (λj x n g w q=>q.same e) (λu d=>?_) (λu d j x n g a b=>?_) λj u n g a b D=>?_
  ·rcases p with⟨h,_⟩ | ⟨_,h⟩
   ·rw[h]at d;cases d
   ·rw[h]at f;exact f.1
  ·rcases p with⟨h,_⟩ | ⟨_,h⟩
   ·rw[h]at d;cases d
   ·rw[h]at f;exact IH (f.2 a b) j x g
  ·rcases y a D with z | z
   ·exact IH z j _ g b
   ·exact s.MJ ⟨j,u,g,b⟩ z
 ·refine⟨λa o h n=>⟨e a o h,λz=>?_⟩,λa h z=>h (e.free z),λa h=>?_,λa h=>?_,Kept.of e⟩
  ·rcases kc z with⟨u,d,b⟩ | z
   ·rcases p with⟨l,_⟩ | ⟨_,l⟩
    ·rw[l]at d;cases d
    ·rw[l]at f;rw[f.2 a b]at h;cases h
   ·exact n z
  ·rcases kc h with⟨u,d,b⟩ | z
   ·rcases p with⟨l,_⟩ | ⟨_,l⟩
    ·rw[l]at d;cases d
    ·rw[l]at f;exact .inr (f.2 a b)
   ·exact .inl z
  ·rcases qk h with⟨u,d,b⟩ | z
   ·exact(y a b).elim (λz=>.inr (.inr z)) .inl
   ·exact .inl z
def dN{pos:Pos}(he:PV G X e ce)(q:X.N.Nodup)(n:{`q1,X.N[i]?=Y x})(g:{`q5,Loc X.env.scope x})(h:{`q1,swapsWith e (Y (.Name x a)) pos.line X.env=pure B})(p:{`q6,X.fn x=L\/X.env.scope.names.lookup x=Y .local}) :
  PSV G X (.Assign [.Name x a] e pos) (ip i ce):=PS.weak (lj q n g he h p) λD J H j=>by
 obtain⟨Z,U,o,s,e,k⟩:=j;unfold ip at e;obtain⟨⟨m,t⟩,u,e1⟩:=Zz.mp e;obtain⟨c,eC,e2⟩:=Zz.mp e1;split at e2
 ·rename_i l;cases e2;refine⟨Z,U,m,t,s,u,λv w F e3 b r=>?_⟩;obtain⟨f,d⟩:=s.val (c:=c) l e3 b r (by
   unfold cellOf at eC;cases m with
   |fr =>
    simp only[Option.some.injEq]at eC;split at eC
    ·exact .inr ⟨eC.symm,rfl⟩
    ·exact .inl ⟨eC.symm,by decide⟩
   |pu=>cases eC;exact .inl ⟨rfl,by decide⟩
   |bo=>cases eC)
  exact k _ _ w f d
 ·cases e2
def aD{pos:Pos}(he:PV G X e ce)(r:X.N.Nodup)(p:{`q1,X.N[i]?=Y x})(g:{`q5,Loc X.env.scope x})(h:{`q1,swapsWith e (Y (.Name x a)) pos.line X.env=pure B})(q:{`q6,X.fn x=L\/X.env.scope.names.lookup x=Y .local}) :
  PSV G X (.Assign [.Name x a] e pos) (aI i ce):=PS.weak (lj r p g he h q) λD J H j=>by
 obtain⟨Z,U,o,s,e,k⟩:=j;unfold aI at e;obtain⟨⟨m,t⟩,w,e1⟩:=Zz.mp e;split at e1
 ·cases e1
 ·rename_i l;split at e1
  ·rename_i n;cases e1;refine⟨Z,U,m,t,s,w,λv y F e3 b u=>?_⟩;obtain⟨f,d⟩:=s.val (c:=.pu t) n e3 b u (.inl ⟨rfl,l⟩);exact k _ _ y f d
  ·cases e1
def SR.frz(s:SR G Z U J H)(h:U[i]?=Y (Y (.ow t))):SR G Z (U.set i (Y (.pu t))) J H/\IE Z U H Z (U.set i (Y (.pu t))) H:=by
 have back:∀{j c},(U.set i (Y (.pu t)))[j]?=Y (Y c)->∃l,U[j]?=Y (Y l)/\iF l=iF c/\∀u,c=.ow u->l=.ow u:=λ{j c} g=>by
  rcases iy g with⟨rfl,rfl⟩ | ⟨n,g⟩
  ·exact⟨.ow t,h,rfl,λu p=>nomatch p⟩
  ·exact⟨c,g,rfl,λu p=>p⟩
 refine⟨⟨by rw[Yg];exact s.len,λj c g=>?_,λj u g=>?_,λj k u c b d n=>?_⟩,⟨λa o r n=>⟨r,λ⟨j,u,b,d⟩=>?_⟩,λ_ h=>h,λa ⟨j,u,b,d⟩=>?_,λa ⟨j,u,b,d⟩=>?_,Kept.refl H⟩⟩
 ·obtain⟨l,b,d,_⟩:=back g;obtain⟨v,f,x⟩:=s.rp j l b;exact⟨v,f,by rw[← d];exact x⟩
 ·obtain⟨l,b,_,w⟩:=back g;rw[w u M]at b;exact s.nd j u b
 ·obtain⟨c1,f,_,m⟩:=back b;obtain⟨c2,q,_,_⟩:=back d;rw[m u M]at f;exact s.sep j k u c2 f q n
 ·obtain⟨c1,f,_,m⟩:=back b;rw[m u M]at f;exact n ⟨j,u,f,d⟩
 ·obtain⟨c1,f,_,m⟩:=back b;rw[m u M]at f;exact .inl ⟨j,u,f,d⟩
 ·rcases iy b with⟨rfl,_⟩ | ⟨n,b⟩
  ·exact .inr (.inl ⟨j,t,h,d⟩)
  ·exact .inl ⟨j,u,b,d⟩
def ji(i:Nat)(h:gE G X PM c):gE G X PM (ak (sS i) c):=Kp.weak h λD J H f=>by
 obtain⟨Z,U,o,s,e,k⟩:=f;unfold ak at e;obtain⟨g,e1,e2⟩:=Zz.mp e;unfold sS at e1;split at e1
 ·rename_i t d;cases e1;obtain⟨b,a⟩:=s.frz d;exact⟨Z,_,o,b,e2,k.back a⟩
 ·cases e1;exact⟨Z,U,o,s,e2,k⟩
 ·cases e1
end
section
variable{st:Stmt}
structure Chg(G:Gx)(H:Hp)(v:V)(F:Wp)(t':T)(H2:Hp)(F':Wp):Prop where
 kept:Kept H H2
 keep:∀b o,b∉F->H b=some o->H2 b=some o
 IH:∀b,H b≠none->H2 b≠none
 rp:Rp G H2 v t' F'
 nd:F'.Nodup
 sub:∀a∈F',a∈F\/H a=none
def SR.mut(s:SR G Z U J H)(m:U[i]?=Y (Y (.ow t)))(A:J[i]?=Y (Y v))(g:Chg G H v (Z i) r x p) :
  SR G (ma Z i p) (U.set i (Y (.ow r))) J x/\IE Z U H (ma Z i p) (U.set i (Y (.ow r))) x:=by
 have D:i<U.length:=(ZW.mp m).1;have off:∀j d,j≠i->U[j]?=Y (Y d)->∀a∈Z j,a∉Z i:=λj d n f a b l=>s.sep i j t d m f (YH n) a l b;have es:J.set i (Y v)=J:=by
  obtain⟨h,e⟩:=ZW.mp A;rw[← e];exact Vk h
 have new:∀a∈p,∀j d,j≠i->U[j]?=Y (Y d)->a∉Z j:=λa b j d n f l=>by
  rcases g.sub a b with z | z
  ·exact off j d n f a l z
  ·obtain⟨w,_,q⟩:=s.rp j d f;exact Iy.oe (q.IH a l) z
 constructor
 ·have:=s.put (c:=.ow r) (F:=p) (H':=x) (v:=v) D g.rp (λj d n f w q=>q.keep g.kept λa b o C=>g.keep a o (off j d n f a b) C) (λ_ _=>g.nd) (λu y j d n f a b=>new a b j d n f) λj u n f a b l=>new a l j _ n f b;rw[es]at this;exact this
 ·refine⟨λa o h n=>⟨g.keep a o (λz=>n ⟨i,t,m,z⟩) h,λz=>?_⟩,g.IH,λa h=>?_,λa h=>?_,g.kept⟩
  ·rcases kc z with⟨u,_,b⟩ | z
   ·rcases g.sub a b with z | z
    ·exact n ⟨i,t,m,z⟩
    ·rw[z]at h;cases h
   ·exact n z
  ·rcases kc h with⟨u,_,b⟩ | z
   ·rcases g.sub a b with z | z
    ·exact .inl ⟨i,t,m,z⟩
    ·exact .inr z
   ·exact .inl z
  ·rcases qk h with⟨u,y,b⟩ | z
   ·cases y
   ·exact .inl z
def vU(G:Gx)(r:V->List V->Hp->VK->Prop)(f:T->Uv->Option (T×Val)):Prop:=∀(Z:Iw)(U:VS.Env)(H g:Hp)(v:V)(t b:T)(F:Wp)(l:Uv)(a:List V)(h:Xz)(x:Val)(Q:VK),
 Rp G H v t F->F.Nodup->Args G Z U H g l a h->f t l=Y (b,x)->(∀u d i,Chg G H v F b d i->Q u d)->r v a g Q
def rz{pos:Pos}{b:Pos}(i:Nat)(pa:PlainAttrs q)(h:Slot q a m)(OJ:typeOf (.builtin m)=pure (.type "method_descriptor"))(hm:O9 X m r)(ok:vU G r f)(hT:∀H v t F l z,Rp G H v t F->f t l=Y z->Nu G.K q v H)(ha:Jz G X (e :: es) cs)(hK:{`q1,X.K=G.K})(hN:{`q1,X.N[i]?=Y x})(hv:{`q4,Kf X.env.scope x})(hd:{`q0,K3 x})(p:{`q0,K4 x})(IA:{`q1,XAC (.Name x j) a X.env (eval (.Name x j) X.env)=eval (.Name x j) X.env})(IK:{`q1,((backTo d (Pv (e :: es) X.env)).all (λx=>!x.1)&&(backToKw d (SZ [] X.env)).all (λx=>x.1.isSome)
   && decide ((e :: es).length+([]:List Keyword).length+(if ([]:List Keyword).isEmpty then 0 else 1)<30))=L})(Iv:{`q1,(b.endLine==d.line)=L})(hs:{`q1,K1 e es X})(Iu:{`q1,K2 d es X})(Kk:{`q1,swapsWith (.Call (.Attribute (.Name x j) a b) (e :: es) [] d) O pos.line X.env=pure B}) :
  PSV G X (.Expr (.Call (.Attribute (.Name x j) a b) (e :: es) [] d) pos) (sX (j4 i [] f cs)) :=
 PS.weak (ku (o6 pa h OJ hm (d8 hN hv hd p) ha IA IK Iv hs Iu) Kk) λD J H hq=>by
  obtain⟨Z,U,o,s,e,k⟩:=hq;unfold sX j4 at e;obtain⟨⟨w,U'⟩,e1,e2⟩:=Zy.mp e;split at e1
  ·rename_i t n;obtain⟨ks,ek,e3⟩:=Zz.mp e1;cases (show Y ([]:List Ky)=Y ks from ek);obtain⟨l,el,e4⟩:=Zz.mp e3;obtain⟨⟨y,x2⟩,e5,e6⟩:=Zy.mp e4;cases e6;cases e2;obtain⟨v,C,A⟩:=s.rp _ _ n;have E:f t l=Y (y,w):=e5;refine⟨v,C,by rw[hK];exact hT H v t _ l _ A E,Z,U,l,s,el,λR H' Fs q1 q2 S=>?_⟩;refine ok Z U H H' v t y (Z i) l R Fs w _ A (s.nd i t n) ⟨q1,q2,S⟩ E λu H2 F' g=>?_;obtain⟨Q,P⟩:=s.mut n C g;exact k _ J H2 Q P
  ·cases e1
theorem Chg.upd{H:Hp}{t':T}(e:aM H d)(m:a∈F)(l:Iy (d a))(r:Rp G (upd d a o) v t' f)(j:f.Nodup)(g:∀a∈f,a∈F\/H a=O):Chg G H v F t' (upd d a o) f :=
 ⟨(Kept.of e).trans (Kept.upd (.inl l)),λb i hb h=>by rw[aE (λz=>hb (by rw[z];exact m))];exact e b i h,
  λb h z=>by
   by_cases q:b=a
   ·subst q;rw[aw]at z;cases z
   ·rw[aE q]at z;exact h (e.free z),r,j,g⟩
def RpL.off(r:RpL G H f g d)(j:Iy (H a))(h:a∉d.flatten):RpL G (upd H a o) f g d :=
 r.keep (Kept.upd (.inl j)) λb hb l i=>by rw[aE (λz=>h (by rw[← z];exact hb))];exact i
def kD(h:fit v=Y t):v=(.fr,t):=by
 obtain⟨m,x⟩:=v;unfold fit at h;cases m<;>first | (cases h;rfl) | cases h
def lq:vU G qU aV:=by
 intro Z U H j v t R F l q N x Q r nd A e k;unfold aV at e;split at e
 ·rename_i P y;obtain⟨z,D,e1⟩:=Zz.mp e;have E:=kD D;subst E;split at e1
  ·rename_i u;cases e1;obtain⟨a,n,Gs,rfl,rfl,i,g⟩:=r.lst_inv;obtain⟨w,f,rfl,rfl,J⟩:=(show RpL G j q [z] N from A.rp).one;have d:Fp Z U H .fr f:=A.fp.each 0 _ _ M M;have p:j a=Y (.lst n):=A.same a _ i;have h:Iy (j a):=by rw[p];exact True.intro
   have na:a∉Gs.flatten:=(ZY.mp nd).1;have nw:a∉f:=λz=>by rw[d.2 a z]at i;cases i
   refine⟨a,n,w,rfl,rfl,p,by rw[g.len.1];exact u,k _ _ (a :: (Gs++[f]).flatten) ?_⟩;have off:∀b∈Gs.flatten,b∉f:=λb hb hw=>Iy.oe (g.IH b hb) (d.2 b hw);refine Chg.upd A.same Zx h (.lst aw (((g.same A.same).off h na).append (.cons (J.keep (Kept.upd (.inl h)) λb hb o s=>by rw[aE (λz=>nw (by rw[← z];exact hb))];exact s) .nil))) ?_ ?_
   ·rw[Yo];refine ZY.mpr ⟨λm=>?_,ZG.mpr ⟨(ZY.mp nd).2,by simpa using d.1,λb hb c C z=>?_⟩⟩
    ·rcases Zi.mp m with m | m
     ·exact na m
     ·exact nw (by simpa using m)
    ·subst z;exact off b hb (by simpa using C)
   ·intro b hb;rcases Zj.mp hb with rfl | hb
    ·exact .inl Zx
    ·rw[Yo]at hb;rcases Zi.mp hb with hb | hb
     ·exact .inl (Zv _ hb)
     ·exact .inr (d.2 b (by simpa using hb))
  ·cases e1
 ·cases e
def nP(r:Rp G H v (.lst b) F):Nu G.K "list" v H:=by
 obtain⟨a,f,Gs,rfl,rfl,d,g⟩:=r.lst_inv;exact .inl ⟨rfl,_,IF.of d⟩
def l9(r:Rp G H v t F)(h:aV t l=Y z):Nu G.K "list" v H:=by
 unfold aV at h;split at h
 ·exact nP r
 ·cases h
def sW(r:Rp G H v t F)(h:cN t l=Y z):Nu G.K "list" v H:=by
 unfold cN at h;split at h
 ·exact nP r
 ·cases h
def xm:vU G vJ cN:=by
 intro Z U H o v t t' F l D S x Q r nd A e k;unfold cN at e;split at e
 ·rename_i ts y;obtain⟨z,N,e1⟩:=Zz.mp e;have P:=kD N;subst P;split at e1
  ·rename_i _ C;split at e1
   ·rename_i E;cases e1;obtain⟨a,p,Gs,rfl,rfl,j,h⟩:=r.lst_inv;obtain⟨w,u,rfl,rfl,R⟩:=(show RpL G o D [.lst C] S from A.rp).one;have g:Fp Z U H .fr u:=A.fp.each 0 _ _ M M;have s:o a=Y (.lst p):=A.same a _ j;have i:Iy (o a):=by rw[s];exact True.intro
    have na:a∉Gs.flatten:=(ZY.mp nd).1;have nw:a∉u:=λz=>by rw[g.2 a z]at j;cases j
    obtain⟨b,ws,n,rfl,rfl,hb,q⟩:=R.lst_inv;have nb:a∉n.flatten:=λm=>nw (Zv _ m);refine⟨a,b,p,ws,rfl,rfl,s,hb,by rw[h.len.1,q.len.1];exact E,k _ _ (a :: (Gs++n).flatten) ?_⟩;have off:∀f∈Gs.flatten,f∉n.flatten:=λf d hw=>Iy.oe (h.IH f d) (g.2 f (Zv _ hw));refine Chg.upd A.same Zx i (.lst aw (((h.same A.same).off i na).append (q.off i nb))) ?_ ?_
    ·rw[Yo];refine ZY.mpr ⟨λm=>?_,ZG.mpr ⟨(ZY.mp nd).2,(ZY.mp g.1).2,λb hb c J z=>?_⟩⟩
     ·rcases Zi.mp m with m | m
      ·exact na m
      ·exact nb m
     ·subst z;exact off b hb J
    ·intro f d;rcases Zj.mp d with rfl | d
     ·exact .inl Zx
     ·rw[Yo]at d;rcases Zi.mp d with d | d
      ·exact .inl (Zv _ d)
      ·exact .inr (g.2 f (Zv _ d))
   ·cases e1
  ·cases e1
 ·cases e
end
structure Mc(G:Gx)(Jq:It)(l:Ut)(C:Wp)(H:Hp):Prop where
 run:∀H2,Kept H H2->(∀a∈C,∀o,H a=some o->H2 a=some o) →
  (∀(i:Nat)(t:T),l[i]?=some t->Jq.go i H2/\∀x H3,Jq.RO i H2 x H3->aM H2 H3/\∃F,Rp G H3 x t F/\∀a∈F,a∈C\/H2 a=none)/\∀(i:Nat),l.length<=i->Jq.stop i H2
 IH:∀a∈C,H a≠none
def FpC(Z:Iw)(U:VS.Env)(H:Hp)(m:Md)(C:Wp):Prop:=∀a∈C,H a=O\/cL Z U a\/(m=.bo/\bB Z U a)
theorem Fp.c{U:VS.Env}{F:Wp}:∀{m:Md},Fp Z U H m F->FpC Z U H m F
 |.fr,f=>λa b=>.inl (f.2 a b)
 |.pu,f=>λa b=>(f a b).imp id .inl
 |.bo,f=>λa b=>(f a b).imp id λz=>z.imp id λz=>⟨rfl,z⟩
def tI(G:Gx)(c:Ln):TI:=λJ H R=>∃Z U m l,SR G Z U J H/\c U=Y (m,l)/\∀b a C,aM H a->Mc G b l C a->FpC Z U H m C->R b a
def PVI(G:Gx)(X:Cx)(b a:Expr)(c:Ln):Prop:=PI X b a (tI G c)
def PI.weak{X:Cx}{t:TI}(h:PI X b e t)(w:∀J H Q,d J H Q->t J H Q):PI X b e d:=λa s J H Q I q=>h a s J H Q I (w J H Q q)
section
def rT(H:Hp)(d:Int)(n:Nat):Mc G (SD d n) (rng d n) [] H:=by
 refine⟨λo _ _=>⟨λi t h=>?_,λi h=>(by simpa[rng] using h:n<=i)⟩,λa h=>by simp at h⟩;unfold rng at h;rw[ZP]at h;obtain⟨k,g,e⟩:=Zy.mp h;obtain⟨f,e2⟩:=ZW.mp g;rw[ZC]at f;have j:i=k:=by simpa using e2
 subst j;refine⟨f,λx m ⟨e3,l⟩=>?_⟩;subst e3;subst l;rw[← e];exact⟨aM.refl _,[],.int _,λa h=>by simp at h⟩
def eO(u:PV G X a ca)(t:Gl X "range")(r:X.mg "range" = O)(o:{`q1,K1 a [] X})(y:{`q1,Pv [a] X.env=[(B,eval a X.env)]}):PVI G X tg (.Call (.Name "range" p) [a] [] pos) (b6 ca) :=
 PI.weak (lM t r (df u ft o) y) λJ H R q=>by
  obtain⟨Z,U,m,l,s,e,k⟩:=q;unfold b6 at e;obtain⟨⟨n,x⟩,w,e1⟩:=Zz.mp e;obtain⟨j,f,e2⟩:=Zz.mp e1;split at e2
  ·rename_i d;cases e2;refine⟨Z,U,n,x,s,w,λv g F e3 i A=>?_⟩;cases x with
   |int z =>
    cases f;refine⟨j,by rw[i.int_inv],?_,?_,k _ g [] e3 (rT g 0 j.toNat) λa h=>by simp at h⟩
    ·have:=d.1;unfold NV at this;lia
    ·have:=d.2;unfold NV at this;lia
   |_=>cases f
  ·cases e2
def cW{d:Xz}{i:Nat}{F:Wp}(h:d[i]?=Y F){a:KM}(f:a∈F):a∈d.flatten:=(cn h).subset f
def BL{a:KM}(K:X0)(l:H a=Y (.lst d))(r:RpL G H d f j):Mc G (VN K a) f (a :: j.flatten) H:=by
 refine⟨λn k c=>?_,λb hb=>?_⟩
 ·have g:n a=Y (.lst d):=c a Zx _ l;have r2:RpL G n d f j:=r.keep k λb hb o q=>c b (Zv _ hb) o q;refine⟨λi t h=>?_,λi h=>⟨d,IF.of g,by rw[r.len.1];exact h⟩⟩;obtain⟨v,F,m,u,s⟩:=r2.get i h;refine⟨⟨d,v,IF.of g,m⟩,λx w ⟨e1,e2⟩=>?_⟩;subst e1;have ex:=e2 d (IF.of g);rw[m]at ex;cases ex;exact⟨aM.refl _,F,s,λb hb=>.inl (Zv _ (cW u hb))⟩
 ·rcases Zj.mp hb with rfl | hb
  ·rw[l];exact λz=>nomatch z
  ·exact Iy.oe (r.IH b hb)
def DO{a:KM}(K:X0)(q:H a=Y (.tup d))(r:RpL G H d f j):Mc G (U9 K a) f j.flatten H:=by
 refine⟨λm k c=>?_,λb hb=>Iy.oe (r.IH b hb)⟩;have g:m a=Y (.tup d):=k.tup a _ q;have r2:RpL G m d f j:=r.keep k λb hb o n=>c b hb o n;refine⟨λi t h=>?_,λi h=>⟨d,Jt.of g,by rw[r.len.1];exact h⟩⟩;obtain⟨v,F,l,u,s⟩:=r2.get i h;refine⟨⟨d,v,Jt.of g,l⟩,λx w ⟨e1,e2⟩=>?_⟩;subst e1;have ex:=e2 d (Jt.of g);rw[l]at ex;cases ex;exact⟨aM.refl _,F,s,λb hb=>.inl (cW u hb)⟩
def tG(G:Gx)(g:Tg):TG:=λv J H Q=>∃Z U t F d,SR G Z U J H/\Rp G H v t F/\(∀a∈F,¬bB Z U a)/\g t U=Y d ∧
 ∀f h,SR G f d h H->(∀a,bB f d a->bB Z U a)->(∀a,cL f d a->cL Z U a\/a∈F)->Q h H
def tGs(G:Gx)(l:List Tg):NQ:=λj J H Q=>∃Z U h g d,SR G Z U J H/\RpL G H j h g/\(∀a∈g.flatten,¬bB Z U a)/\zq l h U=Y d ∧
 ∀f i,SR G f d i H->(∀a,bB f d a->bB Z U a)->(∀a,cL f d a->cL Z U a\/a∈g.flatten)->Q i H
def NR(G:Gx)(X:Cx)(e:Expr)(g:Tg):Prop:=PG X e (tG G g)
def BV(G:Gx)(X:Cx)(e:List Expr)(g:List Tg):Prop:=Nq X e (tGs G g)
def PG.weak{X:Cx}{e:Expr}{t f:TG}(h:PG X e t)(w:∀v J H Q,f v J H Q->t v J H Q):PG X e f:=λd s J H v u Q I r q=>h d s J H v u Q I r (w v J H Q q)
def Nq.weak{X:Cx}{e:List Expr}{t f:NQ}(h:Nq X e t)(w:∀v J H Q,f v J H Q->t v J H Q):Nq X e f:=λd s J H v u Q I r q=>h d s J H v u Q I r (w v J H Q q)
def aP{X:Cx}(i:Nat)(C:X.N.Nodup)(y:{`q1,X.N[i]?=Y x})(l:{`q5,Loc X.env.scope x})(A:X.fn x=L\/X.env.scope.names.lookup x=Y .local:=by first | exact .inl M | exact .inr rfl):NR G X (.Name x pos) (aY i):=PG.weak (vd C y l A) λv J H Q m=>by
 obtain⟨Z,U,t,F,P,s,r,no,e,k⟩:=m;unfold aY at e;split at e
 ·rename_i o;cases e;refine k (ma Z i F) (J.set i (Y v)) (s.put (c:=.pu t) o r (λj E n g w q=>q) (λu d=>nomatch d) (λu d=>nomatch d) λj u n g a f D=>no a D ⟨j,u,g,f⟩) (λa h=>?_) λa h=>?_
  ·rcases kc h with⟨u,d,_⟩ | z
   ·cases d
   ·exact z
  ·rcases qk h with⟨u,d,f⟩ | z
   ·exact .inr f
   ·exact .inl z
 ·cases e
def yZ:BV G X [] []:=Nq.weak Ci λv J H Q f=>by
 obtain⟨Z,U,g,i,d,s,r,no,e,k⟩:=f;cases r with
 |nil =>
  cases (show Y U=Y d from e);exact⟨rfl,k Z J s (λ_ h=>h) λ_ h=>.inl h⟩
 |cons r q=>cases (show (O:Option VS.Env)=Y d from e)
def pH(y:NR G X e g)(x:BV G X es i)(u:{`q1,(assignEach (e :: es) X.env).map (·.2)=assign e X.env :: (assignEach es X.env).map (·.2)}):BV G X (e :: es) (g :: i) :=
 Nq.weak (Ac y x u) λv J H Q w=>by
  obtain⟨Z,U,F,Fs,l,s,r,no,e,k⟩:=w;cases r with
  |nil=>cases (show (O:Option VS.Env)=Y l from e)
  |cons r q =>
   rename_i E M F' N P R;obtain⟨j,e1,e2⟩:=Zz.mp e;refine⟨_,_,rfl,Z,U,_,_,j,s,r,λa d=>no a (by rw[ZI];exact LH _ d),e1,λC S s1 f o=>?_⟩;refine⟨C,j,_,_,l,s1,q,λa d z=>no a (by rw[ZI];exact ZX _ d) (f a z),e2,λA D m t n=>k A D m (λa h=>f a (t a h)) λa h=>?_⟩;rcases n a h with h | h
   ·rcases o a h with h | h
    ·exact .inl h
    ·exact .inr (by rw[ZI];exact LH _ h)
   ·exact .inr (by rw[ZI];exact ZX _ h)
theorem rC:∀{i:List Tg}{f:Ut}{U d:VS.Env},zq i f U=Y d->f.length=i.length
 |[],[],_,_,_=>rfl
 |[],_ :: _,_,_,h=>nomatch h
 |_ :: _,[],_,_,h=>nomatch h
 |g :: i,t :: f,U,d,h=>by
  obtain⟨j,_,e2⟩:=Zz.mp (show (g t U).bind (λd=>zq i f d)=Y d from h);simp[rC e2]
def Cu{X:Cx}(m:X.calm=L)(h:BV G X es d)(j:{`q1,(assignEach es X.env).length=d.length})(w:{`q1,(assignEach es X.env).findIdx? (·.1)=O})(z:{`q1,X.K=G.K}):NR G X (.Tuple es k pos) (xf d) :=
 PG.weak (Fl (n:=d.length) m h j w) λv J H Q i=>by
  obtain⟨Z,U,t,F,u,s,r,no,e,q⟩:=i;unfold xf at e;split at e
  ·rename_i l;obtain⟨o,g,y,rfl,rfl,x,f⟩:=r.Jn;exact⟨o,g,rfl,Jt.of x,by rw[f.len.1];exact rC e,Z,U,l,y,u,s,f,no,e,q⟩
  ·cases e
def o7{tgt:Tg}{body:Sx}{l:Ut}{U:VS.Env}(h:l[i]?=Y t):l.drop i=t :: l.drop (i+1):=by
 obtain⟨d,e⟩:=ZW.mp h;rw[← e];exact YK d
def zJ{g:Tg}{cb:Sx}(hq:tS G (gU g ci cb) D J H):GW (tI G ci) (tG G g) (tS G cb) D J H:=by
 obtain⟨Z,U,o,s,e,k⟩:=hq;unfold gU at e;obtain⟨⟨m,l⟩,el,e1⟩:=Zz.mp e;dsimp only at e1;split at e1
 ·rename_i hm;have JH:m ≠ .bo:=λz=>by rw[z]at hm;cases hm
  refine⟨Z,U,m,l,s,el,λJq R C e2 ok fc=>?_⟩;have cno:∀a∈C,¬bB Z U a:=λa A z=>by
   rcases fc a A with q | q | q
   ·exact Iy.oe (s.Jd z) q
   ·exact s.MJ z q
   ·exact JH q.1
  refine⟨λi n J2 Q=>n=l.length-i/\∃P d,SR G P d J2 Q/\IE Z U H P d Q/\Kept R Q/\(∀a∈C,∀o,R a=Y o->Q a=Y o/\¬bB P d a)/\forL g cb (l.drop i) d=Y o,
   ⟨l.length-0,rfl,Z,U,s.same e2,IE.same e2,Kept.refl _,λa A y E=>⟨E,cno a A⟩,by rw[We];exact e1⟩,?_⟩
  rintro i n J2 Q ⟨rfl,P,d,s2,f2,kp,con,e3⟩;obtain⟨go,stop⟩:=ok.run Q kp λa A y E=>(con a A y E).1;cases hit:l[i]? with
  |none =>
   have hl:l.length<=i:=YL.mp hit;left;rw[XQ hl]at e3;cases (show Y (Out.nx d)=Y o from e3);exact⟨stop i hl,k P J2 Q s2 f2⟩
  |some t =>
   have hl:i<l.length:=(ZW.mp hit).1;right;obtain⟨g1,y1⟩:=go i t hit;rw[o7 (tgt:=g) (body:=cb) (U:=d) hit]at e3;obtain⟨U3,e4,e5⟩:=Zz.mp (show (g t d).bind (λU1=>(cb U1).bind λo=>match o with
    |.nx d=>forL g cb (l.drop (i+1)) d
    |.ct d=>forL g cb (l.drop (i+1)) d
    |.bk d=>Y (.nx d)
    |.rt v d=>Y (.rt v d))=Y o from e3)
   obtain⟨y,e6,e7⟩:=Zz.mp e5;refine⟨g1,λM r=>∃j f,SR G j f M r/\IE Z U H j f r/\Kept R r/\(∀a∈C,∀o,R a=Y o->r a=Y o/\¬bB j f a)/\forL g cb (l.drop (i+1)) f=Y o,λM r ⟨j,f,q⟩=>⟨l.length-(i+1),by omega,rfl,j,f,q⟩,λx H3 yl=>?_⟩;obtain⟨S,F,rF,hF⟩:=y1 x H3 yl;have s3:=s2.same S;have noF:∀a∈F,¬bB P d a:=λa A z=>by
    rcases hF a A with q | q
    ·have Js:=ok.IH a q;cases E:R a with
     |none=>exact Js E
     |some o''=>exact(con a q o'' E).2 z
    ·exact Iy.oe (s2.Jd z) q
   refine⟨P,d,t,F,U3,s3,rF,noF,e4,λZ3 J3 s4 o3 p3=>?_⟩;have f3:IE Z U H Z3 U3 H3:=⟨λa y h n=>let ⟨h1,n1⟩:=f2.keep a y h n;⟨S a y h1,λz=>n1 (o3 a z)⟩,λa h z=>f2.IH a h (S.free z),λa h=>f2.ow a (o3 a h),λa h=>by
    rcases p3 a h with h | h
    ·exact f2.pu a h
    ·rcases hF a h with q | q
     ·rcases fc a q with q | q | q
      ·exact .inr (.inr q)
      ·exact .inl q
      ·exact .inr (.inl q.2)
     ·exact .inr (.inr (f2.none q)),f2.kept.trans (Kept.of S)⟩
   have next:∀{j f r},IE Z3 U3 H3 j f r->Kept R r/\∀a∈C,∀o,R a=Y o->r a=Y o/\¬bB j f a:=λw =>
    ⟨(kp.trans (Kept.of S)).trans w.kept,λa A y E=>by
     obtain⟨h1,n1⟩:=con a A y E;exact w.keep a y (S a y h1) λz=>n1 (o3 a z)⟩
   refine⟨Z3,U3,y,s4,e6,?_⟩;cases y with
   |nx f=>exact λj M r N w=>⟨j,f,N,f3.trans w,(next w).1,(next w).2,e7⟩
   |ct f=>exact λj M r N w=>⟨j,f,N,f3.trans w,(next w).1,(next w).2,e7⟩
   |bk f =>
    cases (show Y (Out.nx f)=Y o from e7);exact λj M r N w=>k j M r N (f3.trans w)
   |rt v f =>
    cases (show Y (Out.rt v f)=Y o from e7);exact λu r F4 j M N w r5 q5=>k u r F4 j M N (f3.trans w) r5 (q5.back f3)
 ·cases e1
def eQ{X:Cx}(m:PassesOwn `ay X.A X.env X.xe)(q:X.calm=L)(n:PVI G X tg d h)(o:NR G X tg g)(r:gE G X f i)(j:{`q2,∀x,XAD d X.env x=pure x}):PSV G X (.For tg d f [] pos) (gU g h i):=PS.weak (zv m q n o r j) λD J H l=>zJ l
end
noncomputable def HP(H:Hp)(b:Xz):Md->Wp->Prop
 |.fr,F=>F.Nodup/\∀a∈F,H a=O
 |_,F=>∀a∈F,H a=O\/a∈b.flatten
def KO(G:Gx)(g:Fn):Sp:=λe H Q _=>∃b d m r,RpL G H e b d/\g b=Y (m,r)/\∀v a F,aM H a->Rp G a v r F->HP H d m F->Q v a
section
def call_of(h:tE G (cP g cs) J H Q):Dp (KO G g) [] E (PL G cs) J H Q:=by
 obtain⟨Z,U,m,t,s,e,u⟩:=h;unfold cP at e;obtain⟨l,S,e1⟩:=Zz.mp e;obtain⟨⟨n,r⟩,R,e2⟩:=Zz.mp e1;refine⟨Z,U,l,s,S,λM y D b P N=>?_⟩;have A:Args G Z U H y l M D:=⟨b,P,N⟩
 have i:=N.join A.len;show KO G g (M++[]) y Q E;rw[ZE];refine⟨trees l,D,n,r,P,R,λv C F q o j=>?_⟩;have wide:(∀a∈F,y a=O\/a∈D.flatten)->Fp Z U H ((Md.pu).join (cu l)) F:=λh=>by
  cases w:cu l with
  |fr =>
   rw[w]at i;exact λa d=>.inl ((h a d).elim b.free (i.2 a))
  |pu =>
   rw[w]at i;exact λa d=>(h a d).elim (λz=>.inl (b.free z)) (i a)
  |bo =>
   rw[w]at i;exact λa d=>(h a d).elim (λz=>.inl (b.free z)) (i a)
 cases n with
 |fr =>
  cases e2;exact u v C F (b.trans q) o ⟨j.1,λa d=>b.free (j.2 a d)⟩
 |pu =>
  cases e2;exact u v C F (b.trans q) o (wide j)
 |bo =>
  cases e2;exact u v C F (b.trans q) o (wide j)
def CT{X:Cx}(F:FnOk X.prog X.w X.K X.mg X.base Jk k f fd ps (KO G g))(b:Im k X.A)(j:Gl X x)(d:X.mg x=Y (.ref f))(i:PySem.W.keepIn X.K (.ref f)=L)(l:Binds X.K fd ps [])(m:Jz G X (e :: es) cs)(n:{`q0,K3 x})(he:{`q1,K1 e es X})(a:{`q1,K2 pos es X}) :
  PV G X (.Call (.Name x p) (e :: es) [] pos) (cP g cs) :=
 PE.weak (vI F b j d i l .nil oW m n he a) λJ H Q h=>call_of h
def zN(r:RpL G H d a m)(n o:Nat)(w:o=d.length):SR G (λi=>m.getD i []) (a.map (λt=>Y (.pu t))++List.replicate (n-a.length) O) (d.map Y++List.replicate (n-o) O) H:=by
 subst w;have A:=r.len;have back:∀{i:Nat}{c:Cell},(a.map (λt=>Y (Cell.pu t))++List.replicate (n-a.length) O)[i]?=Y (Y c)->∃t,a[i]?=Y t/\c=.pu t:=λ{i c} h=>by
  by_cases q:i<a.length
  ·rw[Mu (by rw[Zt];exact q),ZP]at h;obtain⟨t,l,b⟩:=Zy.mp h;exact⟨t,l,(Zh b).symm⟩
  ·rw[Mv (by rw[Zt];exact ZK q),Xr]at h;split at h<;>cases h
 refine⟨by simp;lia,λi c h=>?_,λi t h=>?_,λi j t c h=>?_⟩
 ·obtain⟨t,l,rfl⟩:=back h;obtain⟨v,F,s,z,y⟩:=r.get i l;refine⟨v,?_,?_⟩
  ·have:i<d.length:=(ZW.mp s).1;rw[Mu (by rw[Zt];exact this),ZP,s];rfl
  ·show Rp G H v t (m.getD i []);rw[Zr,z];exact y
 ·obtain⟨u,_,b⟩:=back h;cases b
 ·obtain⟨u,_,b⟩:=back h;cases b
def jg{b:Ut}:¬bB Z (b.map (λt=>Y (Cell.pu t))++List.replicate n O) a:=by
 rintro⟨i,t,h,_⟩;by_cases d:i<b.length
 ·rw[Mu (by rw[Zt];exact d),ZP]at h;obtain⟨l,_,j⟩:=Zy.mp h;cases j
 ·rw[Mv (by rw[Zt];exact ZK d),Xr]at h;split at h<;>cases h
def tm{H:Hp}{vs:List V}{j:Ut}{d:Xz}(h:cL (λi=>d.getD i []) (j.map (λt=>Y (Cell.pu t))++List.replicate n O) a):a∈d.flatten:=by
 obtain⟨i,t,_,b⟩:=h;simp only[Zr]at b;cases e:d[i]? with
 |none=>rw[e]at b;simp at b
 |some F=>rw[e]at b;exact cW e b
end
section
variable{K:X0}
def E8{d:List Str}(g:d.length=e)(h:KO G (fn e f c) b H Q E):b.length=d.length:=by
 obtain⟨l,n,m,r,j,a,_⟩:=h;unfold fn at a;split at a
 ·rename_i i;rw[j.len.1,i,g]
 ·cases a
def Ef{N:List Str}(s:N.length=f)(h:KO G (fn p f c) vs H Q E):tS G c { nx:=λ_ d=>Q .non d,rt:=Q } (L2.start N vs) H:=by
 obtain⟨D,F,m,r,x,g,q⟩:=h;unfold fn at g;split at g
 ·rename_i t;obtain⟨o,e1,e2⟩:=Zz.mp g;have j:=zN x f vs.length M;rw[t]at j;have e3:L2.start N vs=vs.map Y++List.replicate (f-vs.length) O:=by
   unfold L2.start;rw[s]
  rw[e3];refine⟨_,_,o,j,e1,?_⟩;cases o with
  |nx i =>
   cases e2;intro y A d l fr;exact q .non d [] (λa o h=>(fr.keep a o h jg).1) .non ⟨Yt,λa h=>by simp at h⟩
  |rt v i =>
   cases e2;intro u d C y A l fr n e;refine q u d C (λa o h=>(fr.keep a o h jg).1) n ?_;cases m with
   |fr=>exact⟨e.1,λa b=>(e.2 a b).elim id λz=>absurd z jg⟩
   |pu=>exact λa b=>(e a b).elim .inl λz=>z.elim (λz=>.inr (tm (H:=H) (vs:=vs) z)) λz=>absurd z jg
   |bo=>exact λa b=>(e a b).elim .inl λz=>z.elim (λz=>.inr (tm (H:=H) (vs:=vs) z)) λz=>absurd z jg
  |bk i=>cases e2
  |ct i=>cases e2
 ·cases g
def UE(F:IP K x a b f j)(S:Il N e (aq b))(n:e.length=g)(o:N.length=i)(p:∀(d:On)(A:SC)(outer:List PySem.Env)(s:IR)(H:Hp)(E:XK),Im k (A.deeper (envOfC a (aq b) s.heap.objs.size f d))->gE G (jC Jk P w K mg base N a (aq b) f d A outer s H E).LP (bq b) c) :
  FnOk P w K mg base Jk (k+1) f j e (KO G (fn g i c)) :=
 F.ok S (λl H Q E h=>E8 n h) λd A outer s H l Q E m h=>⟨_,p d A outer s H E m,Ef o h⟩
end
end VS
end
section
namespace L2
open PySem PySem.Spec PyProof.Rows
theorem kY(b:Env):∀(l:List (Str×NameKind))(acc:List (Str×KM)),(∀y∈l,y.2=.free->∃c,b.cells.lookup y.1=Y c)->(∀x c,acc.lookup x=Y c->b.cells.lookup x=Y c) →
  ∃cl,(forIn l acc (λx r=>if (x.snd==NameKind.free)=L then (do let a ← cellOf b x.fst;pure (ForInStep.yield ((x.fst,a) :: r))) else pure (ForInStep.yield r)):Sem (List (Str×KM)))=pure cl ∧
   (∀x c,cl.lookup x=Y c->b.cells.lookup x=Y c)/\(∀x c,acc.lookup x=Y c->∃e,cl.lookup x=Y e)/\∀y∈l,y.2=.free->∃c,cl.lookup y.1=Y c
 |[],acc,_,i=>⟨acc,rfl,i,λx c h=>⟨c,h⟩,λy d=>nomatch d⟩
 | (n,k) :: l,acc,o,i=>by
  by_cases m:k=.free
  ·subst m;obtain⟨c,p⟩:=o (n,.free) Zx M;have u:cellOf b n=pure c:=by unfold cellOf;dsimp only at p;rw[p]
   have v:∀x e,((n,c) :: acc).lookup x=Y e->b.cells.lookup x=Y e:=λx e h=>by
    rw[YO]at h;split at h
    ·rename_i g;have:x=n:=by simpa using g
     rw[this,← h];exact p
    ·exact i x e h
   obtain⟨cl,t,s,f,q⟩:=kY b l ((n,c) :: acc) (λy d=>o y (Zv _ d)) v;refine⟨cl,?_,s,λx e h=>?_,λy d j=>?_⟩
   ·rw[Wx];dsimp only;rw[Zo (show (NameKind.free==NameKind.free)=L from rfl),u,pure_bind,pure_bind];exact t
   ·by_cases g:x=n
    ·exact f x c (by rw[YO,g];simp)
    ·refine f x e ?_;rw[YO];have:(x==n)=B:=by simpa using g
     rw[this];exact h
   ·rcases Zj.mp d with rfl | d
    ·exact f n c (by rw[YO];simp)
    ·exact q y d j
  ·obtain⟨cl,t,s,f,q⟩:=kY b l acc (λy d=>o y (Zv _ d)) i;refine⟨cl,?_,s,f,λy d j=>?_⟩
   ·rw[Wx];dsimp only;rw[Zl (by simpa using m),pure_bind];exact t
   ·rcases Zj.mp d with rfl | d
    ·exact absurd j m
    ·exact q y d j
def Cj{sc:Scope}{env:Env}(a:∀y∈sc.names,y.2=.free->∃c,env.cells.lookup y.1=Y c) :
  ∃cl,closureFor sc env=pure cl/\(∀x c,cl.lookup x=Y c->env.cells.lookup x=Y c)/\∀y∈sc.names,y.2=.free->∃c,cl.lookup y.1=Y c:=by
 obtain⟨cl,e,d,_,b⟩:=kY env sc.names [] a (λx c h=>nomatch h);refine⟨cl,?_,d,b⟩;simp only[closureFor];rw[e];rfl
def gf{l:List (Str×NameKind)}(h:l.lookup x=Y k):(x,k)∈l:=by
 induction l with
 |nil=>cases h
 |cons p l a =>
  rw[YO]at h;split at h
  ·rename_i b;have e:x=p.1:=by simpa using b
   cases h;rw[e];exact Zx
  ·exact Zv _ (a h)
theorem da{a:Env}:∀{l:List (Str×NameKind)},(l.map λ(n,k)=>if (k==NameKind.free&&a.scope.kind == .function&&a.kindOf n==Y .cell) then (n,NameKind.cell) else (n,k)).lookup x=Y k →
  ∃e,l.lookup x=Y e/\(k=e\/(e=.free/\k=.cell))
 |[],h=>nomatch h
 | (n,d) :: l,h=>by
  rw[Zc,YO]at h;by_cases f:(d==NameKind.free&&a.scope.kind == .function&&a.kindOf n==Y .cell)=L
  ·simp only[f,if_true]at h;rw[YO];cases b:x==n with
   |true =>
    rw[b]at h;have:d=.free:=by
     have:=(ZU.mp (ZU.mp f).1).1;simpa using this
    exact⟨d,rfl,.inr ⟨this,(Zh h).symm⟩⟩
   |false=>rw[b]at h;exact da h
  ·simp only[f,if_false,YS]at h;rw[YO];cases b:x==n with
   |true=>rw[b]at h;exact⟨d,rfl,.inl (Zh h).symm⟩
   |false=>rw[b]at h;exact da h
def bP(X:Cx)(N:List Str)(a:Scope)(d:List (Str×KM))(C:KM)(s:IR)(H:Hp)(b:Wp):Cx :=
 { X with N:=N,s₀:=s,H₀:=H,env:=compEnvC a d C X.env,outer:=X.stack,ex:=b,fn:=λ_=>false,pn:=[],xe:=λ_ _=>False }
def nq(a:Env)(b:Scope):Bool:=b.kind == .function&&b.names.all λy=>match y.2 with
 |.cell=>B
 |.local=>b.names.lookup y.1==Y .local
 |.free=>a.kindOf y.1==Y .cell||a.kindOf y.1==Y .free
 |_=>L
noncomputable def mf(d:Scope):List Str->List Str->Bool
 |[],[]=>L
 |a :: e,b :: bs=>((a==b&&d.names.lookup a==Y .free)||d.names.lookup a==O||d.names.lookup a==Y .globalImplicit)&&mf d e bs
 |_,_=>B
theorem vM:∀{f bs:List Str},mf d f bs=L->f.length=bs.length/\∀(i:Nat)(x:Str),f[i]?=Y x->(bs[i]?=Y x/\d.names.lookup x=Y .free)\/d.names.lookup x=O\/d.names.lookup x=Y .globalImplicit
 |[],[],_=>⟨rfl,λi x h=>by simp at h⟩
 |a :: f,b :: bs,h=>by
  obtain⟨g,n⟩:=ZU.mp (show (((a==b&&d.names.lookup a==Y .free)||d.names.lookup a==O||d.names.lookup a==Y .globalImplicit)&&mf d f bs)=L from h);obtain⟨l,r⟩:=vM n;refine⟨by simp[l],λi x e=>?_⟩;cases i with
  |zero =>
   have:a=x:=by simpa using e
   subst this;simp only[Bool.or_eq_true,YM]at g;rcases g with (⟨m,j⟩ | z) | z
   ·exact .inl ⟨by simpa using(by simpa using m:a=b).symm,by simpa using j⟩
   ·exact .inr (.inl (by simpa using z))
   ·exact .inr (.inr (by simpa using z))
  |succ i=>simpa using r i x (by simpa using e)
 |[],_ :: _,h=>nomatch h
 |_ :: _,[],h=>nomatch h
section
def Inv.block{N:List Str}{sc:Scope}{cl:List (Str×KM)}{C D:KM}{fp:Wp}{k:Nat}{G:XAA}{t:Nat}(I:`a_)(Kr:nq X.env sc=L)(Lf:mf sc (N.drop k) X.N=L)(Lh:k<=N.length)(j:∀x c,cl.lookup x=Y c->X.env.cells.lookup x=Y c)(Sl:∀y∈sc.names,y.2=.free->∃c,cl.lookup y.1=Y c)(Q:∀b∈fp,oH X pins H b)(F:s.heap.objs.size<=D)(hC:s.heap.objs.size<=C)(So:D≠C)(Sj:C∉fp)(d:∀b u,s.heap.get? b=Y u->G.get? b=Y u)(N8:G.Ns C m)(Uq:G.get? D=Y { cls:=.type "list",data:=.seq ([]:W7).toArray 0 }) :
  Inv (bP X N sc cl C s H fp) [] (List.replicate k O++J) (upd H D (.lst [])) { s with heap:=G,toks:=t }:=by
 unfold nq at Kr;rw[YM,Yr]at Kr;obtain⟨hk,Kl⟩:=Kr;have Kt:sc.kind=.function:=by simpa using hk
 obtain⟨hlen,hat⟩:=vM Lf;have Ku:∀y∈sc.names,y.2 ≠ .cell:=λy hy e=>by have:=Kl y hy;rw[e]at this;cases this
 have frees:∀x a,(relabel sc X.env).names.lookup x=Y a->a=.cell\/a=.free->sc.names.lookup x=Y .free:=λx a h LB=>by
  obtain⟨w,f,U⟩:=da h;rcases U with e | ⟨e,_⟩
  ·subst e;rcases LB with e | e
   ·subst e;exact absurd M (Ku _ (gf f))
   ·subst e;exact f
  ·subst e;exact f
 have Ms:H D=O:=I.Ip.fresh F;have hHC:H C=O:=I.Ip.fresh hC;refine⟨⟨I.mod,Kt,I.ok.glob,I.ok.blt,hC,λx y c e1 e2=>I.ok.inj x y c (j x c e1) (j y c e2),λx hx=>?_,λx c e=>(nomatch e),I.ok.hd,I.ok.frames,.inl M,λb hb=>⟨λ(e:b=C)=>Sj (e ▸ hb),λx c e=>(Q b hb).2.2.2.2.1 x c (j x c e)⟩,
  I.tb,I.bs,ZL I.ok.NO I.sz,λb o e hb=>?_,λb hb g=>?_,I.stack,I.LN⟩,rfl,I.bare,Un.laid d F Ms,⟨m,N8,λi x v e1 e2 e3=>?_⟩,λx c e=>?_,?_,λx c e=>?_,λp hp=>(nomatch hp),I.Ip.laid d F ?_,?_⟩
 ·have h:∃a,(relabel sc X.env).names.lookup x=Y a/\(a=.cell\/a=.free):=by
   rcases hx with e | e
   ·exact⟨_,e,.inl M⟩
   ·exact⟨_,e,.inr M⟩
  obtain⟨a,P,KP⟩:=h;exact Sl _ (gf (frees x a P KP)) M
 ·have g:b∈fp:=hb;rcases (Q b g).2.2.2.1 with z | z
  ·exact I.ok.ML b o e z
  ·exact absurd (ZZ (ZO e) (ZL I.ok.NO z)) (YA _)
 ·have Z:b∈JB X.stack:=g;rcases Zj.mp (I.Kz b Z) with z | z
  ·exact(Q b hb).2.1 z
  ·exact(Q b hb).2.2.1 z
 ·
  have N9:k<=i:=by
   rcases Wh i k with z | z
   ·rw[Mu (by simpa using z),Xr]at e2;split at e2<;>cases e2
   ·exact z
  rw[Mv (by simpa using N9),XI]at e2;have Rr:(N.drop k)[i-k]?=Y x:=by
   rw[List.getElem?_drop,show k+(i-k)=i by exact VD N9];exact e1
  have R:sc.names.lookup x=Y .free->∃a,(relabel sc X.env).names.lookup x=Y a/\(a=.cell\/a=.free):=λf=>by
   have E:Kf (relabel sc X.env) x:=e3;rcases E with z | z | z
   ·obtain⟨w,P,KP⟩:=da z;rw[f]at P;cases P;rcases KP with q | ⟨_,q⟩<;>cases q
   ·exact⟨_,z,.inl M⟩
   ·exact⟨_,z,.inr M⟩
  have no:∀w,sc.names.lookup x=Y w->∃a,(relabel sc X.env).names.lookup x=Y a->True:=λ_ _=>⟨.local,λ_=>trivial⟩
  rcases hat _ x Rr with⟨hX,f⟩ | f | f
  ·obtain⟨a,Mr,LU⟩:=R f;have hf:=Kl _ (gf f);have A:X.env.kindOf x=Y .cell\/X.env.kindOf x=Y .free:=by
    simpa using hf
   obtain⟨mX,hnX,S⟩:=I.loc;have SM:Kf X.env.scope x:=A.elim (λz=>.inr (.inl z)) λz=>.inr (.inr z);obtain⟨u,r,l⟩:=S _ x v hX e2 SM;refine⟨u,r,.inr ⟨?_,?_⟩⟩
   ·rcases LU with z | z
    ·subst z;exact .inl Mr
    ·subst z;exact .inr Mr
   ·obtain⟨c,hc⟩:=Sl _ (gf f) M;refine⟨c,hc,?_⟩;rcases l with⟨z,_⟩ | ⟨_,c',Jy,OT⟩
    ·rcases A with q | q<;>(rw[z]at q;cases q)
    ·have:=j x c hc;rw[Jy]at this;cases this;exact OT.keeps d
  ·have E:Kf (relabel sc X.env) x:=e3;rcases E with z | z | z<;>(obtain⟨w,n,_⟩:=da z;rw[f]at n;cases n)
  ·have E:Kf (relabel sc X.env) x:=e3;rcases E with z | z | z<;>(obtain⟨w,n,z2⟩:=da z;rw[f]at n;cases n;rcases z2 with q | ⟨q,_⟩<;>cases q)
 ·obtain⟨v,z⟩:=I.cell x c (j x c e);exact⟨v,z.keeps d⟩
 ·show upd H D (.lst []) C=O;rw[aE (YH So)];exact hHC
 ·obtain⟨v,z⟩:=I.cell x c (j x c e);rw[aE (Ze (ZZ z.lt F))];exact I.Jm x c (j x c e)
 ·exact⟨ZD _,[],0,.nil,Uq⟩
 ·show (List.replicate k O++J).length=N.length;rw[Zw,XI,I.len,← hlen,Yz];exact VD Lh
def x5(X:Cx)(a:List Expr)(t:TT):Prop :=
 ∀(pins:Yw)(s:IR)(J:St)(H:Hp)(Q:Bool->Hp->Prop),Inv X pins J H s->t J H Q →
  PP `ay X.A (forIn a L λc r=>if r=L then (do let ok ← isTrue c X.env (eval c X.env);pure (ForInStep.yield ok)) else pure (ForInStep.yield r)) (TP X pins J Q) X.xe s
def ot:x5 X [] (λJ H Q=>Q L H):=λpins s J H Q I q=>Zn ⟨H,I,q⟩
def tq(h:PT X c t):x5 X [c] t:=λpins s J H Q I q=>by
 rw[Wx,Zo M];refine Zu (Zu (thn (h pins s J H Q I q) λb s1 a=>Zn ?_));exact Zn a
section
def rJ{s:IR}(I:Nat->IR->Prop)(l:∀n s,I n s->PP `ax A (pyNext p) (λr t=>match r with
   |none=>R (.ok .next) t
   |some v=>PP `ax A (letOwnedTupleGo a p v) (λ_ D=>PP `ax A (assign a b v) (λ_ C =>
     PP `ax A (forIn g L λc r=>if r=L then (do let ok ← isTrue c b (eval c b);pure (ForInStep.yield ok)) else pure (ForInStep.yield r)) (λok q =>
      if ok=L then PP `ax A (eval i b) (λx z =>
       PP `ax A (call (.builtin "list.append") [j,x]) (λ_ y=>∃m,m<n/\I m y) (λ_ _=>False) z) (λ_ _=>False) q
      else ∃m,m<n/\I m q) (λ_ _=>False) C) (λ_ _=>False) D) (λ_ _=>False) t) (λ_ _=>False) s)(n:Nat)(h:I n s) :
  codeAny `ax A (.compLoop (.ListComp i [⟨a,f,g,0⟩] d o) 0 p j b) R s:=by
 refine codeAny_loop M I (λn s P=>?_) n h;show PP _ A ((compTurn (.ListComp i [⟨a,f,g,0⟩] d o) 0 p j b).onRaise (λx=>do noteFrame x b;theTreesLotGoes x)) _ _ s;refine wpAny_noted ?_;rw[compTurn_list];refine Zu (wpAny_standAt (Zu (Y7 (l n s P) (λr t E=>?_) λ_ _ e=>e.elim)));cases r with
 |none=>exact Zn E
 |some v =>
  refine Zu (Y7 E (λ_ D h₀=>?_) λ_ _ e=>e.elim);refine Zu (Y7 h₀ (λ_ C N=>Zu (Y7 N (λok q u=>?_) λ_ _ e=>e.elim)) λ_ _ e=>e.elim);cases ok with
  |false=>exact Zn ⟨rfl,u⟩
  |true =>
   rw[Zo M]at u;exact Zu (Zu (Y7 u (λx z G=>Zu (Y7 G (λ_ y F=>Zn (Zn ⟨rfl,F⟩)) λ_ _ e=>e.elim)) λ_ _ e=>e.elim))
end
def rG(k:Nat)(q:TI)(g:TG)(t:TT)(r:TE)(J:St)(H:Hp)(Q:VK):Prop:=q J H λh p=>∀D,p D=O->∃W:Nat->Nat->St->Hp->Prop,
 (∃m,W 0 m (List.replicate k O++J) (upd p D (.lst [])))/\∀i m j d,W i m j d->(h.stop i d/\Q (.ref D) d)\/(h.go i d/\∀x o,h.RO i d x o->g x j o λe u=>t e u λb n =>
  if b=L then r e n λy l=>∃f,l D=Y (.lst f)/\f.length<KF/\∃a,a<m/\W (i+1) a e (upd l D (.lst (f++[y]))) else ∃a,a<m/\W (i+1) a e n)
def oT{X:Cx}{N:List Str}{use:Option (On->Sem Unit)}{QQ:Yx}(IT:X.calm=L)(hi:PI X tg f wi)(Kr:nq X.env sc=L)(Lf:mf sc (N.drop k) X.N=L)(Lh:k<=N.length)(JG:∀cl C s H fp,PG (bP X N sc cl C s H fp) tg g/\x5 (bP X N sc cl C s H fp) l tc/\PE (bP X N sc cl C s H fp) F te)(hs:∀x,XAD f X.env x=pure x)(I:`a_)(h:rG k wi g tc te J H Q)(hq:∀Z j D C m,Inv X pins J j Z->Q (.ref D) j->Z.heap.Ns C m->oH X pins j C->compPost `ay X.A X.xe use QQ (.ref D) C (.ok .next) Z) :
  PP `ay X.A (comprehension (.ListComp F [⟨tg,f,l,0⟩] sc pos) sc X.env pos' (newList []) B (eval f X.env) use) QQ X.xe s:=by
 have OK:=Kr;unfold nq at OK;rw[YM,Yr]at OK;obtain⟨hk,Kl⟩:=OK;have Kt:sc.kind=.function:=by simpa using hk
 have Ku:∀y∈sc.names,y.2 ≠ .cell:=λy E e=>by have:=Kl y E;rw[e]at this;cases this
 have OQ:∀y∈sc.names,y.2=.local->sc.names.lookup y.1=some .local:=λy E e=>by
  have:=Kl y E;rw[e]at this;simpa using this
 obtain⟨cl,QU,Nl,Sl⟩:=Cj (sc:=sc) (env:=X.env) λy E e=>I.ok.has y.1 (by
  have:=Kl y E;rw[e]at this;simpa using this)
 refine wpAny_comprehension_free (use:=use) M hs QU Kt OQ (thn (hi pins s J H _ I h) λv s1 h1=>thn h1 λTv a h2=>?_);obtain⟨it,fp,tn,Jq,H2,e,I2,T,Jh,f2,hW⟩:=h2;subst e;refine Xb (wpAny_newFunctionEnv Ku (by intro y E;simp at E) (λh₁ LA KG=>?_) Kt);dsimp only at LA KG ⊢;generalize hP:a.heap.push { cls:=.type "list",dict:=O,data:=.seq ([]:W7).toArray }=P at LA KG ⊢;have UA:P.objs.size=a.heap.objs.size+1:=by rw[← hP,YJ]
 have old:∀b o,a.heap.get? b=some o->h₁.get? b=some o:=λb o e =>
  KG.extBut b o (by rw[UA];exact Ze (Ym (ZO e))) (Zm _ (hP ▸ Zm _ e))
 have So:a.heap.objs.size≠P.objs.size:=by rw[UA];exact Ze (Yn _)
 have Uq:h₁.get? a.heap.objs.size=some { cls:=.type "list",data:=.seq ([]:W7).toArray 0 }:=KG.extBut _ _ So (Zm _ (hP ▸ ZV _ M));have OW:a.heap.objs.size<=P.objs.size:=by rw[UA];exact XT _
 have N5:∀b∈fp,b<a.heap.objs.size:=λb hb=>let ⟨o,ho,_⟩:=T.obj 0 _ Jh b hb;ZO ho
 have Sj:P.objs.size∉fp:=λhb=>absurd (ZZ (N5 _ hb) OW) (YA _);have IY:=I2.block (N:=N) (sc:=sc) (cl:=cl) (C:=P.objs.size) (D:=a.heap.objs.size) (fp:=fp) (k:=k) (t:=a.toks+([]:List (Str×On)).length) Kr Lf Lh Nl Sl f2 (Zp _) OW So Sj old LA Uq;obtain⟨hG,hT,hE⟩:=JG cl P.objs.size a H2 fp;generalize hY:bP X N sc cl P.objs.size a H2 fp=Y at IY hG hT hE;have hYm:Y.prog=X.prog/\Y.w=X.w/\Y.K=X.K/\Y.A=X.A/\Y.env=compEnvC sc cl P.objs.size X.env/\Y.calm=X.calm/\(Y.xe=λ_ _=>False):=by rw[← hY];exact⟨rfl,rfl,rfl,rfl,rfl,rfl,rfl⟩
 obtain⟨S,R,y3,G,y5,y6,y7⟩:=hYm;have Ls:∀{j:Hp},(∀b∈fp,j b=O)->∀b∈fp,oH Y [] j b:=λ{j} hn b hb=>by
  rw[← hY];refine⟨hn b hb,λ(e:b=P.objs.size)=>Sj (e ▸ hb),λhb'=>?_,.inl hb,λx c e=>(f2 b hb).2.2.2.2.1 x c (Nl x c e),λp hp=>(nomatch hp)⟩;rcases Zj.mp (I2.Kz b hb') with z | z
  ·exact(f2 b hb).2.1 z
  ·exact(f2 b hb).2.2.1 z
 obtain⟨W,⟨m0,w0⟩,turn⟩:=hW a.heap.objs.size (I2.Ip.fresh (Zp _));have T9:∀b∈fp,upd H2 a.heap.objs.size (.lst []) b=O:=λb hb=>by rw[aE (Ze (N5 b hb))];exact(f2 b hb).1
 have KA:tn 0 h₁:=T.keep _ _ _ Jh λb _ o e=>old b o e;have loop:codeAny `ay X.A (.compLoop (.ListComp F [⟨tg,f,l,0⟩] sc pos) 0 (.ref it) (.ref a.heap.objs.size) (compEnvC sc cl P.objs.size X.env)) (compPost `ay X.A X.xe use QQ (.ref a.heap.objs.size) P.objs.size)
   { a with heap:=h₁,toks:=a.toks+([]:List (Str×On)).length }:=by
  refine rJ (λn Z=>∃i J' j,Inv Y [] J' j Z/\tn i Z.heap/\(∀b∈fp,j b=O)/\W i n J' j) ?_ m0 ⟨0,_,_,IY,KA,T9,w0⟩;rintro n s3 ⟨i,J3,H3,I3,KA,Rh,w3⟩;rcases turn i n J3 H3 w3 with⟨stop,qn⟩ | ⟨go,step⟩
  ·have q:=T.done Y S R y3 (y6.trans IT) i [] s3 J3 H3 (λ_ _=>False) I3 (Ls Rh) KA stop;rw[G]at q;refine thn q λr s4 ⟨hr,I4⟩=>?_;subst hr;have IX:Inv X pins J H3 s4:=by
    have b4:=I4.base;have o4:=I4.os;have k4:=I4.Ip;rw[← hY]at b4 o4 k4;refine I2.Rx (ch:=fp) o4 b4 k4 I4.bare λb hb=>?_;exact⟨(f2 b hb).2.2.2.1,(f2 b hb).2.1,(f2 b hb).2.2.2.2.1,(f2 b hb).2.2.2.2.2⟩
   obtain⟨mC,hmC,_⟩:=I4.loc;have f4:=I4.free;rw[y5]at hmC f4;exact hq s4 H3 _ P.objs.size mC IX qn hmC (I2.MZ OW f4)
  ·have q:=T.item Y S R y3 (y6.trans IT) i [] s3 J3 H3 (λ_ _=>False) I3 (Ls Rh) KA go;rw[G]at q;refine thn q λr s4 ⟨u,hr,h4⟩=>?_;subst hr;refine thn h4 λ_ s5 ⟨x,H5,I5,r5,yl5,Ot,UD⟩=>?_;have XN:=I5.pinned (Ls UD) (T.obj _ _ Ot);have again:∀{J7:St}{H7:Hp}{U:IR}{m:Nat},Inv Y ([]++nz fp s5.heap) J7 H7 U->W (i+1) m J7 H7->∃i J' j,Inv Y [] J' j U/\tn i U.heap/\(∀b∈fp,j b=O)/\W i m J' j:=λ{J7 H7 U m} I7 w7=>by
    refine⟨i+1,J7,H7,I7.JA,T.keep _ _ _ Ot λb hb o e=>(I7.pin (b,o) (ZX _ (ZX _ (ij hb e)))).1,λb hb=>?_,w7⟩;obtain⟨o,e,d⟩:=T.obj _ _ Ot b hb;exact(I7.pin (b,o) (ZX _ (ZX _ (ij hb e)))).2.1
   have qa:=hG _ s5 J3 H5 x u _ XN r5 (step x H5 yl5);rw[S,R,G,y5,y7]at qa;refine thn qa λ_ s6 ⟨J6,H6,I6,q6⟩=>?_;have qt:=hT _ s6 J6 H6 _ I6 q6;rw[S,R,G,y5,y7]at qt;refine thn qt λb U ⟨H7,I7,q7⟩=>?_;cases b with
   |false =>
    rw[Zl Zd]at q7 ⊢;obtain⟨m',hm,w7⟩:=q7;exact⟨m',hm,again I7 w7⟩
   |true =>
    rw[Zo M]at q7 ⊢;have qe:=hE _ U J6 H7 _ I7 q7;rw[S,R,G,y5,y7]at qe;refine thn qe λyv s8 ⟨y,H8,I8,r8,ys,hD8,hl8,m',hm,w8⟩=>?_;have qp:=h9 (X:=Y) _ s8 J6 H8 (.ref a.heap.objs.size) [y] (.ref a.heap.objs.size) [yv] (λ_ H9=>W (i+1) m' J6 H9) I8 M (.cons r8 .nil) ⟨_,ys,y,rfl,rfl,hD8,hl8,w8⟩;rw[S,R,G,y7]at qp;refine thn qp λ_ s9 ⟨_,H9,I9,_,w9⟩=>?_;exact⟨m',hm,again I9 w9⟩
 exact codeAny_compStart_list loop (T.self _ 0 _ _ _ KA loop)
def mQ{X:Cx}{N:List Str}{g:TG}(M:X.calm=L)(y:PI X l a p)(E:nq X.env d=L)(A:mf d (N.drop k) X.N=L)(z:k<=N.length)(G:∀cl C s H fp,PG (bP X N d cl C s H fp) l g/\x5 (bP X N d cl C s H fp) i t/\PE (bP X N d cl C s H fp) j r)(v:{`q2,∀x,XAD a X.env x=pure x}):PE X (.ListComp j [⟨l,a,i,0⟩] d n) (rG k p g t r):=by
 intro pins s J H Q I h;rw[eval_ListComp];refine oT (use:=O) M y E A z G v I h λu R D C m P q w f=>⟨m,w,λS F=>?_⟩
 exact⟨.ref D,R,P.turned (it:=C) (t':=u.toks) (λb o hb e=>F.extBut b o hb e) f.1 f.2.1 f.2.2.2.1 f.2.2.2.2.1 f.2.2.2.2.2,rfl,q⟩
def uw{X:Cx}{P:Pos}{N:List Str}(hN:X.N.Nodup)(T6:X.N[i]?=Y x)(S:Loc X.env.scope x)(IT:X.calm=L)(hi:PI X t d E)(Kr:nq X.env l=L)(Lf:mf l (N.drop k) X.N=L)(Lh:k<=N.length)(JG:∀cl C s H fp,PG (bP X N l cl C s H fp) t g/\x5 (bP X N l cl C s H fp) n G/\PE (bP X N l cl C s H fp) p F)(Kk:swapsWith (.ListComp p [⟨t,d,n,0⟩] l r) (Y (.Name x j)) P.line X.env=pure L)(hf:X.fn x=L\/X.env.scope.names.lookup x=Y .local)(U:{`q2,∀x,XAD d X.env x=pure x}) :
  PS X (.Assign [.Name x j] (.ListComp p [⟨t,d,n,0⟩] l r) P) (λD J H=>rG k E g G F J H λv H1=>D.nx (J.set i (Y v)) H1):=by
 intro pins s J H D I h;rw[exec_Assign_Name_used _ _ _ _ Kk];refine Zu (wpAny_standAt (Zu ?_));show PP _ X.A (do let _ ← comprehension (.ListComp p [⟨t,d,n,0⟩] l r) l X.env _ (newList []) B (eval d X.env) (Y (assign (.Name x j) X.env))) _ _ s;refine Zu (Y7 (oT (use:=Y (assign (.Name x j) X.env)) (QQ:=λ_ u=>SP X pins D .next u) IT hi Kr Lf Lh JG U I h λu H' Q C m I' q hn f=>?_) (λ_ u Z=>Zn (Zn Z)) λ_ _ e=>e);show PP _ X.A (assign (.Name x j) X.env (.ref Q)) _ _ _;refine wpAny_assign_Name (oZ I' hN T6 S (v:=.ref Q) M (λR I2 ⟨a,w,ha⟩=>?_) hf);have y:C≠a:=λe=>by
  rcases ha with z | z
  ·exact f.2.1 (e.trans z)
  ·exact f.2.2.2.2.1 x a z e.symm
 refine⟨m,hn.sameBut w y,λh' JP=>⟨_,H',?_,q⟩⟩;exact I2.turned (it:=C) (t':=R.toks) (λb o hb e=>JP.extBut b o hb e) f.1 f.2.1 f.2.2.2.1 f.2.2.2.2.1 f.2.2.2.2.2
end
end L2
end
section
namespace VS
open PySem PySem.Spec PyProof.Rows L2
noncomputable def wt(k:Nat)(g:Tg):Prop:=∀t U a,g t U=Y a->a.length=U.length/\∀i,k<=i->a[i]?=U[i]?
def cO(h:{`q0,i<k}):wt k (aY i):=λt U b e=>by
 unfold aY at e;split at e
 ·cases e;exact⟨by simp,λj a=>by rw[YT `am]⟩
 ·cases e
theorem vg:∀(l:Ut){i:Nat}{t:T},dJ l=L->l[i]?=Y t->Ir t=L
 |[],_,_,_,h=>by simp at h
 |x :: l,0,t,h,e=>by
  have h:=ZU.mp h;simp at e;rw[← e];exact h.1
 |x :: l,i+1,t,h,e=>by
  have h:=ZU.mp h;exact vg l h.2 (by simpa using e)
def tC(G:Gx):Option Ex->TT
 |none=>λJ H Q=>Q L H
 |some c=>tT G c
section
def kX:(List.replicate k O++U)[i]?=Y (Y c)↔k<=i/\U[i-k]?=Y (Y c):=by
 rcases Wh i k with h | h
 ·rw[Mu (by simpa using h),Xr];constructor
  ·intro e;split at e<;>cases e
  ·intro ⟨e,_⟩;lia
 ·rw[Mv (by simpa using h),XI];exact⟨λe=>⟨h,e⟩,λe=>e.2⟩
def yU:bB (λi=>Z (i-k)) (List.replicate k O++U) a↔bB Z U a:=by
 constructor
 ·rintro⟨j,t,d,b⟩;exact⟨j-k,t,(kX.mp d).2,b⟩
 ·rintro⟨j,t,d,b⟩;refine⟨j+k,t,kX.mpr ⟨YG _ _,by rw[Ww];exact d⟩,?_⟩;show a∈Z (j+k-k);rw[Ww];exact b
def yK:cL (λi=>Z (i-k)) (List.replicate k O++U) a↔cL Z U a:=by
 constructor
 ·rintro⟨j,t,d,b⟩;exact⟨j-k,t,(kX.mp d).2,b⟩
 ·rintro⟨j,t,d,b⟩;refine⟨j+k,t,kX.mpr ⟨YG _ _,by rw[Ww];exact d⟩,?_⟩;show a∈Z (j+k-k);rw[Ww];exact b
def SR.sh(s:SR G Z U J H):SR G (λi=>Z (i-k)) (List.replicate k O++U) (List.replicate k O++J) H:=by
 refine⟨by simp[s.len],λi c h=>?_,λi t h=>?_,λi j t c b a n=>?_⟩
 ·obtain⟨b,a⟩:=kX.mp h;obtain⟨v,e,d⟩:=s.rp _ c a;refine⟨v,?_,d⟩;rw[Mv (by simpa using b),XI];exact e
 ·exact s.nd _ t (kX.mp h).2
 ·obtain⟨m,g⟩:=kX.mp b;obtain⟨l,f⟩:=kX.mp a;exact s.sep _ _ t c g f `am
def SR.less{U:VS.Env}(s:SR G Z a J H)(b:U.length=a.length)(h:∀(i:Nat) c,U[i]?=Y (Y c)->a[i]?=Y (Y c)):SR G Z U J H :=
 ⟨b.trans s.len,λi c e=>s.rp i c (h i c e),λi t e=>s.nd i t (h i _ e),λi j t c e1 e2 n=>s.sep i j t c (h i _ e1) (h j _ e2) n⟩
def SR.off(s:SR G Z U J H)(m:Iy (H D)\/H D=O)(d:¬cL Z U D)(a:¬bB Z U D):SR G Z U J (upd H D o):=by
 refine⟨s.len,λi c e=>?_,s.nd,s.sep⟩;obtain⟨v,h,g⟩:=s.rp i c e;refine⟨v,h,g.keep (Kept.upd m) λb hb j f=>?_⟩;rw[aE λz=>?_]
 ·exact f
 ·subst z;cases c with
  |pu t=>exact d ⟨i,t,e,hb⟩
  |ow t=>exact a ⟨i,t,e,hb⟩
theorem nK:∀(l:Uv)(v:Val),cu (l++[v])=(cu l).join v.1
 |[],(m,t)=>by cases m<;>rfl
 | (m,t) :: l,v=>by
  show m.join (cu (l++[v]))=(m.join (cu l)).join v.1;rw[nK l v];generalize cu l=q;generalize v.1=r;cases m<;>cases q<;>cases r<;>rfl
def Fp.QB(f:Fp Z U H m F)(g:Fp Z U H n j)(d:n=.fr->∀a∈F,a∉j):Fp Z U H (m.join n) (F++j):=by
 have both:∀{P:KM->Prop},(∀a∈F,P a)->(∀a∈j,P a)->∀a∈F++j,P a:=λp q a h=>(Zi.mp h).elim (p a) (q a);cases m<;>cases n
 ·exact⟨ZG.mpr ⟨f.1,g.1,λa i b hb e=>d M a i (e ▸ hb)⟩,both f.2 g.2⟩
 ·exact both (λa i=>.inl (f.2 a i)) g
 ·exact both (λa i=>.inl (f.2 a i)) g
 ·exact both f λa i=>.inl (g.2 a i)
 ·exact both f g
 ·exact both (λa i=>(f a i).imp id .inl) g
 ·exact both f λa i=>.inl (g.2 a i)
 ·exact both f λa i=>(g a i).imp id .inl
 ·exact both f g
def Fp.Rw(f:Fp Z U H m F)(h:H D=O)(d:D∉F):Fp Z U H m (D :: F):=by
 have all:∀{P:KM->Prop},P D->(∀a∈F,P a)->∀a∈D :: F,P a:=λp q a b=>(Zj.mp b).elim (λe=>e ▸ p) (q a);cases m
 ·exact⟨ZY.mpr ⟨d,f.1⟩,all h f.2⟩
 ·exact all (.inl h) f
 ·exact all (.inl h) f
end
section
def CI(G:Gx)(Z:Iw)(U b:VS.Env)(H p:Hp)(D:KM)(l:Ut)(h:Uv)(q:Tg)(d:Option Ex)(r:Ex)(i n:Nat)(s:L2.St)(f:Hp):Prop:=n=l.length-i/\∃e g j m rest,SR G e b s f/\(∀a,bB e b a->bB Z U a)/\(∀a,cL e b a->H a=O\/cL Z U a)/\¬cL e b D/\¬bB e b D/\Kept p f ∧
     (∀a o,a≠D->p a=Y o->f a=Y o)/\f D=Y (.lst m)/\RpL G f m (trees g) j/\D∉j.flatten/\Fp Z U H (cu g) j.flatten/\jD q d r b (l.drop i)=Y rest/\g++rest=h
def mM{G:Gx}{k:Nat}{tg:Tg}{ci:Ln}{cond:Option Ex}{ce:Ex}{J:L2.St}{H:Hp}{Q:VK}(JG:wt k tg)(h:tE G (bD k tg ci cond ce) J H Q):rG k (tI G ci) (tG G tg) (tC G cond) (tE G ce) J H Q:=by
 refine L2.jG λP_ S=>?_;obtain⟨Z,U,m,r,s,e,kq⟩:=h;unfold bD at e;obtain⟨⟨mi,l⟩,el,e1⟩:=Zz.mp e;dsimp only at e1;split at e1
 ·rename_i Ip;obtain⟨all,ea,e2⟩:=Zz.mp e1;unfold K9 at e2;split at e2
  ·rename_i hlen;cases e2;refine S ?_;refine⟨Z,U,mi,l,s,el,λJq H1 C e3 ok fc D hD=>?_⟩;have Ms:H D=O:=e3.free hD;let U0:VS.Env:=List.replicate k O++U
   have good:∀{t:T}{i:Nat}{P H2:Hp}{v:V}{F:Wp},l[i]?=Y t->Rp G H2 v t F->(∀a,H1 a≠O->P a≠O)->(∀a∈F,a∈C\/P a=O)->∀a∈F,(H a=O\/cL Z U a)/\¬bB Z U a:=λ{t i P H2 v F} hi rF keep hF a d=>by
    have IH:∀{b},H b≠O->P b≠O:=λ{b} hb=>keep b λz=>hb (e3.free z);rcases hF a d with z | z
    ·rcases fc a z with q | q | ⟨q,w⟩
     ·exact⟨.inl q,λw=>Iy.oe (s.Jd w) q⟩
     ·exact⟨.inr q,λw=>s.MJ w q⟩
     ·subst q;have:Ir t=L:=by
       exact vg l Ip hi
      rw[rF.Ir this]at d;simp at d
    ·have hz:H a=O:=Classical.byContradiction λq=>IH q z;exact⟨.inl hz,λw=>Iy.oe (s.Jd w) hz⟩
   refine⟨CI G Z U U0 H H1 D l all tg cond ce,?_,?_⟩
   ·refine⟨l.length-0,rfl,λi=>Z (i-k),[],[],[],all,?_,λa h=>yU.mp h,λa h=>.inr (yK.mp h),λh=>?_,λh=>?_,Kept.upd (.inr hD),λa o n h=>by rw[aE n];exact h,aw,.nil,by simp,Fp.nil,by rw[We];exact ea,rfl⟩
    ·exact((s.same e3).sh).off (.inr hD) (λh=>Iy.oe (s.KC (yK.mp h)) Ms) λh=>Iy.oe (s.Jd (yU.mp h)) Ms
    ·exact Iy.oe (s.KC (yK.mp h)) Ms
    ·exact Iy.oe (s.Jd (yU.mp h)) Ms
   ·intro i n J' P hh_;refine L2.jG λP_ S=>?_;obtain⟨rfl,Z1,R,Fs,xs,rest,s1,Pd,pu1,np1,no1,kp,old,Pn,rp,nD,fp,er,ev⟩:=hh_;refine S ?_;have LR:∀a,H1 a≠O->P a≠O:=λa d z=>by
     by_cases q:a=D
     ·subst q;rw[Pn]at z;cases z
     ·cases e:H1 a with
      |none=>exact d e
      |some o=>rw[old a o q e]at z;cases z
    refine L2.jG λP_ S=>?_;obtain⟨go,stop⟩:=ok.run P kp λa d o ho=>old a o (λz=>ok.IH a d (z ▸ hD)) ho;cases hit:l[i]? with
    |none =>
     have hl:l.length<=i:=YL.mp hit;refine S ?_;left;refine⟨stop i hl,?_⟩;rw[XQ hl]at er;cases (show Y ([]:Uv)=Y rest from er);rw[ZE]at ev;subst ev;refine kq (.ref D) P (D :: Fs.flatten) (λa o h=>old a o (λz=>by rw[z,Ms]at h;cases h) (e3 a o h)) (.lst Pn rp) ?_;by_cases hi:dJ (trees R)=L
     ·rw[Zo hi,rp.Ir hi];exact⟨by simp,λa d=>by rw[Zk.mp d];exact Ms⟩
     ·rw[Zl hi];exact fp.Rw Ms nD
    |some t =>
     have hl:i<l.length:=(ZW.mp hit).1;obtain⟨g1,y1⟩:=go i t hit;refine S ?_;right;refine⟨g1,λx H2 yl=>?_⟩;refine L2.jG λP_ S=>?_;obtain⟨E,F,rF,hF⟩:=y1 x H2 yl;rw[o7 (tgt:=tg) (body:=di) (U:=U) hit]at er;rw[jD]at er;obtain⟨p,e4,e5⟩:=Zz.mp er;obtain⟨b,eb,e6⟩:=Zz.mp e5;have gd:=good hit rF LR hF;have s2:=s1.same E;have DF:D∉F:=λh=>by
      rcases hF D h with z | z
      ·exact ok.IH D z hD
      ·rw[Pn]at z;cases z
     refine S ?_;refine⟨Z1,U0,t,F,p,s2,rF,λa d z=>(gd a d).2 (Pd a z),e4,λg J3 s3 o3 p3=>?_⟩;obtain⟨tl,PJ⟩:=JG t U0 p e4;have low:∀j c,U0[j]?=Y (Y c)->p[j]?=Y (Y c):=λj c h=>by rw[PJ j (kX.mp h).1];exact h
     have RZ:∀a,cL g p a->H a=O\/cL Z U a:=λa h=>(p3 a h).elim (pu1 a) λh=>(gd a h).1;have SY:∀a,bB g p a->bB Z U a:=λa h=>Pd a (o3 a h);have P6:¬cL g p D:=λh=>(p3 D h).elim np1 DF;have R7:¬bB g p D:=λh=>no1 (o3 D h);have RY:∀a,cL g U0 a->cL g p a:=λa ⟨j,u,h1,h2⟩=>⟨j,u,low j _ h1,h2⟩
     have R1:∀a,bB g U0 a->bB g p a:=λa ⟨j,u,h1,h2⟩=>⟨j,u,low j _ h1,h2⟩
     have N0:∀A,aM H2 A->(if b=L then tE G ce J3 A λy N=>∃ys,N D=Y (.lst ys)/\ys.length<KF/\∃m',m'<l.length-i/\CI G Z U U0 H H1 D l all tg cond ce (i+1) m' J3 (upd N D (.lst (ys++[y]))) else ∃m',m'<l.length-i/\CI G Z U U0 H H1 D l all tg cond ce (i+1) m' J3 A):=λA f=>by
      have eo:∀{N},aM A N->∀a o,P a=Y o->N a=Y o:=λ{N} Pw a o h=>Pw a o (f a o (E a o h));cases b with
      |false =>
       rw[Zl Zd]at e6 ⊢;have same:=eo (aM.refl A);exact⟨_,by lia,rfl,g,R,Fs,xs,rest,(s3.same f).less (by rw[tl]) low,λa h=>SY a (R1 a h),λa h=>RZ a (RY a h),λh=>P6 (RY D h),λh=>R7 (R1 D h),kp.trans ((Kept.of E).trans (Kept.of f)),λa o n h=>same a o (old a o n h),same D _ Pn,rp.same (aM.trans E f),nD,fp,e6,ev⟩
      |true =>
       rw[Zo M]at e6 ⊢;obtain⟨⟨mv,tv⟩,ece,e7⟩:=Zz.mp e6;obtain⟨PY,er1,JQ⟩:=Zy.mp e7;refine⟨g,p,mv,tv,s3.same f,ece,λy N Fy Pw ry X=>?_⟩;have same:=eo Pw;have Ra:=same D _ Pn;have NG:Iy (N D):=by rw[Ra];exact True.intro
       have Ur:A D=Y (.lst xs):=f D _ (E D _ Pn);have MK:∀a,A a=O->H a=O:=λa h=>Classical.byContradiction λq=>LR a (λz=>q (e3.free z)) (E.free (f.free h));have fyo:Fp Z U H mv Fy:=by
        cases mv with
        |fr=>exact⟨X.1,λa d=>MK a (X.2 a d)⟩
        |pu=>exact λa d=>(X a d).elim (λz=>.inl (MK a z)) (RZ a)
        |bo=>exact λa d=>(X a d).elim (λz=>.inl (MK a z)) λz=>z.elim (λz=>(RZ a z).imp id .inl) λz=>.inr (.inr (SY a z))
       have DFy:D∉Fy:=λh=>by
        cases mv with
        |fr=>have:=X.2 D h;rw[Ur]at this;cases this
        |pu=>exact(X D h).elim (λz=>by rw[Ur]at z;cases z) P6
        |bo=>exact(X D h).elim (λz=>by rw[Ur]at z;cases z) λz=>z.elim P6 R7
       have rp5:RpL G N xs (trees R) Fs:=rp.same ((E.trans f).trans Pw);have lenx:xs.length=R.length:=by rw[rp.len.1];simp
       have lenv:R.length<all.length:=by rw[← ev,← JQ];simp
       refine⟨xs,Ra,?_,_,by lia,rfl,g,R++[(mv,tv)],Fs++[Fy],xs++[y],PY,(((s3.same f).same Pw).off (.inl NG) P6 R7).less (by rw[tl]) low,λa h=>SY a (R1 a h),λa h=>RZ a (RY a h),λh=>P6 (RY D h),λh=>R7 (R1 D h),?_,λa o n h=>?_,aw,?_,?_,?_,er1,?_⟩
       ·have QS:all.length<=dZ:=by simpa using hlen
        have:KF=dZ:=rfl;lia
       ·exact(kp.trans ((Kept.of E).trans ((Kept.of f).trans (Kept.of Pw)))).trans (Kept.upd (.inl NG))
       ·rw[aE n];exact same a o (old a o n h)
       ·have:trees (R++[(mv,tv)])=trees R++[tv]:=by simp
        rw[this];exact(rp5.off NG nD).append (.cons (ry.keep (Kept.upd (.inl NG)) λb hb o ho=>by rw[aE (λz=>DFy (by rw[← z];exact hb))];exact ho) .nil)
       ·rw[Yo];intro h;rcases Zi.mp h with z | z
        ·exact nD z
        ·exact DFy (by simpa using z)
       ·rw[Yo,nK];have:([Fy]:Xz).flatten=Fy:=by simp
        rw[this];refine fp.QB fyo λhm a d hb=>?_;subst hm;have h4:=X.2 a hb;have:Iy (A a):=(rp.same (E.trans f)).IH a d;rw[h4]at this;exact this
       ·rw[Zf,← ev,← JQ];rfl
     cases cond with
     |none =>
      cases (show Y L=Y b from eb);exact N0 H2 (aM.refl H2)
     |some c =>
      obtain⟨⟨mc,xc⟩,ec1,Ro⟩:=Zz.mp eb;exact⟨g,p,mc,xc,b,s3,ec1,Ro,λA f=>N0 A f⟩
  ·cases e2
 ·cases e1
end
section
def kT{X:Cx}(k:Nat)(N:List Str)(m:X.calm=L)(b:PVI G X tg iter ci)(l:wt k g)(d:∀cl C s H fp,NR G (bP X N sc cl C s H fp) tg g)(he:∀cl C s H fp,PV G (bP X N sc cl C s H fp) elt ce)(j:{`q1,nq X.env sc=L})(f:{`q1,mf sc (N.drop k) X.N=L})(e:{`q0,k<=N.length})(a:{`q2,∀x,XAD iter X.env x=pure x}) :
  PV G X (.ListComp elt [⟨tg,iter,[],0⟩] sc pos) (bD k g ci O ce) :=
 PE.weak (mQ m b j f e (λcl C s H fp=>⟨d cl C s H fp,ot,he cl C s H fp⟩) a) λJ H Q h=>mM (cond:=O) l h
def hU{X:Cx}(k:Nat)(N:List Str)(n:X.calm=L)(b:PVI G X tg iter ci)(m:wt k g)(d:∀cl C s H fp,NR G (bP X N sc cl C s H fp) tg g)(e:∀cl C s H fp,Kg G (bP X N sc cl C s H fp) c cc)(he:∀cl C s H fp,PV G (bP X N sc cl C s H fp) elt ce)(l:{`q1,nq X.env sc=L})(j:{`q1,mf sc (N.drop k) X.N=L})(f:{`q0,k<=N.length})(a:{`q2,∀x,XAD iter X.env x=pure x}) :
  PV G X (.ListComp elt [⟨tg,iter,[c],0⟩] sc pos) (bD k g ci (Y cc) ce) :=
 PE.weak (mQ n b l j f (λcl C s H fp=>⟨d cl C s H fp,tq (e cl C s H fp),he cl C s H fp⟩) a) λJ H Q h=>mM (cond:=Y cc) m h
def qw(h:tS G (aI i a) D J H):tE G a J H λv r=>D.nx (J.set i (Y v)) r:=by
 refine L2.jG λw j=>?_;obtain⟨Z,U,o,s,e,k⟩:=h;unfold aI at e;obtain⟨⟨m,t⟩,q,e1⟩:=Zz.mp e;refine j ?_;split at e1
 ·cases e1
 ·rename_i l;split at e1
  ·rename_i n;cases e1;refine⟨Z,U,m,t,s,q,λv u F e3 b p=>?_⟩;obtain⟨f,d⟩:=s.val (c:=.pu t) n e3 b p (.inl ⟨rfl,l⟩);exact k _ _ u f d
  ·cases e1
def jS{X:Cx}{MF:Pos}(k:Nat)(N:List Str)(m:∀D J H,tS G a D J H->tE G (bD k g ci (Y cc) ce) J H λv y=>D.nx (J.set i (Y v)) y)(w:X.calm=L)(e:PVI G X tg iter ci)(u:wt k g)(f:∀cl C s H fp,NR G (bP X N sc cl C s H fp) tg g)(l:∀cl C s H fp,Kg G (bP X N sc cl C s H fp) c cc)(he:∀cl C s H fp,PV G (bP X N sc cl C s H fp) elt ce)(n:X.N.Nodup)(o:{`q1,X.N[i]?=Y x})(b:{`q5,Loc X.env.scope x})(r:{`q1,nq X.env sc=L})(q:{`q1,mf sc (N.drop k) X.N=L})(p:{`q0,k<=N.length})(t:{`q1,swapsWith (.ListComp elt [⟨tg,iter,[c],0⟩] sc pos) (Y (.Name x pos')) MF.line X.env=pure L})(j:{`q6,X.fn x=L\/X.env.scope.names.lookup x=Y .local})(d:{`q2,∀x,XAD iter X.env x=pure x}) :
  PSV G X (.Assign [.Name x pos'] (.ListComp elt [⟨tg,iter,[c],0⟩] sc pos) MF) a :=
 PS.weak (uw n o b w e r q p (λcl C s H fp=>⟨f cl C s H fp,tq (l cl C s H fp),he cl C s H fp⟩) t j d) λD J H h=>mM (cond:=Y cc) u (m D J H h)
end
end VS
end
section
namespace L2
open PySem PySem.Spec PyProof.Rows
def XC(K:X0)(a:KM):It :=
 ⟨λi H=>∃b x,IF K H a b/\b[i]?=Y x,λi H v d=>∃p x,H p=O/\v=.ref p/\d=upd H p (.tup [.int i,x])/\∀b,IF K H a b->b[i]?=Y x,λi H=>∃b,IF K H a b/\b.length<=i⟩
def xo{K:X0}(a e f:KM)(Js:e≠f):Turn P w K (.Tuple Q n Z) (XC K a) [e,f] e (λi h=>(∃old,IsEnum h e f i old)/\h.IsListIter f a i) where
 mem:=by simp
 obj:=λi h st b hb=>by
  obtain⟨⟨old,he⟩,o,ho,c,d⟩:=st;rcases Zj.mp hb with rfl | hb
  ·exact⟨_,he,λv z=>by cases (show Data.fields _=Data.cell v from z)⟩
  ·rw[Zk.mp hb];exact⟨o,ho,λv z=>by rw[d]at z;cases z⟩
 keep:=λi h h' st k=>⟨let ⟨old,he⟩:=st.1;⟨old,k e (by simp) _ he⟩,st.2.at λo x=>k f (by simp) o x⟩
 item:=by
  intro X hP hw hK hc i g s J H E I l st hg;subst hP hw hK;obtain⟨xs,x,S,hx⟩:=hg;obtain⟨p0,U,p,hz⟩:=I.list S;obtain⟨u,hu,ru⟩:=U.get hx;obtain⟨⟨old,he⟩,hit⟩:=st;refine wpAny_pyNext_enum_item he hit p.isList (x:=u) (by simpa using hu) Js λh1 ho T5 hT hsz hk=>⟨_,rfl,?_⟩
  refine wpAny_letOwnedTupleGo_enum ho λG Sk R=>?_;have R:Heap.SameBut e h1 G:=R;have A:e<s.heap.objs.size:=ZO he;have ltI:f<s.heap.objs.size:=let ⟨_,z,_⟩:=hit;ZO z
  have F:H s.heap.objs.size=O:=I.Ip.fresh (Zp _);have C:∀b o,b∉[e,f]->s.heap.get? b=Y o->G.get? b=Y o:=λb o hb q=>by
   have N:b≠e:=λz=>hb (by simp[z]);have h2b:b≠f:=λz=>hb (by simp[z]);exact(R.2 b N).trans (hk b o N h2b q)
  have D:G.get? s.heap.objs.size=Y { cls:=.type "tuple",data:=.seq #[.int i s.toks,u] }:=(R.2 _ (XS A)).trans hT;have t:∀b o,H b=Y o->b∉[e,f]:=λb o q hb=>by rw[(l b hb).1]at q;cases q
  have lt:∀b o,s.heap.get? b=Y o->b≠s.heap.objs.size:=λb o q=>Ze (ZO q);have up:∀b o,H b=Y o->upd H s.heap.objs.size (.tup [.int i,x]) b=Y o:=λb o q=>by rw[aE (cF q F)];exact q
  have TJ:Ju X.prog X.w (upd H s.heap.objs.size (.tup [.int i,x])) G:=λb ob q=>by
   by_cases hb:b=s.heap.objs.size
   ·subst hb;rw[aw]at q;cases q;exact⟨by show 2<=KF;decide,[.int i s.toks,u],.cons ⟨_,rfl⟩ (.cons ru .nil),NS.of D M,⟨_,D,rfl,_,rfl⟩⟩
   ·rw[aE hb]at q;refine(I.Ip b ob q).L6 (λc v j r=>C c v ?_ r) (λc r=>up c _ r) (λc ys r=>up c _ r) λc _ _ r=>up c _ r;rcases j with z | z
    ·rw[z];exact t b ob q
    ·exact t c _ z
  refine⟨.ref s.heap.objs.size,upd H s.heap.objs.size (.tup [.int i,x]),?_,rfl,⟨_,x,F,rfl,rfl,λys hy=>by rw[I.La hy S];exact hx⟩,⟨⟨u,by simpa using Sk⟩,T5.at λo y=>(R.2 f Js.symm).trans y⟩,λb hb=>?_⟩
  ·show Inv X g J _ { s with heap:=G,gens:=s.gens,drawn:=s.drawn,toks:=s.toks+1 };refine I.step (g':=s.gens) (d':=s.drawn) (t':=s.toks+1) (ch:=[e,f]) (λb hb=>?_) (λb o _ _ j q _=>C b o j q) (λb o _ _ j q _=>⟨o.slots,C b o j q⟩) (λb o _ q r=>by rw[aE (lt b o q)];exact r) (λb o j q=>⟨o,C b o j q⟩)
    (λb ys q=>up b _ q) (λb o v q=>up b _ q) (λb _ q=>up b _ q) (λm hm=>?_) TJ I.bare
   ·obtain⟨f0,f1,f2,f3,f4,f5⟩:=l b hb;exact⟨f3,f1,f4,f5⟩
   ·obtain⟨o,es,ep,Le,r⟩:=hm;refine⟨o,es,ep,C _ o (λz=>?_) Le,r⟩;exact(l _ z).2.1 M
  ·have:b≠s.heap.objs.size:=by
    rcases Zj.mp hb with rfl | hb
    ·exact Ze A
    ·rw[Zk.mp hb];exact Ze ltI
   rw[aE this];exact(l b hb).1
 done:=by
  intro X hP hw hK hc i g s J H E I l st hg;subst hP hw hK;obtain⟨xs,S,hx⟩:=hg;obtain⟨p0,U,p,hz⟩:=I.list S;obtain⟨⟨old,he⟩,hit⟩:=st;obtain⟨f0,f1,f2,f3,f4,f5⟩:=l f (by simp);have hl:=U.length;exact wpAny_pyNext_enum_end (I.ok.hd hc) he hit p.isList (by simp;lia) λh' eb=>⟨rfl,I.turned (t':=s.toks) (λb o hb q=>eb b o hb q) f0 f1 f3 f4 f5⟩
 self:=λ_ _ _ _ _ st h=>let ⟨_,he⟩:=st.1;wpAny_pyIter_enum he h
section
def HA(K:X0)(ta:TA):TI:=λJ H R=>ta J H λe b=>∃l,e=[.ref l]/\(∃d,IF K b l d)/\R (XC K l) b
def BO(x:Gl X "enumerate")(v:X.mg "enumerate" = O)(y:PA X [a] ta)(t:{`q1,Pv [a] X.env=[(B,eval a X.env)]}):PI X (.Tuple g n z) (.Call (.Name "enumerate" p) [a] [] pos) (HA X.K ta):=by
 intro d s J H R I h;refine Call_ (p9 I x v boot_enumerate (WG (thn (y pos d s J H _ I h) λE s1 ⟨D,A,i,r1,m⟩=>?_) t M));obtain⟨l,e,⟨C,u⟩,q⟩:=m;subst e;cases r1 with
 |cons r j =>
  cases j;cases r;obtain⟨G,F,pl,N⟩:=i.list u;refine call_enumerate_list pl.isList λP he hit o w=>?_;refine wpAny_pyIter_enum he ?_;refine⟨_,_,_,_,A,rfl,i.kept (t':=s1.toks) w,xo l (s1.heap.objs.size+1) s1.heap.objs.size (Nat.succ_ne_self _),⟨⟨_,he⟩,hit⟩,λb hb=>?_,q⟩;have f:s1.heap.objs.size<=b:=by
   rcases Zj.mp hb with rfl | hb
   ·exact ZQ _ _
   ·rw[Zk.mp hb];exact Zp _
  exact i.MZ f (i.Ip.fresh f)
end
end L2
namespace VS
open PySem PySem.Spec PyProof.Rows L2
section
theorem rm:∀(l:Ut)(k i:Nat){t:T},(iE k l)[i]?=Y t->∃x,l[i]?=Y x/\t=.tup [.int ((k+i:Nat):Int),x]
 |[],_,_,_,h=>by simp[iE]at h
 |x :: l,k,0,t,h=>by
  simp[iE]at h;exact⟨x,rfl,by rw[← h];rfl⟩
 |x :: l,k,i+1,t,h=>by
  obtain⟨y,d,b⟩:=rm l (k+1) i (by simpa[iE] using h);refine⟨y,by simpa using d,?_⟩;rw[b,show k+1+i=k+(i+1) by lia]
theorem pF:∀(l:Ut)(k:Nat),(iE k l).length=l.length
 |[],_=>rfl
 |x :: l,k=>by simp[iE,pF l (k+1)]
def A7{a:KM}(K:X0)(m:H a=Y (.lst d))(r:RpL G H d e j):Mc G (XC K a) (iE 0 e) (a :: j.flatten) H:=by
 refine⟨λf k c=>?_,λb hb=>?_⟩
 ·have g:f a=Y (.lst d):=c a Zx _ m;have r2:RpL G f d e j:=r.keep k λb hb o C=>c b (Zv _ hb) o C;refine⟨λi t h=>?_,λi h=>⟨d,IF.of g,by rw[pF]at h;rw[r.len.1];exact h⟩⟩;obtain⟨y,w,u⟩:=rm e 0 i h;rw[Xg]at u;obtain⟨v,F,s,E,D⟩:=r2.get i w;refine⟨⟨d,v,IF.of g,s⟩,λx J ⟨p,z,A,e1,e2,e3⟩=>?_⟩;subst e1 e2;have ex:=e3 d (IF.of g);rw[s]at ex;cases ex;have l:aM f (upd f p (.tup [.int i,v])):=λb o q=>by rw[aE (cF q A)];exact q
  refine⟨l,F,?_,λb hb=>.inl (Zv _ (cW E hb))⟩;rw[u];have:F=([[],F]:Xz).flatten:=by simp
  rw[this];exact .tup aw (.cons (.int _) (.cons (D.same l) .nil))
 ·rcases Zj.mp hb with rfl | hb
  ·rw[m];exact λz=>nomatch z
  ·exact Iy.oe (r.IH b hb)
def zY(r:PV G X a ca)(q:Gl X "enumerate")(o:X.mg "enumerate" = O)(i:{`q1,K1 a [] X})(y:{`q1,Pv [a] X.env=[(B,eval a X.env)]}) :
  PVI G X (.Tuple elts n Nw) (.Call (.Name "enumerate" p) [a] [] pos) (zV ca) :=
 PI.weak (BO q o (df r ft i) y) λJ H R j=>by
  obtain⟨Z,U,m,l,s,e,k⟩:=j;unfold zV at e;obtain⟨⟨h,x⟩,u,e1⟩:=Zz.mp e;refine⟨Z,U,h,x,s,u,λv z F e3 g t=>?_⟩;cases x with
  |lst A =>
   cases e1;obtain⟨w,d,C,rfl,rfl,b,f⟩:=g.lst_inv;exact⟨w,rfl,⟨d,IF.of b⟩,k _ z _ e3 (A7 X.K b f) t.c⟩
  |_=>cases e1
end
noncomputable instance {s:Tx}:Decidable (oE s):=inferInstanceAs (Decidable (_/\_))
section
def w_add(f:PV G X a ca)(d:PV G X b cb):PV G X (.BinOp a .Add b pos) (e2 aW ca cb):=iP ju lD f d
def w_mul(f:PV G X a ca)(d:PV G X b cb):PV G X (.BinOp a .Mult b pos) (e2 fC ca cb):=iP FY Et f d
def w_mod(f:PV G X a ca)(d:PV G X b cb):PV G X (.BinOp a .Mod b pos) (e2 oMod ca cb):=iP E7 Fb f d
def iC{X:Cx}(d:Im k X.A)(g:PV G X a ca)(f:PV G X b cb):Kg G X (.Compare a [.Eq] [b] pos) (e2 oEq ca cb):=dA (jU d.units) ox tells_eq g f (fj _)
def vP{X:Cx}(d:Im k X.A)(g:PV G X a ca)(f:PV G X b cb):Kg G X (.Compare a [.NotEq] [b] pos) (e2 Lp ca cb):=dA (FN d.units) Gc AC g f (fj _)
def bV(g:PV G X a ca)(f:PV G X b cb)(d:gz b:=by intro _ _;rfl)(i:{`q1,X.K=G.K}):PV G X (.Subscript a b pos) (e2 aJ ca cb) :=
 PE.weak (n9 jP g f d) λJ H Q h=>by rw[i];exact ly ux h
def cQ{X:Cx}(d:X.mg "len" = O)(g:Jz G X [e] cs)(f:{`q1,Gl X "len"})(h:{`q1,X.K=G.K})(he:{`q1,K1 e [] X}):PV G X (.Call (.Name "len" p) [e] [] pos) (eN bu cs) :=
 nr (h ▸ wF) FP f d PySem.boot_len g (he:=he) (hpl:=rfl)
def Cd:bootBuiltins ("list" : Str)=Y (.type "list"):=by decide +kernel
def ER{apos:Pos}(f:PV G X a ca)(g:Jz G X [e] cs)(h:{`q1,X.K=G.K})(n:{`q1,XAC a "endswith" X.env (eval a X.env)=eval a X.env})(m:{`q1,((backTo jj (Pv [e] X.env)).all (λx=>!x.1)&&(backToKw jj (SZ [] X.env)).all (λx=>x.1.isSome)
   && decide `be)=L})(i:{`q1,(apos.endLine==jj.line)=L})(d:{`q1,K1 e [] X})(j:{`q1,(backTo jj (Pv [] X.env)).any (·.1)=B}) :
  PV G X (.Call (.Attribute a "endswith" apos) [e] [] jj) (eM pq ca cs) :=
 zj Wo PySem.F.slot_str_endswith PySem.F.type_str_endswith Cy B6 (λH v x F l z r e=>kg r (by
  unfold pq at e;split at e
  ·exact⟨_,rfl⟩
  ·cases e)) f g h n m i d j
def om{apos:Pos}(i:Nat)(m:Jz G X [e] cs)(o:{`q1,X.K=G.K})(n:{`q1,X.N[i]?=Y x})(f:{`q4,Kf X.env.scope x})(j:{`q0,K3 x})(d:{`q0,K4 x})(s:{`q1,((backTo jj (Pv [e] X.env)).all (λx=>!x.1)&&(backToKw jj (SZ [] X.env)).all (λx=>x.1.isSome)
   && decide `be)=L})(q:{`q1,(apos.endLine==jj.line)=L})(g:{`q1,K1 e [] X}) :
  PSV G X (.Expr (.Call (.Attribute (.Name x p1) "append" apos) [e] [] jj) pos) (sX (j4 i [] aV cs)) :=
 rz i Xa X7 X6 h9 lq (λH v t F l z r h=>l9 r h) m o n f j d M s q g M M
def sP{apos:Pos}(i:Nat)(m:Jz G X [e] cs)(o:{`q1,X.K=G.K})(n:{`q1,X.N[i]?=Y x})(f:{`q4,Kf X.env.scope x})(j:{`q0,K3 x})(d:{`q0,K4 x})(s:{`q1,((backTo jj (Pv [e] X.env)).all (λx=>!x.1)&&(backToKw jj (SZ [] X.env)).all (λx=>x.1.isSome)
   && decide `be)=L})(q:{`q1,(apos.endLine==jj.line)=L})(g:{`q1,K1 e [] X}) :
  PSV G X (.Expr (.Call (.Attribute (.Name x p1) "extend" apos) [e] [] jj) pos) (sX (j4 i [] cN cs)) :=
 rz i Xa PySem.F.slot_list_extend PySem.F.type_list_extend xB xm (λH v t F l z r h=>sW r h) m o n f j d M s q g M M
end
structure FnAt(P:Re)(w:XAB)(K:X0)(mg:Wq)(base:XAA)(k:Nat)(x:Str)(ps:List Str)(G:Gx)(g:Fn):Prop where
 ex:∃f fd,FnOk P w K mg base Jk k f fd ps (KO G g)/\mg x=some (.ref f)/\PySem.W.keepIn K (.ref f)=true/\Binds K fd ps []
section
def ed{X:Cx}(F:FnAt X.prog X.w X.K X.mg X.base k x ps G g)(b:Im k' X.A)(i:Jz G X (e :: es) cs)(d:{`q0,k<=k'})(h:{`q1,Gl X x})(o:{`q0,K3 x})(he:{`q1,K1 e es X})(a:{`q1,K2 pos es X}) :
  PV G X (.Call (.Name x p) (e :: es) [] pos) (cP g cs):=by
 obtain⟨f,fd,n,m,l,j⟩:=F.ex;exact CT n (b.mono d) h m l j i o he a
end
section
variable{K:X0}
def oi(F:IP K x x a f i)(m:mg x=Y (.ref f))(S:Il N b (aq a))(j:b.length=g)(l:N.length=h)(o:∀(kV doc pm:On)(an:Option KM)(d ct:On)(e:W7),e.length=b.length->bindArgs (PySem.W.fnOf x x (dU a) (bq a) (aq a) .none kV doc pm an d ct) ⟨e,[]⟩=pure (b.zip e))(n:∀(d:On)(A:SC)(outer:List PySem.Env)(s:IR)(H:Hp)(E:XK),Im k (A.deeper (envOfC x (aq a) s.heap.objs.size f d))->gE G (jC Jk P w K mg base N x (aq a) f d A outer s H E).LP (bq a) c) :
  FnAt P w K mg base (k+1) x b G (fn g h c) :=
 ⟨f,i,UE F S j l n,m,F.kp,F.binds o⟩
end
end VS
end
section
namespace L2
open PySem PySem.Spec PyProof.Rows
noncomputable def Ln(x:Str):It:=⟨λi _=>i<x.cps.size,λi H v a=>a=H/\∃c,x.cps[i]?=Y c/\v=.str ⟨#[c]⟩,λi _=>x.cps.size<=i⟩
def pA{K:X0}{M:Expr}(x:Str)(t:Tok)(a:KM)(j:String)(U:["enumerate", "zip", "dict_itemiterator", "dict_reverseitemiterator", "odict_iterator", "itertools.zip_longest", "itertools.pairwise"].contains j=B)(W:∀A:SC,A.handled=O->Walks P w A a [a] [a] x.cps.size (λi v=>∃c u,x.cps[i]?=Y c/\v=.str ⟨#[c]⟩ u) (λi h=>h.IsStrIter a j x t i))(Uc:∀(A:SC),A.handled=O->∀(i:Nat)(s:IR)(Q:Vv->IR->Prop)(E:Yx),s.heap.IsStrIter a j x t i->x.cps[i]?=O->(∀g,Heap.ExtBut a s.heap g->Q O { s with heap:=g })->PP (KB P w) A (pyNext (.ref a)) Q E s)(QH:∀(A:SC)(i:Nat)(s:IR)(Q:Yx)(E:Yx),s.heap.IsStrIter a j x t i->Q (.ref a) s->PP (KB P w) A (pyIter (.ref a)) Q E s) :
  Turn P w K M (Ln x) [a] a (λi h=>h.IsStrIter a j x t i) where
 mem:=by simp
 obj:=λi h st b hb=>by
  rw[Zk.mp hb];obtain⟨o,e,c,d⟩:=st;exact⟨o,e,λv z=>by rw[d]at z;cases z⟩
 keep:=λi h g st k=>let ⟨o,e,r⟩:=st;⟨o,k a (by simp) o e,r⟩
 item:=by
  intro X n hw p m i f s J H E I l st hg;subst n hw p;obtain⟨D,f1,f2,C,y,q⟩:=l a (by simp);refine(W X.A (I.ok.hd m)).item i s _ _ hg st λv g F S G N=>?_;obtain⟨c,u,Jy,rfl⟩:=S;have I1:Inv X f J H { s with heap:=g,toks:=F }:=I.turned (λb o hb e=>N b o (by simpa using hb) e) D f1 C y q;obtain⟨o,e,c1,d⟩:=id G;exact⟨_,rfl,rA (s:={ s with heap:=g,toks:=F }) e c1 d U ⟨.str ⟨#[c]⟩,H,I1,⟨u,rfl⟩,⟨rfl,c,Jy,rfl⟩,G,λb hb=>(l b hb).1⟩⟩
 done:=by
  intro X n hw p m i f s J H E I l st hg;subst n hw p;obtain⟨D,f1,f2,C,y,q⟩:=l a (by simp);have R:x.cps.size<=i:=hg;exact Uc X.A (I.ok.hd m) i s _ _ st (by simp[R]) λg Z=>⟨rfl,I.turned (t':=s.toks) (λb o hb e=>Z b o hb e) D f1 C y q⟩
 self:=λA i s Q E st h=>QH A i s Q E st h
def Ae{K:X0}(x:Str)(t:Tok)(a:KM):Turn P w K g (Ln x) [a] a (λi h=>h.IsStrIter a (strIterType x) x t i):=by
 cases f:x.cps.all (· < 128)
 ·have e:strIterType x = "str_iterator" := by simp[strIterType,f]
  rw[e];exact pA x t a "str_iterator" rfl (λA b=>Walks.strWide b a x t) (λA b i s Q E st d q=>wpAny_pyNext_wide_end b st d q) λA i s Q E st q=>wpAny_pyIter_striter_wide st q
 ·have e:strIterType x = "str_ascii_iterator" := by simp[strIterType,f]
  rw[e];exact pA x t a "str_ascii_iterator" rfl (λA b=>Walks.strAscii b a x t) (λA b i s Q E st d q=>wpAny_pyNext_ascii_end b st d q) λA i s Q E st q=>wpAny_pyIter_striter_ascii st q
section
def G7(K:X0)(f:TE):TI:=λJ H R=>f J H λx d=>(∃a,x=.ref a/\(∃e,IF K d a e)/\R (VN K a) d)\/(∃a,x=.ref a/\(∃e,Jt K d a e)/\R (U9 K a) d)\/∃z,x=.str z/\R (Ln z) d
def BP(y:PE X l tl):PI X tg l (G7 X.K tl):=by
 intro d s J H R I h;refine thn (y d s J H _ I h) λv s1 ⟨x,g,f,r1,u⟩=>?_;have j:∀b∈[s1.heap.objs.size],oH X d g b:=λb hb=>by
  rw[Zk.mp hb];exact f.MZ (Zp _) (f.Ip.fresh (Zp _))
 rcases u with⟨a,e,⟨n,i⟩,q⟩ | ⟨a,e,⟨n,i⟩,q⟩ | ⟨z,e,q⟩
 ·subst e;cases r1;obtain⟨m,r,p,w⟩:=f.list i;exact wpAny_pyIter_list p.isList ⟨s1.heap.objs.size,[s1.heap.objs.size],_,_,g,rfl,f.kept (t':=s1.toks) λb o e=>Zm _ e,wU a _,⟨_,ZV _ M,rfl,rfl⟩,j,q⟩
 ·subst e;cases r1;obtain⟨m,r,p,w⟩:=f.tuple i;exact wpAny_pyIter_tuple (show s1.heap.IsTuple a m.toArray from p) ⟨s1.heap.objs.size,[s1.heap.objs.size],_,_,g,rfl,f.kept (t':=s1.toks) λb o e=>Zm _ e,t4 a _,⟨_,ZV _ M,rfl,rfl⟩,j,q⟩
 ·subst e;obtain⟨t,rfl⟩:=r1;exact wpAny_pyIter_strU ⟨s1.heap.objs.size,[s1.heap.objs.size],_,_,g,rfl,f.kept (t':=s1.toks) λb o e=>Zm _ e,Ae z t _,⟨_,ZV _ M,rfl,rfl⟩,j,q⟩
def Bx{s:IR}{d:XAA}(g:∀b x,b∉[s.heap.objs.size]->(s.heap.push o).get? b=Y x->d.get? b=Y x)(b:KM)(x:Obj)(e:s.heap.get? b=Y x):d.get? b=Y x :=
 g b x (λf=>YA _ (by have:=ZO e;rw[Zk.mp f]at this;exact this)) (Zm _ e)
def zx{X:Cx}(F:X.calm=L):dm X (.builtin "sum") (λo H Q=>∃p,∃ns:Vg,o=[.ref p]/\IF X.K H p (ns.map V.int)/\Q (.int ns.sum) H):=by
 intro r s J H o N Q I z h;obtain⟨p,ns,rfl,E,q⟩:=h;obtain⟨u,rfl,j⟩:=z.one;cases j;obtain⟨d,g,pl,R⟩:=I.list E;have w:p<s.heap.objs.size:=by obtain⟨_,e,_⟩:=pl.isList;exact ZO e
 refine call_sum_walkG (wpAny_pyIter_list pl.isList ⟨s.heap.objs.size,[s.heap.objs.size,p],[s.heap.objs.size],d.toArray.size,_,_,λi=>(ns[i]?).getD 0,rfl,Walks.list (A:=X.A.in1) (I.ok.hd F) _ p (Ze w) d.toArray,
  ⟨⟨_,ZV _ M,rfl,rfl⟩,pl.isList.push _⟩,λb hb=>?_,λi v G=>?_,λS P y m=>⟨.int ns.sum,H,I.kept (Bx m),⟨y,?_⟩,q⟩⟩)
 ·rw[YJ];rcases Zj.mp hb with rfl | hb
  ·exact Yn _
  ·rw[Zk.mp hb];exact Ym w
 ·have f:d[i]?=Y v:=by simpa using G
  cases e:ns[i]? with
  |none =>
   have:=g.none_of (i:=i) (by rw[ZP,e];rfl);rw[this]at f;cases f
  |some n =>
   obtain⟨u,D,j⟩:=g.get (i:=i) (x:=.int n) (by rw[ZP,e];rfl);rw[D]at f;cases f;obtain⟨t,rfl⟩:=j;exact⟨t,by simp[e]⟩
 ·have hlen:d.toArray.size=ns.length:=by have:=g.length;simp at this ⊢;exact Eq.symm this
  have:∀k,k<=ns.length->preSum (λi=>(ns[i]?).getD 0) k=(ns.take k).sum:=λk=>by
   induction k with
   |zero=>intro _;simp[preSum]
   |succ k C =>
    intro m;rw[List.take_succ,List.sum_append,preSum,C (by exact Nat.le_of_succ_le m)];cases e:ns[k]? <;> simp
  rw[hlen,this _ (Zp _),List.take_length]
def xi:OpR X (UV .Gt) (λx y H Q=>∃i j,x=.str i/\y=.str j/\Q (.bl (decide (j.cps.toList<i.cps.toList))) H):=by
 intro d s J H x y v u Q I f e h;obtain⟨i,j,rfl,rfl,q⟩:=h;obtain⟨t,rfl⟩:=f;obtain⟨g,rfl⟩:=e;exact PySem.P.gt_str ⟨.bl _,H,I,rfl,q⟩
def xO:OpR X (UV .GtE) (λx y H Q=>∃i j,x=.str i/\y=.str j/\Q (.bl (!decide (i.cps.toList<j.cps.toList))) H):=by
 intro d s J H x y v u Q I f e h;obtain⟨i,j,rfl,rfl,q⟩:=h;obtain⟨t,rfl⟩:=f;obtain⟨g,rfl⟩:=e;exact PySem.P.ge_str ⟨.bl _,H,I,rfl,q⟩
end
end L2
end
section
namespace VS
open PySem PySem.Spec PyProof.Rows L2
section
def Es(H:Hp)(s:Tx)(l:oE s):Mc G (L2.Ln (sx s)) (s.map λc=>T.str [c]) [] H:=by
 have sz:(sx s).cps.size=s.length:=rfl;refine⟨λo _ _=>⟨λi t h=>?_,λi h=>(by rw[Zt]at h;show (sx s).cps.size<=i;lia)⟩,λa h=>by simp at h⟩;rw[ZP]at h;obtain⟨c,f,rfl⟩:=Zy.mp h;refine⟨(by show i<(sx s).cps.size;have:=(ZW.mp f).1;lia),λx n ⟨e1,g,j,e2⟩=>?_⟩;subst e1;have:g=c:=by
  have m:(sx s).cps[i]?=Y c:=by simp[sx,f]
  rw[m]at j;exact(Zh j).symm
 subst this;rw[e2];exact⟨aM.refl _,[],.str [g] ⟨(by show 1<=dZ;decide),λd hd=>by rw[Zk.mp hd];exact l.2 g (YU f)⟩,λa h=>by simp at h⟩
def cf(u:PV G X a ca)(A:{`q1,X.K=G.K}):PVI G X tg a (c8 ca) :=
 PI.weak (BP u) λJ H R t=>by
  obtain⟨Z,U,m,l,s,e,k⟩:=t;unfold c8 at e;obtain⟨⟨r,x⟩,w,e1⟩:=Zz.mp e;refine⟨Z,U,r,x,s,w,λv f F e3 j o=>?_⟩;cases x with
  |lst q =>
   cases e1;obtain⟨n,g,y,rfl,rfl,d,i⟩:=j.lst_inv;exact .inl ⟨n,rfl,⟨g,IF.of d⟩,k _ f _ e3 (BL X.K d i) o.c⟩
  |tup q =>
   cases e1;obtain⟨n,g,y,rfl,rfl,d,i⟩:=j.Jn;exact .inr (.inl ⟨n,rfl,⟨g,Jt.of d⟩,k _ f _ e3 (DO X.K d i) o.c⟩)
  |str z =>
   cases e1;obtain⟨rfl,ok⟩:=j.str_inv;exact .inr (.inr ⟨_,rfl,k _ f [] e3 (Es f z ok) λa h=>by simp at h⟩)
  |_=>cases e1
theorem vi:∀{d:List V}{l:Ut}{g:Xz}{f:Vg},RpL G H d l g->tN l=Y f->d=f.map V.int
 |_,_,_,_,.nil,e=>by cases e;rfl
 |_,_,_,_,.cons (t:=t) r q,e=>by
  cases t with
  |int s =>
   obtain⟨h,e1,e2⟩:=Zy.mp e;subst e2;rw[vi q e1,r.int_inv];rfl
  |_=>cases e
def Fe:fK G (λd H Q=>∃p,∃ns:Vg,d=[.ref p]/\IF G.K H p (ns.map V.int)/\Q (.int ns.sum) H) ya:=by
 intro Z U r H l f n m t Q A e k;unfold ya at e;split at e
 ·rename_i q x;obtain⟨i,e1,e2⟩:=Zz.mp e;cases e2;obtain⟨v,F,rfl,rfl,g⟩:=(show RpL G H f [.lst x] n from A.rp).one;obtain⟨a,o,Gs,rfl,rfl,j,h⟩:=g.lst_inv;exact⟨a,i,rfl,by rw[← vi h e1];exact IF.of j,bp k (.int _)⟩
 ·cases e
def FA:bootBuiltins ("sum" : Str)=Y (.builtin "sum"):=by decide +kernel
def yP:bootBuiltins ("tuple" : Str)=Y (.type "tuple"):=by decide +kernel
def w_sum{X:Cx}(d:X.mg "sum" = O)(h:Jz G X [e] cs)(f:{`q1,Gl X "sum"})(i:{`q1,X.K=G.K})(g:{`q1,X.calm=L})(he:{`q1,K1 e [] X}):PV G X (.Call (.Name "sum" p) [e] [] pos) (eN ya cs) :=
 nr (zx g) (i ▸ Fe) f d FA h (he:=he) (hpl:=rfl)
def yQ:fK G (λh H Q=>∃p d,h=[.ref p]/\((IF G.K H p d/\∀l,H l=O->Q (.ref l) (upd H l (.tup d)))\/(Jt G.K H p d/\Q (.ref p) H))) kU:=by
 intro Z U z H l i u m t Q A e k;unfold kU at e;split at e
 ·rename_i w x;split at e
  ·rename_i y;cases e;obtain⟨v,F,rfl,rfl,j⟩:=(show RpL G H i [.lst x] u from A.rp).one;obtain⟨a,d,Gs,rfl,rfl,s,n⟩:=j.lst_inv;have f:=(A.fp.each 0 _ _ M M).sub (Yd _ _);refine⟨a,d,rfl,.inl ⟨IF.of s,λq o=>?_⟩⟩;have g:aM H (upd H q (.tup d)):=bh o;have r:Rp G (upd H q (.tup d)) (.ref q) (.tup x) Gs.flatten:=.tup aw (n.same g);exact k _ _ _ g r (f.up r)
  ·cases e
 ·cases e
def Co{X:Cx}(d:X.mg "tuple" = O)(g:Jz G X [e] cs)(f:{`q1,Gl X "tuple"})(h:{`q1,X.K=G.K})(he:{`q1,K1 e [] X}):PV G X (.Call (.Name "tuple" p) [e] [] pos) (eN kU cs) :=
 js oK (h ▸ yQ) f d yP g (he:=he) (hpl:=rfl)
def rGt:R2:=λx y H Q=>Mj (λi j=>.bl (decide (j<i))) x y H Q\/(∃i j,x=.str i/\y=.str j/\Q (.bl (decide (j.cps.toList<i.cps.toList))) H)
def rGe:R2:=λx y H Q=>Mj (λi j=>.bl (decide (j<=i))) x y H Q\/(∃i j,x=.str i/\y=.str j/\Q (.bl (!decide (i.cps.toList<j.cps.toList))) H)
def yx(s t:Tx):decide ((sx s).cps.toList<(sx t).cps.toList)=KD s t:=by rw[j5];exact decide_eq_decide.mpr (by simp[sx])
def GG:d6 G rGt Nd:=by
 intro Z U i H x y u w l j m t Q d e k;obtain⟨h,x⟩:=x;obtain⟨g,y⟩:=y;obtain⟨same,r1,r2,f1,f2,nd⟩:=d;unfold Nd oLt at e;split at e
 ·rename_i e1 e2;cases e1;cases e2;cases e;exact .inl ⟨_,_,r1.int_inv,r2.int_inv,bp k (.bl _)⟩
 ·rename_i s _ f e1 e2;cases e1;cases e2;cases e;refine .inr ⟨_,_,r1.str_inv.1,r2.str_inv.1,?_⟩;rw[yx];exact bp k (.bl _)
 ·cases e
def Ho:d6 G rGe R5:=by
 intro Z U i H x y u w l j m t Q d e k;obtain⟨h,x⟩:=x;obtain⟨g,y⟩:=y;obtain⟨same,r1,r2,f1,f2,nd⟩:=d;unfold R5 oLe at e;split at e
 ·rename_i e1 e2;cases e1;cases e2;cases e;exact .inl ⟨_,_,r1.int_inv,r2.int_inv,bp k (.bl _)⟩
 ·rename_i s _ f e1 e2;cases e1;cases e2;cases e;refine .inr ⟨_,_,r1.str_inv.1,r2.str_inv.1,?_⟩;rw[yx];exact bp k (.bl _)
 ·cases e
def Ay:Tells Nd:=λx y m t e=>iU y x m t e
def zi(f:PV G X a ca)(d:PV G X b cb):Kg G X (.Compare a [.Gt] [b] pos) (e2 Nd ca cb):=dA (r:=rGt) (G4.or xi) GG Ay f d (fj _)
def r6(R:d6 G r f)(n:d6 G A g)(h:tE G (fP f g ca cb cc) J H Q):um r A (tE G ca) (tE G cb) (tE G cc) J H Q:=by
 obtain⟨Z,U,m,t,s,e,k⟩:=h;unfold fP at e;obtain⟨x,ea,e⟩:=Zz.mp e;obtain⟨y,eb,e⟩:=Zz.mp e;obtain⟨⟨S,z⟩,ez,e⟩:=Zz.mp e;refine Av s ea eb λu w H2 F1 C d=>R Z U H H2 x y u w F1 C S z _ d ez λv H3 F e1 r1 f1=>?_;cases z with
 |bl q =>
  refine⟨q,r1.JL,?_⟩;cases q with
  |false =>
   cases e;rw[Zl Zd];exact k _ H3 [] (d.same.trans e1) (.bl B) Fp.nil
  |true =>
   rw[Zo M];obtain⟨l,ec,e⟩:=Zz.mp (show (cc U).bind (λz=>g y z)=Y (m,t) from e);have i:=d.same.trans e1;refine⟨Z,U,l.1,l.2,s.same i,ec,λD H4 F4 o P j=>?_⟩;refine n Z U H H4 y l w D C F4 m t Q ⟨i.trans o,(d.r2.same e1).same o,P,d.f2,j.back i,λhx hy=>?_⟩ e λE H5 F5 e5 N f5=>k E H5 F5 ((i.trans o).trans e5) N f5;have f2:=d.f2;rw[hx]at f2;rw[hy]at j;refine ZG.mpr ⟨f2.1,j.1,λa ha b hb z=>?_⟩;subst z;exact Iy.oe ((d.r2.same e1).IH a ha) (j.2 a hb)
 |_=>cases e
end
end VS
end
section
namespace L2
open PySem PySem.Spec PyProof.Rows
section
def wG{α:Type}(l:List α)(n:Nat):∀acc:List α,List.foldl (λa x2=>a++x2) acc.toArray (List.replicate n l.toArray)=(acc++(List.replicate n l).flatten).toArray:=by
 induction n with
 |zero=>intro acc;simp
 |succ n b =>
  intro acc;rw[X5,Xq];have e:acc.toArray++l.toArray=(acc++l).toArray:=by simp
  rw[e,b (acc++l),X5,ZI,Zf]
def Ce:OpR X (binaryOp .Mult) (λx y H Q=>∃(l:Vu)(k:Int),x=.str ⟨l.toArray⟩/\y=.int k/\-(2 ^ 62)<=k/\k<2 ^ 62/\l.length*k.toNat<=KF/\Q (.str ⟨(List.replicate k.toNat l).flatten.toArray⟩) H):=by
 intro f s J H x y v u Q I i g h;obtain⟨l,k,rfl,rfl,z,w,b,q⟩:=h;obtain⟨t,rfl⟩:=i;obtain⟨r,rfl⟩:=g;have hlen:(⟨l.toArray⟩:Str).length=l.length:=rfl;refine PySem.P.mul_str ?_ ?_ ?_ ?_
 ·rw[Bool.or_eq_false_iff];exact⟨ZM `am,ZM `am⟩
 ·intro d _ o;rw[hlen]at o;have n:0<k:=by lia
  have:(l.length:Int)*k<=16777216:=by
   have j:l.length*k.toNat<=16777216:=b;have:((l.length*k.toNat:Nat):Int)<=16777216:=by lia
   rw[Int.natCast_mul]at this
   rwa [Int.toNat_of_nonneg `am]at this
  have p:(l.length:Int)*k<=2 ^ 63-1:=by lia
  have:=(Int.le_ediv_iff_mul_le n).mpr p;lia
 ·intro _ _;rw[hlen];exact ZM (by show ¬_ > _;exact Nat.not_lt.mpr b)
 ·by_cases d:k<1
  ·rw[Zo d];have e:k.toNat=0:=by lia
   rw[e]at q;exact⟨by decide,⟨.str ⟨#[]⟩,H,I.tok _,⟨_,rfl⟩,q⟩⟩
  ·rw[Zl d];split
   ·rename_i a;have e:(List.replicate k.toNat l).flatten=l:=by
     rw[Bool.or_eq_true]at a;rcases a with a | a
     ·have:k=1:=by simpa using a
      subst this;show (List.replicate 1 l).flatten=l;simp
     ·have:l=[]:=by
       rw[hlen]at a;exact WO (by simpa using a)
      subst this;simp
    rw[e]at q;exact⟨.str ⟨l.toArray⟩,H,I,⟨t,rfl⟩,q⟩
   ·have e:=wG l k.toNat [];rw[Yc]at e;rw[show (⟨l.toArray⟩:Str).cps=l.toArray from rfl,e];refine⟨?_,⟨.str ⟨(List.replicate k.toNat l).flatten.toArray⟩,H,I.tok _,⟨s.toks,rfl⟩,q⟩⟩;have m:=len_rep l k.toNat;show (⟨(List.replicate k.toNat l).flatten.toArray⟩:Str).length<=KF;show ((List.replicate k.toNat l).flatten.toArray).size<=KF;rw[ZJ,m,Nat.mul_comm];exact b
end
end L2
namespace VS
open PySem PySem.Spec PyProof.Rows L2
section
def Bv:d6 G (λx y H Q=>∃(l:Vu)(k:Int),x=.str ⟨l.toArray⟩/\y=.int k/\-(2 ^ 62)<=k/\k<2 ^ 62/\l.length*k.toNat<=KF/\Q (.str ⟨(List.replicate k.toNat l).flatten.toArray⟩) H) vG:=by
 intro Z U v H x y u w A z m t Q g e k;obtain⟨s,x⟩:=x;obtain⟨r,y⟩:=y;obtain⟨same,r1,r2,f1,f2,nd⟩:=g;unfold vG at e;split at e
 ·rename_i _ h _ j e1 e2;cases e1;cases e2;split at e
  ·rename_i f;cases e;have o:=f.2.1;have n:=f.2.2;unfold NV at o n;refine⟨h,j,r1.str_inv.1,r2.int_inv,by lia,by lia,f.1,bp k (.str _ ⟨?_,λc q=>?_⟩)⟩
   ·rw[len_rep,Nat.mul_comm];exact f.1
   ·obtain⟨x,i,d⟩:=Uz.mp q;rw[(List.mem_replicate.mp i).2]at d;exact r1.str_inv.2.2 c d
  ·cases e
 ·cases e
def AK:PV G X (.Dict [] [] pos) (sD 0 []):=PE.weak yc λJ H Q d=>by
 obtain⟨Z,U,m,t,s,e,k⟩:=d;cases (show Y (Md.fr,T.dct 0 [])=Y (m,t) from e);intro q d;have:Rp G (upd H q (.dK [])) (.ref q) (.dct 0 ((([]:List Key).map aS).zip [])) (q :: ([]:Xz).flatten):=.dct aw M .nil;exact k _ _ [q] (bh d) this ⟨by simp,λb hb=>by rw[Zk.mp hb];exact d⟩
end
section
def jt{X:Cx}(hp:PassesOwn `ay X.A X.env X.xe)(hc:Kg G X c cc)(hb:gE G X h E):PSV G X (.While c h [] pos) (lF cc E) :=
 PS.weak (Ak hp hc hb) λD J H hq=>by
  obtain⟨Z,U,o,s,e,k⟩:=hq;refine⟨λn F N=>∃m r,SR G m r F N/\IE Z U H m r N/\dE cc E n r=Y o,⟨xC,Z,U,s,IE.refl Z U H,e⟩,?_⟩;rintro n F N ⟨m,r,R,f2,e2⟩;cases n with
  |zero=>cases (show (O:Option Out)=Y o from e2)
  |succ n =>
   rw[dE]at e2;obtain⟨⟨mx,x⟩,ex,e3⟩:=Zz.mp e2;obtain⟨t,et,C⟩:=Zz.mp e3;refine⟨m,r,mx,x,t,R,ex,et,λH3 P=>?_⟩;have Q:=R.same P;have y:IE Z U H m r H3:=f2.trans (IE.same P);cases t with
   |false =>
    rw[Zl Zd]at C;cases C;show if B=L then _ else _
    rw[Zl Zd];exact k m F H3 Q y
   |true =>
    rw[Zo M]at C;show if L=L then _ else _
    rw[Zo M];obtain⟨S,e5,z⟩:=Zz.mp C;refine⟨λi g=>∃f d,SR G f d i g/\IE Z U H f d g/\dE cc E n d=Y o,λi g q=>⟨n,Yn n,q⟩,m,r,S,Q,e5,?_⟩;cases S with
    |nx d=>exact λf i g j l=>⟨f,d,j,y.trans l,z⟩
    |ct d=>exact λf i g j l=>⟨f,d,j,y.trans l,z⟩
    |bk d =>
     cases (show Y (Out.nx d)=Y o from z);exact λf i g j l=>k f i g j (y.trans l)
    |rt v d =>
     cases (show Y (Out.rt v d)=Y o from z);exact λu g F4 f i j l r5 q5=>k u g F4 f i j (y.trans l) r5 (q5.back y)
def eR(r:Rp G H v (.dct 0 l) F):∃(a:KM)(f:List Key)(d:List V)(g:Ut)(i:Xz),v=.ref a/\F=a :: i.flatten/\H a=Y (.dK (f.zip d))/\f.length=d.length/\l=(f.map aS).zip g/\RpL G H d g i:=by
 cases r with
 |dct h j q=>exact⟨_,_,_,_,_,rfl,rfl,h,j,rfl,q⟩
def dG(r:Rp G H v t F)(h:iM t=L):∃k:Key,v=kV k/\t=aS k:=by
 cases t with
 |int i=>exact⟨.inl i,r.int_inv,rfl⟩
 |str s=>exact⟨.inr (sx s),r.str_inv.1,by simp[aS,sx]⟩
 |_=>cases h
theorem km{k:Key}:∀{d:List Key}{f:List V}{ts:Ut}{Fs:Xz},d.length=f.length->RpL G H f ts Fs →
  (fq ((d.map aS).zip ts) (aS k)=O/\fZ (d.zip f) k=O)\/∃(i:Nat)(v:V)(t:T)(F:Wp),fq ((d.map aS).zip ts) (aS k)=Y t/\fZ (d.zip f) k=Y v/\f[i]?=Y v/\Fs[i]?=Y F/\Rp G H v t F
 |[],[],_,_,_,.nil=>.inl ⟨rfl,rfl⟩
 |k' :: d,v :: f,_,_,o,.cons (t:=t) (F:=F) (ts:=ts) (Fs:=Fs) r q=>by
  have e:eqT (aS k') (aS k)=decide (k'=k):=by
   rw[YF,decide_eq_true_eq];cases k with
   |inl i=>cases k'<;>simp[aS]
   |inr x =>
    obtain⟨⟨x⟩⟩:=x;cases k' with
    |inl j=>simp[aS]
    |inr y=>obtain⟨⟨y⟩⟩:=y;simp[aS]
  by_cases g:k'=k
  ·refine .inr ⟨0,v,t,F,?_,iV g,rfl,rfl,r⟩;have l:eqT (aS k') (aS k)=L:=by rw[e];exact decide_eq_true g
   simp only[fq,Zc,ZF,Yq,l];rfl
  ·have u:fq (((k' :: d).map aS).zip (t :: ts)) (aS k)=fq ((d.map aS).zip ts) (aS k):=by
    have l:eqT (aS k') (aS k)=B:=by rw[e];exact ZM g
    simp only[fq,Zc,ZF,Yq,l]
   have s:fZ ((k' :: d).zip (v :: f)) k=fZ (d.zip f) k:=by simp[fZ,g]
   rw[u,s];rcases km (k:=k) (by simpa using o) q with h | ⟨i,m,n,E,D,C,A,z,w⟩
   ·exact .inl h
   ·exact .inr ⟨i+1,m,n,E,D,C,by simpa using A,by simpa using z,w⟩
def p8{X:Cx}(m:X.A.units+1<cLine):JX X (λx y H Q=>∃a v,x=.ref a/\gR H a y (Y v)/\Q v H):=by
 intro value slice d s J H x y v u Q I l j h n;obtain⟨a,w,rfl,g,q⟩:=h;cases l;have f:=tF I g;unfold subscriptTail;refine Zu ?_;rw[getitemInPython_of_ne f.not_modules];refine Zu (wpAny_specialOf f PySem.F.slot_dict_getitem.lookup ?_);have fin:PP `ay X.A (subscripted slice B (.ref a) u) (λr i=>PP `ay X.A (letTemporaryGo value (.ref a) r >>= λ_=>pure r) (EP X d J Q) X.xe i) X.xe s:=by
  rw[n];exact wpAny_operating (xN m I g j λz C t o=>Zu (wpAny_letTemporaryGo (Zn ⟨w,H,t,o,q⟩)))
 first
  |exact Zn (Zu fin)
  |exact Zu (Zn (Zu fin))
  |exact Zu fin
def GT(K:X0):R2:=λx y H Q=>SU K x y H Q\/∃a v,x=.ref a/\gR H a y (Y v)/\Q v H
def GD:d6 G (GT G.K) Kd:=by
 intro Z U J H x y u w N M m t Q d e k;obtain⟨g,x⟩:=x;by_cases hd:∃l,x=.dct 0 l
 ·obtain⟨l,rfl⟩:=hd;simp only[Kd]at e;split at e
  ·rename_i o;obtain⟨t',e1,e2⟩:=Zy.mp e;obtain⟨a,ks,P,R,Fs,rfl,rfl,r,n,rfl,q⟩:=eR d.r1;obtain⟨j,rfl,z⟩:=dG d.r2 o;rw[z]at e1;rcases km (k:=j) n q with⟨s,_⟩ | ⟨i,v,S,F,E,D,a3,C,h⟩
   ·rw[s]at e1;cases e1
   ·rw[E]at e1;cases e1;cases e2;refine .inr ⟨a,v,rfl,by rw[← D];exact gR.k r,?_⟩;have f:=((d.f1.sub (Yd _ _)).sub (cn C)).up h;exact k v H F (aM.refl _) h f
  ·cases e
 ·have A:aJ (g,x) y=Y (m,t):=by
   simp only[Kd]at e;split at e
   ·rename_i l hx;exact absurd ⟨_,rfl⟩ hd
   ·exact e
  exact .inl (ux Z U J H (g,x) y u w N M m t Q d A k)
def xJ{X:Cx}(f:Im k X.A)(i:PV G X a ca)(g:PV G X b cb)(d:gz b:=by intro _ _;rfl)(j:{`q1,X.K=G.K}):PV G X (.Subscript a b pos) (e2 Kd ca cb) :=
 PE.weak (n9 (JX.or jP (p8 (kM f))) i g d) λJ H Q h=>by rw[j];exact ly GD h
def fV:T->V
 |.bl b=>.bl b
 |.int i=>.int i
 |.str s=>.str (sx s)
 |_=>.non
def Dl(r:Rp G H v t F)(h:flat t=L):v=fV t/\fB v=L:=by
 cases r with
 |non=>exact⟨rfl,rfl⟩
 |bl b=>exact⟨rfl,rfl⟩
 |int i=>exact⟨rfl,rfl⟩
 |str s d=>exact⟨rfl,rfl⟩
 |_=>cases h
theorem Gq:∀{t u:T},flat t=L->flat u=L->Nm (fV t) (fV u)=eqT t u
 |.non,.non,_,_=>rfl
 |.non,.bl _,_,_=>rfl
 |.non,.int _,_,_=>rfl
 |.non,.str _,_,_=>rfl
 |.bl _,.non,_,_=>rfl
 |.bl _,.bl _,_,_=>rfl
 |.bl _,.int _,_,_=>rfl
 |.bl _,.str _,_,_=>rfl
 |.int _,.non,_,_=>rfl
 |.int _,.bl _,_,_=>rfl
 |.int _,.int _,_,_=>rfl
 |.int _,.str _,_,_=>rfl
 |.str _,.non,_,_=>rfl
 |.str _,.bl _,_,_=>rfl
 |.str _,.int _,_,_=>rfl
 |.str _,.str _,_,_=>AW
def Ax(r:Rp G H v t F)(g:Rp G H w u h)(f:flat t=L)(d:flat u=L):Nm v w=eqT t u/\fB v=L/\fB w=L:=by
 obtain⟨e1,f1⟩:=Dl r f;obtain⟨e2,f2⟩:=Dl g d;refine⟨?_,f1,f2⟩;rw[e1,e2];exact Gq f d
theorem qL(r:Rp G H x t F)(g:flat t=L):∀{d:List V}{f:Ut}{m:Xz},RpL G H d f m->f.all flat=L->d.all fB=L/\QC x d=f.any λy=>eqT y t
 |_,_,_,.nil,_=>⟨rfl,rfl⟩
 |_,_,_,.cons j q,h=>by
  rw[WU,YM]at h;obtain⟨l,i⟩:=qL r g q h.2;obtain⟨e1,e2,e3⟩:=Ax j r h.1 g;refine⟨by rw[WU,e2,l];rfl,?_⟩;unfold QC at i ⊢;rw[Xy,Xy,i,e1]
def Hl(K:X0):R2:=λx y H Q=>RW K B x y H Q\/∃a o,y=.ref a/\gR H a x o/\Q (.bl o.isSome) H
def vy(K:X0):R2:=λx y H Q=>RW K L x y H Q\/∃a o,y=.ref a/\gR H a x o/\Q (.bl (!o.isSome)) H
def Bk{X:Cx}(j:X.A.units+1<cLine):OpR X (UV .In) (λx y H Q=>∃a o,y=.ref a/\gR H a x o/\Q (.bl o.isSome) H):=by
 intro d s J H x y v u Q I i f h;obtain⟨a,o,rfl,g,q⟩:=h;cases f;exact HH j I g i λm l=>⟨.bl o.isSome,H,l,rfl,q⟩
def yW{X:Cx}(j:X.A.units+1<cLine):OpR X (UV .NotIn) (λx y H Q=>∃a o,y=.ref a/\gR H a x o/\Q (.bl (!o.isSome)) H):=by
 intro d s J H x y v u Q I i f h;obtain⟨a,o,rfl,g,q⟩:=h;cases f;exact By j I g i λm l=>⟨.bl (!o.isSome),H,l,rfl,q⟩
def rq(f:RF G Z U N H x y u w Q P)(e:kI x y=Y (m,t)) :
  ∃b,m=.fr/\t=.bl b/\((∃p n,w=.ref p/\(IF G.K H p n\/Jt G.K H p n)/\fB u=L/\n.all fB=L/\QC u n=b)\/∃a o,w=.ref a/\gR H a u o/\o.isSome=b):=by
 obtain⟨m2,y⟩:=y;simp only[kI]at e;split at e
 ·split at e
  ·rename_i d;cases e;obtain⟨a,C,g,R,A,rfl,rfl,h,D,rfl,q⟩:=eR f.r2;obtain⟨z,rfl,E⟩:=dG f.r1 d;refine⟨_,rfl,rfl,.inr ⟨a,fZ (C.zip g) z,rfl,gR.k h,?_⟩⟩;rw[E];rcases km (k:=z) D q with⟨l,j⟩ | ⟨i,v,S,F,M,J,_⟩
   ·rw[l,j];rfl
   ·rw[M,J];rfl
  ·cases e
 ·split at e
  ·rename_i d;cases e;rw[YM]at d;obtain⟨a,g,A,rfl,rfl,h,r⟩:=f.r2.lst_inv;obtain⟨l,j⟩:=qL f.r1 d.1 r d.2;have s:fB u=L:=(Ax f.r1 f.r1 d.1 d.1).2.1;exact⟨_,rfl,rfl,.inl ⟨a,g,rfl,.inl (IF.of h),s,l,j⟩⟩
  ·cases e
 ·split at e
  ·rename_i d;cases e;rw[YM]at d;obtain⟨a,g,A,rfl,rfl,h,r⟩:=f.r2.Jn;obtain⟨l,j⟩:=qL f.r1 d.1 r d.2;have s:fB u=L:=(Ax f.r1 f.r1 d.1 d.1).2.1;exact⟨_,rfl,rfl,.inl ⟨a,g,rfl,.inr (Jt.of h),s,l,j⟩⟩
  ·cases e
 ·cases e
def Gg:d6 G (Hl G.K) kI:=by
 intro Z U j H x y u w n l m t Q f e k;obtain⟨b,rfl,rfl,h⟩:=rq f e;rcases h with⟨p,d,rfl,i,f1,f2,hb⟩ | ⟨a,o,rfl,g,hb⟩
 ·refine .inl ⟨p,d,rfl,i,f1,f2,?_⟩;rw[hb];exact bp k (.bl b)
 ·refine .inr ⟨a,o,rfl,g,?_⟩;rw[hb];exact bp k (.bl b)
def FV:d6 G (vy G.K) cR:=by
 intro Z U r H x y u w v s m t Q j e k;unfold cR at e;split at e
 ·rename_i q f n;cases e;obtain⟨b,rfl,d,h⟩:=rq j n;cases d;rcases h with⟨p,i,rfl,l,f1,f2,hb⟩ | ⟨a,o,rfl,g,hb⟩
  ·refine .inl ⟨p,i,rfl,l,f1,f2,?_⟩;rw[hb];exact bp k (.bl (!f))
  ·refine .inr ⟨a,o,rfl,g,?_⟩;rw[hb];exact bp k (.bl (!f))
 ·cases e
def yS:Tells kI:=by
 intro x y m t e;simp only[kI]at e;split at e
 all_goals first | (split at e<;>first | (cases e;exact⟨_,rfl⟩) | cases e) | cases e
def xK:Tells cR:=by
 intro x y m t e;unfold cR at e;split at e
 ·cases e;exact⟨_,rfl⟩
 ·cases e
def C9{X:Cx}(d:Im k X.A)(h:PV G X a ca)(g:PV G X b cb)(f:{`q3,behindInMarks .In b=B})(i:{`q1,X.K=G.K}):Kg G X (.Compare a [.In] [b] pos) (e2 kI ca cb):=dA (r:=Hl X.K) (xP.or (Bk (kM d))) (i ▸ Gg) yS h g f
def uH{X:Cx}(d:Im k X.A)(h:PV G X a ca)(g:PV G X b cb)(f:{`q3,behindInMarks .NotIn b=B})(i:{`q1,X.K=G.K}):Kg G X (.Compare a [.NotIn] [b] pos) (e2 cR ca cb):=dA (r:=vy X.K) (qd.or (yW (kM d))) (i ▸ FV) xK h g f
end
end VS
end
section
open PySem PyProof.Rows
namespace TS
noncomputable def qr:Bool->Pi->Array Pi->Nat->Nat->Nat->StateT SL Sem (Option Nat):=sortPriv% PySem.Builtin.gallop
noncomputable def mS:Array Pi->Array Pi->StateT SL Sem (Array Pi):=sortPriv% PySem.Builtin.mergeLo
noncomputable def nZ:Array Pi->Array Pi->StateT SL Sem (Array Pi):=sortPriv% PySem.Builtin.mergeHi
def all2{e d:Type}{P:e×d->Prop}(h:∀b a,P (b,a)):∀x,P x:=λ(b,a)=>h b a
def jW{g f e:Type}{P:g×f×e->Prop}(h:∀d b a,P (d,b,a)):∀x,P x:=λ(d,b,a)=>h d b a
def xA{m l j i g:Type}{P:m×l×j×i×g->Prop}(h:∀f e d b a,P (f,e,d,b,a)):∀x,P x:=λ(f,e,d,b,a)=>h f e d b a
def rg{o n m l j i:Type}{P:o×n×m×l×j×i->Prop}(h:∀g f e d b a,P (g,f,e,d,b,a)):∀x,P x:=λ(g,f,e,d,b,a)=>h g f e d b a
def BB{q p o n m l j:Type}{P:q×p×o×n×m×l×j->Prop}(h:∀i g f e d b a,P (i,g,f,e,d,b,a)):∀x,P x:=λ(i,g,f,e,d,b,a)=>h i g f e d b a
structure JE(prog:Re)(w:XAB)(A:SC)(E:Yx)(s:IR)(κ:SortKind)(G:Pi->Prop)(r:Pi->Pi->Bool):Prop where
 run:∀(st:SL)(x y:Pi)(Q:Option Bool->SL->Prop),kindOf st=κ->G x->G y->Q (some (r x y)) st->wpS `ax A E s (lt' x y) Q st
 RD:∀x y,G x->G y->r x y=true->r y x=false
 trans:∀x y z,G x->G y->G z->r y x=false->r z y=false->r z x=false
variable{κ:SortKind}
noncomputable def le(r:Pi->Pi->Bool)(x y:Pi):Prop:=r y x=B
def dP{a:Array Pi}(d:i<a.size)(h:Q a[i] b):wpS `ax A E s (elem' a i) Q b:=by
 rw[elem'_eq,getElem?_pos a i d];exact Za h
noncomputable def LX(r:Pi->Pi->Bool)(left:Bool)(a x:Pi):Bool:=if left then r x a else !(r a x)
noncomputable def bf(left:Bool)(a:Pi)(b:Array Pi)(i:Nat):StateT SL Sem (Option Bool):=do
 let x ← elem' b i
 if left=L then lt' x a else do
  let l ← lt' a x
  pure (Option.map (λx=>!x) l)
def mE(C:JE prog w A E s κ G r)(e:kindOf d=κ)(j:G b)(l:∀x∈a,G x)(f:i<a.size)(h:Q (Y (LX r left b a[i])) d) :
  wpS `ax A E s (bf left b a i) Q d:=by
 unfold bf;refine ZR (dP f ?_);have g:=l _ (Zb f);cases left with
 |true=>exact C.run d _ _ _ e g j h
 |false=>exact ZR (C.run d _ _ _ e j g (Za h))
def mid(h:a<b):a+(b-a)/2<b:=by lia
def sea(left:Bool)(e:Pi)(f:Array Pi)(a n d g:Nat):StateT SL Sem (Option Nat):=do
 let mut lo:=d
 let mut b:=g
 for _ in [0:n] do
  if lo ≥ b then break
  let m:=lo+(b-lo)/2
  let Y more ← bf left e f (a+m) | return O
  if more then lo:=m+1 else b:=m
 return Y b
section
variable{st:SL}
def Ah{prog:Re}{w:XAB}{A:SC}{E:Yx}{s:IR}{G:Pi->Prop}{r:Pi->Pi->Bool}{left:Bool}{key:Pi}{base n:Nat}{Q:Option Nat->SL->Prop}{f:Nat->Bool}(C:JE prog w A E s κ G r){u a:Nat}(Z:kindOf st=κ)(gk:G key)(J:∀x∈arr,G x)(z:∀i,i<n->base+i<arr.size)(N:∀i (a:base+i<arr.size),f i=LX r left key arr[base+i])(y:∀i j,i<=j->j<n->f j=L->f i=L)(fin:∀k,k<=n->(∀i,i<k->f i=L)->(∀i,k<=i->i<n->f i=B)->Q (Y k) st)(H:u<=a)(v:a<=n)(F:∀i,i<u->f i=L)(D:∀i,a<=i->i<n->f i=B):wpS `ax A E s (sea left key arr base n u a) Q st:=by
 unfold sea;refine ZR (XU (YY
  (I:=λx c l=>st=l/\c.1=O/\c.2.1<=c.2.2/\c.2.2<=n/\(∀i,i<c.2.1->f i=L)/\(∀i,c.2.2<=i->i<n->f i=B)/\c.2.2+x<=n+c.2.1)
  (Q:=λc l=>st=l/\c.1=O/\c.2.1=c.2.2/\c.2.2<=n/\(∀i,i<c.2.1->f i=L)/\(∀i,c.2.2<=i->i<n->f i=B)) ?step ?fin ?init) ?post)
 case init=>exact⟨rfl,rfl,H,v,F,D,ZL v (ZQ n u)⟩
 case fin =>
  refine jW λU h t=>?_;rintro l ⟨rfl,e1,p,b,g,d,S⟩;exact⟨rfl,e1,Y3 p (Nat.le_of_add_le_add_left (by rw[WC];exact S)),b,g,d⟩
 case step =>
  intro x;refine jW λU h t=>?_;rintro l _ hx ⟨rfl,e1,p,b,g,d,S⟩
  try dsimp only at *
  split
  ·rename_i q;exact Za ⟨rfl,rfl,Y3 p q,b,g,d⟩
  ·rename_i q;have o:=mid (Nat.lt_of_not_ge q);have P:h<=h+(t-h)/2:=ZQ _ _;generalize h+(t-h)/2=m at o P ⊢;have R:=z m (ZZ o b);refine ZR (mE C Z gk J R ?_)
   try dsimp only
   rw[← N _ R];cases e:f m with
   |true =>
    rw[Zo M];exact Za ⟨rfl,rfl,o,b,λi a=>y i _ (XG a) (ZZ o b) e,d,by(try dsimp only);clear g d y N fin z J H v F D;lia⟩
   |false =>
    rw[Zl Zd];refine Za ⟨rfl,rfl,P,ZS (ZZ o b),g,λi a X=>?_,by(try dsimp only);clear g d y N fin z J H v F D;lia⟩;cases e2:f i with
    |false=>rfl
    |true=>rw[y _ i a X e2]at e;cases e
 case post =>
  refine jW λU h t=>?_;rintro l ⟨rfl,e1,p,b,g,d⟩
  try dsimp only at *
  subst e1;exact Za (fin t b (λi a=>g i (p ▸ a)) d)
def ar1{n:Nat}(h:b<c)(g:a+b<n):a+b+1<=a+min c (n-a):=by lia
def ar2{n:Nat}(h:a<n):a+min c (n-a)<=n:=by lia
def ar3{n:Nat}(h:a+min c (n-a)<=i)(g:i<n):a+c<=i:=by lia
def ar4(h:b<c)(g:b<=a):a+1-min c (a+1)<=a-b:=by omega
def ar5(h:i<a+1-min c (a+1)):c<=a/\i<=a-c:=by omega
def ar6{n:Nat}(h:¬c ≥ n-a):a+c<n:=by omega
def ar7{n:Nat}(h:c ≥ n-a):¬a+c<n:=by lia
def ar8(h:x<c):x+1<2*c+1:=by lia
def ar9:c<2*c+1:=by lia
def ub(C:JE prog w A E s κ G r)(H:kindOf st=κ)(J:G key)(N:∀x∈arr,G x)(U:base+n<=arr.size)(v:a<n)(t:∀i j (b:base+i<arr.size) (S:base+j<arr.size),i<=j->j<n->LX r left key arr[base+j]=L->LX r left key arr[base+i]=L)(h:∀k,k<=n->(∀i (b:base+i<arr.size),i<k->LX r left key arr[base+i]=L)->(∀i (b:base+i<arr.size),k<=i->i<n->LX r left key arr[base+i]=B)->Q (Y k) st) :
  wpS `ax A E s (qr left key arr base n a) Q st:=by
 obtain⟨f,p⟩:∃f:Nat->Bool,∀i (b:base+i<arr.size),f i=LX r left key arr[base+i]:=⟨λi=>if b:base+i<arr.size then LX r left key arr[base+i] else B,λi b=>dif_pos b⟩
 have lt:∀i,i<n->base+i<arr.size:=λi b=>ZZ (Y2 b base) U;have y:∀i j,i<=j->j<n->f j=L->f i=L:=λi j Lq S e=>by
  have b2:=lt j S;have b1:=lt i (Yj Lq S);rw[p j b2]at e;rw[p i b1];exact t i j b1 b2 Lq S e
 have fin:∀k,k<=n->(∀i,i<k->f i=L)->(∀i,k<=i->i<n->f i=B)->Q (Y k) st:=λk h1 h2 h3 =>
  h k h1 (λi b N9=>by rw[← p i b];exact h2 i N9) λi b h4 h5=>by rw[← p i b];exact h3 i h4 h5
 clear h t U;unfold qr;change wpS `ax A E s (_>>=_) Q st;dsimp only;have X:=lt a v;refine ZR (mE C H J N X ?_);dsimp only;rw[← p _ X];cases Z:f a with
 |true =>
  rw[Zo M];refine ZR (XU (YY
   (I:=λx c m=>st=m/\c.1=O/\f (a+c.2.1)=L/\c.2.1<c.2.2/\a+c.2.1<n/\x<c.2.2)
   (Q:=λc m=>st=m/\c.1=O/\f (a+c.2.1)=L/\c.2.1<c.2.2/\a+c.2.1<n/\(a+c.2.2<n->f (a+c.2.2)=B)) ?step1 ?fin1 ?init1) ?post1)
  case init1=>exact⟨rfl,rfl,Z,Vm,v,Vm⟩
  case fin1 =>
   refine jW λR P u=>?_;rintro m ⟨rfl,e1,l,g,d,o⟩;exact⟨rfl,e1,l,g,d,λz=>absurd (Yj (YG _ _) z) (Nat.lt_asymm o)⟩
  case step1 =>
   intro x;refine jW λR P u=>?_;rintro m _ hx ⟨rfl,e1,l,g,d,o⟩;dsimp only at *;split
   ·rename_i q;exact Za ⟨rfl,rfl,l,g,d,λz=>absurd z (ar7 q)⟩
   ·rename_i q;have F:=lt _ (ar6 q);refine ZR (mE C H J N F ?_);dsimp only;rw[← p _ F];cases e:f (a+u) with
    |true=>exact Za ⟨rfl,rfl,e,ar9,ar6 q,ar8 o⟩
    |false=>exact Za ⟨rfl,rfl,l,g,d,λ_=>e⟩
  case post1 =>
   refine jW λR P u=>?_;rintro m ⟨rfl,e1,l,g,d,o⟩;dsimp only at *;subst e1;dsimp only;refine Ah C H J N lt p y fin (ar1 g d) (ar2 v) (λi b=>y i _ (XG b) d l) λi b D=>?_;cases e2:f i with
   |false=>rfl
   |true =>
    have q:=ar3 b D;rw[← o (Yj q D),y _ i q D e2]
 |false =>
  rw[Zl Zd];refine ZR (XU (YY
   (I:=λx c m=>st=m/\c.1=O/\f (a-c.2.1)=B/\c.2.1<c.2.2/\c.2.1<=a/\x<c.2.2)
   (Q:=λc m=>st=m/\c.1=O/\f (a-c.2.1)=B/\c.2.1<c.2.2/\c.2.1<=a/\(c.2.2<=a->f (a-c.2.2)=L)) ?step1 ?fin1 ?init1) ?post1)
  case init1=>exact⟨rfl,rfl,Z,Vm,ZD _,Vm⟩
  case fin1 =>
   refine jW λR P u=>?_;rintro m ⟨rfl,e1,l,g,d,o⟩;exact⟨rfl,e1,l,g,d,λz=>absurd (Yj z v) (Nat.lt_asymm o)⟩
  case step1 =>
   intro x;refine jW λR P u=>?_;rintro m _ hx ⟨rfl,e1,l,g,d,o⟩;dsimp only at *;split
   ·rename_i q;exact Za ⟨rfl,rfl,l,g,d,λz=>absurd z (Nat.not_le_of_gt q)⟩
   ·rename_i q;have F:=lt _ (Yj (YW a u) v);refine ZR (mE C H J N F ?_);dsimp only;rw[← p _ F];cases e:f (a-u) with
    |true=>exact Za ⟨rfl,rfl,l,g,d,λ_=>e⟩
    |false=>exact Za ⟨rfl,rfl,e,ar9,XG (Nat.lt_of_not_ge q),ar8 o⟩
  case post1 =>
   refine jW λR P u=>?_;rintro m ⟨rfl,e1,l,g,d,o⟩;dsimp only at *;subst e1;dsimp only;refine Ah C H J N lt p y fin (ar4 g d) (ZL (YW _ _) (ZS v)) (λi b=>?_) λi b D=>?_
   ·have q:=ar5 b;exact y i _ q.2 (Yj (YW _ _) v) (o q.1)
   ·cases e2:f i with
    |false=>rfl
    |true=>rw[← l,y _ i b D e2]
end
end TS
end
section
open PySem PyProof.Rows
namespace TS
variable{κ:SortKind}
def JE.refl(C:JE prog w A E s κ G r)(h:G x):le r x x:=by
 unfold le;cases e:r x x with
 |false=>rfl
 |true=>exact absurd (C.RD x x h h e) (by rw[e];exact λz=>nomatch z)
def JE.tr(C:JE prog w A E s κ G r)(d:G x)(b:G y)(a:G z)(f:le r x y)(e:le r y z):le r x z:=C.trans x y z d b a f e
def JE.JY(C:JE prog w A E s κ G r)(b:G x)(a:G y)(h:r x y=L):le r x y:=C.RD x y b a h
def Seg(r:Pi->Pi->Bool)(a:Array Pi)(b d:Nat):Prop:=∀i j (f:i<a.size) (e:j<a.size),b<=i->i<=j->j<d->le r a[i] a[j]
def gD(C:JE prog w A E s κ G r){hint:Nat}(v:kindOf m=κ)(l:G d)(t:∀x∈b,G x)(D:a+n<=b.size)(z:hint<n)(u:Seg r b a (a+n))(h:∀k,k<=n->(∀i (f:i<b.size),a<=i->i<a+k->le r b[i] d)->(∀i (f:i<b.size),a+k<=i->i<a+n->le r d b[i])->Q (Y k) m) :
  wpS `ax A E s (qr left d b a n hint) Q m:=by
 have g:∀i (f:i<b.size),G b[i]:=λi f=>t _ (Zb f);refine ub C v l t D z (λi j f o R y e=>?_) λk N J H=>h k N (λi f q F=>?_) λi f q F=>?_
 ·have s1:=u (a+i) (a+j) f o (by exact ZQ _ _) `am `am;cases left with
  |true =>
   unfold LX at e ⊢;rw[Zo M]at e ⊢;cases e2:r b[a+i] d with
   |true=>rfl
   |false=>rw[show r b[a+j] d=B from C.tr l (g _ f) (g _ o) e2 s1]at e;cases e
  |false =>
   unfold LX at e ⊢;rw[Zl Zd]at e ⊢;have P:r d b[a+j]=B:=by simpa using e
   have:=C.tr (g _ f) (g _ o) l s1 P;rw[show r d b[a+i]=B from this];rfl
 ·have e:=J (i-a) `am `am;have p:a+(i-a)=i:=by exact VD q
  simp only[p]at e;cases left with
  |true =>
   unfold LX at e;rw[Zo M]at e;exact C.JY (g _ f) l e
  |false =>
   unfold LX at e;rw[Zl Zd]at e;show r d b[i]=B;simpa using e
 ·have e:=H (i-a) `am `am (by omega);have p:a+(i-a)=i:=by lia
  simp only[p]at e;cases left with
  |true =>
   unfold LX at e;rw[Zo M]at e;exact e
  |false =>
   unfold LX at e;rw[Zl Zd]at e;exact C.JY l (g _ f) (by simpa using e)
def sj{a:Array Pi}(h:x∈a.toList.drop i):∃j,∃(d:j<a.size),i<=j/\a[j]=x:=by
 obtain⟨k,b,e⟩:=Ya h;rw[Yz]at b;rw[XE]at e;have:i+k<a.size:=by simpa using(by omega:i+k<a.toList.length)
 exact⟨i+k,this,by exact ZQ _ _,by simpa using e⟩
def kR{a:Array Pi}(h:x∈(a.toList.drop i).take k):∃j,∃(d:j<a.size),i<=j/\j<i+k/\a[j]=x:=by
 obtain⟨m,b,e⟩:=Ya h;rw[Kw,Yz]at b;rw[XF,XE]at e;have:i+m<a.size:=by simpa using(by omega:i+m<a.toList.length)
 exact⟨i+m,this,by exact ZQ _ _,by lia,by simpa using e⟩
def vw{a:Array Pi}(h:i<a.size):a.toList.drop i=a[i] :: a.toList.drop (i+1):=by
 have:i<a.toList.length:=by simpa using h
 rw[YK this];simp
def iO(h:Seg r a 0 a.size):a.toList.Pairwise (le r):=by
 rw[Y5];intro i j d b e;simpa using h i j (by simpa using d) (by simpa using b) (ZD _) (by exact ZS e) (by simpa using b)
def zU(C:JE prog w A E s κ G r)(f:∀x∈a,G x)(h:a.toList.Pairwise (le r)):Seg r a 0 a.size:=by
 intro i j d e _ g _;rcases Wh i j with l | b
 ·have:=Y5.mp h i j (by simpa using d) (by simpa using e) l;simpa using this
 ·have:i=j:=by exact Y3 g b
  subst this;exact C.refl (f _ (Zb d))
structure MI(r:Pi->Pi->Bool)(a b out:Array Pi)(ia ib:Nat):Prop where
 pm:(out.toList++(a.toList.drop ia++b.toList.drop ib)).Perm (a.toList++b.toList)
 so:out.toList.Pairwise (le r)
 la:∀x∈out.toList,∀y∈a.toList.drop ia,le r x y
 lb:∀x∈out.toList,∀y∈b.toList.drop ib,le r x y
def MR(r:Pi->Pi->Bool)(a b d:Array Pi):Prop:=d.toList.Perm (a.toList++b.toList)/\d.toList.Pairwise (le r)
theorem MI.size{a out:Array Pi}(m:MI r a b out e d)(g:e<=a.size)(f:d<=b.size):out.size+(a.size-e)+(b.size-d)=a.size+b.size:=by
 have:=m.pm.length_eq;simp at this;lia
def MI.LG{k:Nat}(m:MI r a b f d l)(p:Seg r a 0 a.size)(q:∀i (o:i<a.size),d<=i->i<d+k->∀j (n:j<b.size),l<=j->le r a[i] b[j]) :
  MI r a b (f++a.extract d (d+k)) (d+k) l:=by
 have e1:(f++a.extract d (d+k)).toList=f.toList++(a.toList.drop d).take k:=by
  simp[List.extract_eq_drop_take]
 have e2:a.toList.drop d=(a.toList.drop d).take k++a.toList.drop (d+k):=by
  rw[← List.drop_drop];exact(Yi _ _).symm
 have h:(a.toList.drop d).Pairwise (le r):=(iO p).drop;rw[e2,ZA]at h;refine⟨?_,?_,?_,?_⟩
 ·rw[e1];have:=m.pm;rw[e2]at this;simpa[Zf] using this
 ·rw[e1,ZA];refine⟨m.so,h.1,λx e y g=>m.la x e y ?_⟩;exact YC g
 ·rw[e1];intro x e y g;rcases Zi.mp e with e | e
  ·exact m.la x e y (by rw[e2];exact ZX _ g)
  ·exact h.2.2 x e y g
 ·rw[e1];intro x e y g;rcases Zi.mp e with e | e
  ·exact m.lb x e y g
  ·obtain⟨i,o,v,u,rfl⟩:=kR e;obtain⟨j,n,t,rfl⟩:=sj g;exact q i o v u j n t
def MI.swap(m:MI r a b d f e):MI r b a d e f :=
 ⟨((Y8.append_left _).trans m.pm).trans Y8,m.so,m.lb,m.la⟩
def MI.M7{k:Nat}(m:MI r a b e f d)(g:Seg r b 0 b.size)(h:∀i (n:i<b.size),d<=i->i<d+k->∀j (l:j<a.size),f<=j->le r b[i] a[j]) :
  MI r a b (e++b.extract d (d+k)) f (d+k):=(m.swap.LG g h).swap
def yF{a b:Array Pi}(h:i<a.size):b.push a[i]=b++a.extract i (i+1):=by
 apply Array.ext';have:(a.extract i (i+1)).toList=[a[i]]:=by
  have e:i<a.toList.length:=by simpa using h
  simp[List.extract_eq_drop_take,YK e]
 rw[YZ,this,Wb]
def MI.Ja(m:MI r a b e d f)(l:Seg r a 0 a.size)(h:d<a.size)(n:∀j (g:j<b.size),f<=j->le r a[d] b[j]):MI r a b (e.push a[d]) (d+1) f:=by
 rw[yF h];refine m.LG l λi p t q j g o=>?_;have:i=d:=by lia
 subst this;exact n j g o
def MI.JO(m:MI r a b d f e)(g:Seg r b 0 b.size)(h:e<b.size)(i:∀j (l:j<a.size),f<=j->le r b[e] a[j]):MI r a b (d.push b[e]) f (e+1):=(m.swap.Ja g h i).swap
def mN{a:Array Pi}:(a.extract i a.size).toList=a.toList.drop i:=by
 rw[WN,List.extract_eq_drop_take,Yv (by simp)]
def MI.fin(m:MI r a b d g f)(n:Seg r a 0 a.size)(l:Seg r b 0 b.size)(h:g=a.size\/f=b.size):MR r a b (d++a.extract g a.size++b.extract f b.size):=by
 have e:(d++a.extract g a.size++b.extract f b.size).toList=d.toList++(a.toList.drop g++b.toList.drop f):=by
  rw[YZ,YZ,mN,mN,Zf]
 refine⟨by rw[e];exact m.pm,?_⟩;rw[e,ZA];refine⟨m.so,?_,λx j y i=>?_⟩
 ·rcases h with h | h
  ·rw[YN (as:=a.toList) (by simp[h]),Yc];exact(iO l).drop
  ·rw[YN (as:=b.toList) (by simp[h]),ZE];exact(iO n).drop
 ·rcases Zi.mp i with i | i
  ·exact m.la x j y i
  ·exact m.lb x j y i
def MI.last(m:MI r a b d f i)(o:Seg r b 0 b.size)(h:f+1=a.size)(p:∀j (n:j<b.size),le r b[j] a[f]):MR r a b (d++b.extract i b.size++a.extract f a.size):=by
 have e:(d++b.extract i b.size++a.extract f a.size).toList=d.toList++(b.toList.drop i++a.toList.drop f):=by
  rw[YZ,YZ,mN,mN,Zf]
 have e2:a.toList.drop f=[a[f]]:=by rw[vw (by omega),YN (by simp;lia)]
 refine⟨by rw[e];exact(Y8.append_left _).trans m.pm,?_⟩;rw[e,ZA];refine⟨m.so,?_,λx l y g=>?_⟩
 ·rw[ZA];refine⟨(iO o).drop,by rw[e2];exact Wt _ _,λx l y g=>?_⟩;rw[e2]at g;obtain⟨j,n,_,rfl⟩:=sj l;rw[Zk.mp g];exact p j n
 ·rcases Zi.mp g with g | g
  ·exact m.lb x l y g
  ·exact m.la x l y g
end TS
end
section
open PySem PyProof.Rows
namespace TS
variable{κ:SortKind}
noncomputable def gH(a b:SL):Prop:=kindOf b=kindOf a/\arrOf b=arrOf a/\UF b=UF a/\failedOf b=failedOf a
noncomputable def eT:Nat->StateT SL Sem Unit:=sortPriv% PySem.Builtin.setMinGallop
def ir(e:gH d a)(h:∀b,gH d b->Q () b):wpS `ax A E s (eT g) Q a:=by
 unfold eT;exact WK (h _ e)
def gO(h:Q () a):wpS `ax A E s (liftM (rule t)) Q a:=wpS_lift (Vy ⟨rfl,h⟩)
def aC{α:Type}{c:Prop}[Decidable c]{x y:StateT SL Sem α}{Q:α->SL->Prop}(d:c->wpS `ax A E s x Q b)(e:¬c->wpS `ax A E s y Q b) :
  wpS `ax A E s (if c then x else y) Q b:=by
 by_cases a:c
 ·rw[Zo a];exact d a
 ·rw[Zl a];exact e a
def vZ{prog:Re}{w:XAB}{A:SC}{E:Yx}{s:IR}{α:Type}{c:Nat->Prop}[∀n,Decidable (c n)]{d a:Nat->StateT SL Sem α}{Q:α->SL->Prop}{b:SL}(e:∀n,d n=a (n-1))(h:∀n,wpS `ax A E s (a n) Q b):∀n,wpS `ax A E s (if c n then d n else a n) Q b :=
 λn=>aC (λ_=>by rw[e];exact h _) λ_=>h n
def br{prog:Re}{w:XAB}{A:SC}{E:Yx}{s:IR}{α:Type}{a:Array Pi}{i:Nat}{c:Pi->Prop}[∀v,Decidable (c v)]{x y:Pi->StateT SL Sem α}{Q:α->SL->Prop}{b:SL}(e:i<a.size)(d:c a[i]->wpS `ax A E s (x a[i]) Q b)(f:¬c a[i]->wpS `ax A E s (y a[i]) Q b) :
  wpS `ax A E s (elem' a i >>= λv=>if c v then x v else y v) Q b:=ZR (dP e (aC d f))
def zR{α:Type}{c d:Prop}[Decidable c][Decidable d]{x y z:StateT SL Sem α}{Q:α->SL->Prop}(g:c->wpS `ax A E s x Q a)(f:¬c->d->wpS `ax A E s y Q a)(b:¬c->¬d->wpS `ax A E s z Q a) :
  wpS `ax A E s (if c then x else if d then y else z) Q a:=aC g λe=>aC (f e) (b e)
def iS{α β:Type}{a:Array Pi}{m:Pi->StateT SL Sem β}{f:Pi->β->StateT SL Sem α}{Q:α->SL->Prop}(d:i<a.size)(h:wpS `ax A E s (m a[i]) (λv e=>wpS `ax A E s (f a[i] v) Q e) b) :
  wpS `ax A E s (elem' a i >>= λu=>m u >>= λv=>f u v) Q b:=ZR (dP d (ZR h))
structure MC(G:Pi->Prop)(r:Pi->Pi->Bool)(a b:Array Pi):Prop where
 ga:∀x∈a,G x
 gb:∀x∈b,G x
 sa:Seg r a 0 a.size
 sb:Seg r b 0 b.size
 na:0<a.size
 nb:0<b.size
 first:le r b[0] a[0]
 last:∀j (hj:j<b.size),le r b[j] a[a.size-1]
def MC.JZ(M:MC G r a b)(f:i<a.size)(h:i+1=a.size):∀j (d:j<b.size),le r b[j] a[i]:=by
 intro j d;have:=M.last j d;have e:a.size-1=i:=by lia
 simpa[e] using this
def MC.bA(C:JE prog w A E s κ G r)(M:MC G r a b)(e:i<a.size)(f:j<b.size)(h:le r b[j] a[i]):∀k (d:k<a.size),i<=k->le r b[j] a[k]:=λk d g =>
 C.tr (M.gb _ (Zb f)) (M.ga _ (Zb e)) (M.ga _ (Zb d)) h (M.sa i k e d (ZD _) g d)
def MC.aB(C:JE prog w A E s κ G r)(M:MC G r a b)(f:i<a.size)(e:j<b.size)(h:le r a[i] b[j]):∀k (d:k<b.size),j<=k->le r a[i] b[k]:=λk d g =>
 C.tr (M.ga _ (Zb f)) (M.gb _ (Zb e)) (M.gb _ (Zb d)) h (M.sb j k e d (ZD _) g d)
def jk(h:Seg r a 0 a.size)(d e:Nat):Seg r a d e:=λi j g b m f l=>h i j g b (ZD _) f b
def Gn(C:JE prog w A E s κ G r)(hk:kindOf H=κ)(M:MC G r a b)(h:∀res o,gH H o->MR r a b res->Q res o) :
  wpS `ax A E s (mS a b) Q H:=by
 have hna:=M.na;have hnb:=M.nb;unfold mS;change wpS `ax A E s (_>>=_) Q H;dsimp only;refine ZR (gO ?_);have m0:MI r a b #[] 0 0:=⟨by simp,by simp,by simp,by simp⟩
 have m1:MI r a b #[b[0]] 0 1:=m0.JO M.sb M.nb λj l _=>M.bA C M.na M.nb M.first j l (ZD _);have OB:gH H H:=⟨rfl,rfl,rfl,rfl⟩
 refine br M.nb (λe=>?_) λe1=>?_
 ·exact Za (h _ _ OB (m1.fin M.sa M.sb (.inr (by simpa using e))))
 refine aC (λe=>?_) λe2=>?_
 ·exact Za (h _ _ OB (m1.last M.sb (by simpa using e) (M.JZ M.na (by simpa using e))))
 have Rr:1<b.size:=by simp at e1;lia
 have JC:0+1<a.size:=by simp at e2;lia
 refine ZR (Vi ?_);refine ZR (XU (YY
  (I:=λx c o=>gH H o/\c.1=O/\MI r a b c.2.1 c.2.2.1 c.2.2.2.1/\c.2.2.1+1<a.size/\c.2.2.2.1<b.size/\x<c.2.1.size)
  (Q:=λc o=>gH H o/\∃res,c.1=Y res/\MR r a b res) ?step ?fin ?init) ?post)
 case init=>exact⟨OB,rfl,m1,JC,Rr,by simp⟩
 case fin =>
  refine xA λS out u D mg o d=>?_;have kp:=d.1;have t:=d.2.1;have m:=d.2.2.1;have p:=d.2.2.2.1;have f:=d.2.2.2.2.1;have N:=d.2.2.2.2.2;clear d;dsimp only at *;have:=m.size `am (by exact ZS f);lia
 case post =>
  refine xA λS out u D mg=>?_;rintro o ⟨kp,res,t,p⟩;dsimp only at *;subst t;exact Za (h _ _ kp p)
 case step =>
  intro x;refine xA λS out u D mg o _ hx d=>?_;have kp:=d.1;have t:=d.2.1;have m:=d.2.2.1;have p:=d.2.2.2.1;have f:=d.2.2.2.2.1;have N:=d.2.2.2.2.2;clear d;dsimp only at *;refine ZR (XU (YY
   (I:=λy c o=>gH H o/\c.1=O/\MI r a b c.2.1 c.2.2.1 c.2.2.2.1/\c.2.2.1+1<a.size/\c.2.2.2.1<b.size/\x+y<c.2.1.size)
   (Q:=λc o=>gH H o/\((∃res,c.1=Y res/\MR r a b res)\/(c.1=O/\MI r a b c.2.1 c.2.2.1 c.2.2.2.1/\c.2.2.1+1<a.size/\c.2.2.2.1<b.size/\x+1<c.2.1.size))) ?step2 ?fin2 ?init2) ?post2)
  case init2=>exact⟨kp,rfl,m,p,f,by simpa using N⟩
  case fin2 =>
   refine rg λS out u D ac bc o d=>?_;have kp:=d.1;have t:=d.2.1;have m:=d.2.2.1;have p:=d.2.2.2.1;have f:=d.2.2.2.2.1;have N:=d.2.2.2.2.2;clear d;dsimp only at *;exact⟨kp,.inr ⟨t,m,p,f,by(try dsimp only);lia⟩⟩
  case step2 =>
   intro y;refine rg λS out u D ac bc o _ hy d=>?_;have kp:=d.1;have t:=d.2.1;have m:=d.2.2.1;have p:=d.2.2.2.1;have f:=d.2.2.2.2.1;have N:=d.2.2.2.2.2;clear d;dsimp only at *;have U:u<a.size:=by exact XH p
   have gA:=M.ga _ (Zb U);have gB:=M.gb _ (Zb f);refine iS f (dP U ?_);refine ZR (C.run _ _ _ _ (kp.1.trans hk) gB gA ?_);dsimp only;cases e:r b[D] a[u] with
   |true =>
    rw[Zo rfl];have J:=m.JO M.sb f (M.bA C U f (C.JY gB gA e));refine br f (λe3=>?_) λe3=>?_
    ·exact Za ⟨kp,.inl ⟨_,rfl,J.fin M.sa M.sb (.inr (by simpa using e3))⟩⟩
    ·have KJ:D+1<b.size:=by simp at e3;lia
     refine aC (λ_=>?_) λ_=>?_
     ·exact Za ⟨kp,.inr ⟨rfl,J,p,KJ,by simp;lia⟩⟩
     ·exact Za ⟨kp,rfl,J,p,KJ,by simp;lia⟩
   |false =>
    rw[Zl Zd];have J:=m.Ja M.sa U (M.aB C U f e);refine br U (λe3=>?_) λe3=>?_
    ·exact Za ⟨kp,.inl ⟨_,rfl,J.last M.sb (by simpa using e3) (M.JZ (by omega) (by simpa using e3))⟩⟩
    ·have KJ:u+1+1<a.size:=by simp at e3;lia
     refine aC (λ_=>?_) λ_=>?_
     ·exact Za ⟨kp,.inr ⟨rfl,J,KJ,f,by simp;lia⟩⟩
     ·exact Za ⟨kp,rfl,J,KJ,f,by simp;lia⟩
  case post2 =>
   refine rg λS out u D ac bc=>?_;rintro o ⟨kp,⟨res,t,p⟩ | ⟨t,m,p,f,N⟩⟩
   ·dsimp only at *;subst t;exact Za ⟨kp,res,rfl,p⟩
   ·dsimp only at *;subst t;dsimp only;refine ZR (gO ?_);refine ZR (XU (YY
     (I:=λy c o=>gH H o/\c.1=O/\MI r a b c.2.1 c.2.2.1 c.2.2.2.1/\c.2.2.1+1<a.size/\c.2.2.2.1<b.size/\x+1<c.2.1.size)
     (Q:=λc o=>gH H o/\((∃res,c.1=Y res/\MR r a b res)\/(c.1=O/\MI r a b c.2.1 c.2.2.1 c.2.2.2.1/\c.2.2.1+1<a.size/\c.2.2.2.1<b.size/\x+1<c.2.1.size))) ?step3 ?fin3 ?init3) ?post3)
    case init3=>exact⟨kp,rfl,m,p,f,N⟩
    case fin3 =>
     refine rg λS out u D ac bc o d=>?_;have kp:=d.1;have t:=d.2.1;have m:=d.2.2.1;have p:=d.2.2.2.1;have f:=d.2.2.2.2.1;have N:=d.2.2.2.2.2;clear d;exact⟨kp,.inr ⟨t,m,p,f,N⟩⟩
    case post3 =>
     refine BB λS out u D mg ac bc=>?_;rintro o ⟨kp,⟨res,t,p⟩ | ⟨t,m,p,f,N⟩⟩
     ·dsimp only at *;subst t;exact Za ⟨kp,res,rfl,p⟩
     ·dsimp only at *;subst t;dsimp only;exact ZR (ir kp λJh n=>Za ⟨n,rfl,m,p,f,N⟩)
    case step3 =>
     intro y;refine BB λS out u D mg ac bc o _ hy d=>?_;have kp:=d.1;have t:=d.2.1;have m:=d.2.2.1;have p:=d.2.2.2.1;have f:=d.2.2.2.2.1;have N:=d.2.2.2.2.2;clear d;dsimp only at *;have both:∀{mg:Nat}{F:Unit->StateT SL Sem (ForInStep (Option (Array Pi)×Array Pi×Nat×Nat×Nat×Nat×Nat))}{P},(∀Jh,gH H Jh->wpS `ax A E s (F ()) P Jh)->wpS `ax A E s (eT mg>>=F) P o:=λhF=>ZR (ir kp λJh n=>hF Jh n);revert mg;refine vZ (λ_=>rfl) λmg2=>?_;refine both λJh n=>?_;have U:u<a.size:=by exact XH p
     have gB:=M.gb _ (Zb f);refine iS f (gD C (n.1.trans hk) gB M.ga `am (by exact Wj U) (jk M.sa _ _) λk Mr LU Pk=>?_);dsimp only;refine aC (λe5=>?_) λe5=>?_
     ·have J:=m.LG (k:=k) M.sa (λi R h1 h2 j l h3=>C.tr (M.ga _ (Zb R)) gB (M.gb _ (Zb l)) (LU i R h1 h2) (M.sb _ j f l (ZD _) h3 l));refine zR (λq=>?_) (λq g=>?_) λq g=>?_
      ·exact Za ⟨n,.inl ⟨_,rfl,J.last M.sb (by simpa using q) (M.JZ (by simp at q;lia) (by simpa using q))⟩⟩
      ·exact Za ⟨n,.inl ⟨_,rfl,J.fin M.sa M.sb (.inl (by simpa using g))⟩⟩
      have v:u+k<a.size:=by simp at q g;lia
      have Sq:u+k+1<a.size:=by simp at q g;lia
      have hle:∀j (l:j<a.size),u+k<=j->le r b[D] a[j]:=λj l h=>Pk j l h `am;clear q;have X:=J.JO M.sb f hle;refine br f (λZ=>?_) λZ=>?_
      ·exact Za ⟨n,.inl ⟨_,rfl,X.fin M.sa M.sb (.inr (by simpa using Z))⟩⟩
      have O1:D+1<b.size:=by simp at Z;lia
      refine iS v (gD C (n.1.trans hk) (M.ga _ (Zb v)) M.gb `am (by exact Wj O1) (jk M.sb _ _) λk2 T4 J0 Ks=>?_);dsimp only;have m4:=X.M7 (k:=k2) M.sb (λi R h1 h2 j l h3=>C.tr (M.gb _ (Zb R)) (M.ga _ (Zb v)) (M.ga _ (Zb l)) (J0 i R h1 h2) (M.sa _ j v l (ZD _) h3 l));refine aC (λe5=>?_) λe5=>?_
      ·refine aC (λq=>?_) λq=>?_
       ·exact Za ⟨n,.inl ⟨_,rfl,m4.fin M.sa M.sb (.inr (by simpa using q))⟩⟩
       have z:=m4.Ja M.sa v (λj l h=>Ks j l h (by omega));refine br v (λg=>?_) λg=>?_
       ·exact Za ⟨n,.inl ⟨_,rfl,z.last M.sb (by simpa using g) (M.JZ (by simp at g;omega) (by simpa using g))⟩⟩
       have JQ:=g;simp at JQ;refine aC (λ_=>?_) λ_=>?_
       ·exact Za ⟨n,.inr ⟨rfl,z,by(try dsimp only);lia,by(try dsimp only);(try simp at q);lia,by simp;lia⟩⟩
       ·exact Za ⟨n,rfl,z,by(try dsimp only);lia,by(try dsimp only);(try simp at q);lia,by simp;lia⟩
      ·have z:=X.Ja M.sa v (λj l h=>Ks j l `am (by omega));refine br v (λg=>?_) λg=>?_
       ·exact Za ⟨n,.inl ⟨_,rfl,z.last M.sb (by simpa using g) (M.JZ (by simp at g;omega) (by simpa using g))⟩⟩
       have JQ:=g;simp at JQ;refine aC (λ_=>?_) λ_=>?_
       ·exact Za ⟨n,.inr ⟨rfl,z,by(try dsimp only);lia,by(try dsimp only);(try simp at q);omega,by simp;lia⟩⟩
       ·exact Za ⟨n,rfl,z,by(try dsimp only);lia,by(try dsimp only);(try simp at q);omega,by simp;lia⟩
     ·have J:=m;have v:u<a.size:=by omega
      have hle:∀j (l:j<a.size),u<=j->le r b[D] a[j]:=λj l h=>Pk j l `am `am;have X:=J.JO M.sb f hle;refine br f (λZ=>?_) λZ=>?_
      ·exact Za ⟨n,.inl ⟨_,rfl,X.fin M.sa M.sb (.inr (by simpa using Z))⟩⟩
      have O1:D+1<b.size:=by simp at Z;lia
      refine iS v (gD C (n.1.trans hk) (M.ga _ (Zb v)) M.gb `am (by exact Wj O1) (jk M.sb _ _) λk2 T4 J0 Ks=>?_);dsimp only;have m4:=X.M7 (k:=k2) M.sb (λi R h1 h2 j l h3=>C.tr (M.gb _ (Zb R)) (M.ga _ (Zb v)) (M.ga _ (Zb l)) (J0 i R h1 h2) (M.sa _ j v l (ZD _) h3 l));refine aC (λe5=>?_) λe5=>?_
      ·refine aC (λq=>?_) λq=>?_
       ·exact Za ⟨n,.inl ⟨_,rfl,m4.fin M.sa M.sb (.inr (by simpa using q))⟩⟩
       have z:=m4.Ja M.sa v (λj l h=>Ks j l h (by omega));refine br v (λg=>?_) λg=>?_
       ·exact Za ⟨n,.inl ⟨_,rfl,z.last M.sb (by simpa using g) (M.JZ (by simp at g;omega) (by simpa using g))⟩⟩
       have JQ:=g;simp at JQ;refine aC (λ_=>?_) λ_=>?_
       ·exact Za ⟨n,.inr ⟨rfl,z,by(try dsimp only);lia,by(try dsimp only);(try simp at q);lia,by simp;lia⟩⟩
       ·exact Za ⟨n,rfl,z,by(try dsimp only);lia,by(try dsimp only);(try simp at q);lia,by simp;lia⟩
      ·have z:=X.Ja M.sa v (λj l h=>Ks j l `am (by omega));refine br v (λg=>?_) λg=>?_
       ·exact Za ⟨n,.inl ⟨_,rfl,z.last M.sb (by simpa using g) (M.JZ (by simp at g;omega) (by simpa using g))⟩⟩
       have JQ:=g;simp at JQ;refine aC (λ_=>?_) λ_=>?_
       ·exact Za ⟨n,.inr ⟨rfl,z,by(try dsimp only);lia,by(try dsimp only);(try simp at q);omega,by simp;lia⟩⟩
       ·exact Za ⟨n,rfl,z,by(try dsimp only);lia,by(try dsimp only);(try simp at q);omega,by simp;lia⟩
end TS
end
section
open PySem PyProof.Rows
namespace TS
variable{κ:SortKind}
def zK{a:Array Pi}(h:x∈a.toList.take n):∃j,∃(d:j<a.size),j<n/\a[j]=x:=by
 obtain⟨m,b,e⟩:=Ya h;rw[Kw]at b;rw[XF]at e;have:m<a.size:=by simpa using(by lia:m<a.toList.length)
 exact⟨m,this,by lia,by simpa using e⟩
structure HI(r:Pi->Pi->Bool)(a b out:Array Pi)(na nb:Nat):Prop where
 pm:(a.toList.take na++(b.toList.take nb++out.toList.reverse)).Perm (a.toList++b.toList)
 so:out.toList.reverse.Pairwise (le r)
 la:∀x∈out.toList,∀y∈a.toList.take na,le r y x
 lb:∀x∈out.toList,∀y∈b.toList.take nb,le r y x
theorem HI.size{a out:Array Pi}(m:HI r a b out e d)(g:e<=a.size)(f:d<=b.size):out.size+e+d=a.size+b.size:=by
 have:=m.pm.length_eq;simp at this;lia
def HI.LG{k:Nat}(m:HI r a b d f n)(q:Seg r a 0 a.size)(u:k<=f)(t:∀i (p:i<a.size),k<=i->i<f->∀j (o:j<b.size),j<n->le r b[j] a[i]) :
  HI r a b (d++(a.extract k f).reverse) k n:=by
 have e1:(d++(a.extract k f).reverse).toList.reverse=(a.toList.drop k).take (f-k)++d.toList.reverse:=by
  simp[List.extract_eq_drop_take]
 have e2:a.toList.take f=a.toList.take k++(a.toList.drop k).take (f-k):=by
  rw[← Yi k (a.toList.take f),List.take_take,List.drop_take,Yh u]
 have l:(a.toList.take f).Pairwise (le r):=(iO q).take;rw[e2,ZA]at l;have mem:∀x,x∈(d++(a.extract k f).reverse).toList->x∈d.toList\/x∈(a.toList.drop k).take (f-k):=λx e=>by
  have:x∈(d++(a.extract k f).reverse).toList.reverse:=XY.mpr e;rw[e1]at this;rcases Zi.mp this with h | h
  ·exact .inr h
  ·exact .inl (XY.mp h)
 refine⟨?_,?_,?_,?_⟩
 ·rw[e1];have:=m.pm;rw[e2]at this;refine List.Perm.trans ?_ this;rw[Zf];refine List.Perm.append_left _ ?_;rw[← Zf,← Zf];exact List.Perm.append_right _ Y8
 ·rw[e1,ZA];refine⟨l.2.1,m.so,λx e y g=>m.la y (XY.mp g) x ?_⟩;rw[e2];exact ZX _ e
 ·intro x e y g;rcases mem x e with e | e
  ·exact m.la x e y (by rw[e2];exact LH _ g)
  ·exact l.2.2 y g x e
 ·intro x e y g;rcases mem x e with e | e
  ·exact m.lb x e y g
  ·obtain⟨i,p,z,C,rfl⟩:=kR e;obtain⟨j,o,v,rfl⟩:=zK g;exact t i p z `am j o v
def HI.swap(m:HI r a b d f e):HI r b a d e f:=by
 refine⟨?_,m.so,m.lb,m.la⟩;refine List.Perm.trans ?_ (m.pm.trans Y8);rw[← Zf,← Zf];exact List.Perm.append_right _ Y8
def HI.M7{k:Nat}(m:HI r a b d f e)(g:Seg r b 0 b.size)(l:k<=e)(h:∀i (o:i<b.size),k<=i->i<e->∀j (n:j<a.size),j<f->le r a[j] b[i]) :
  HI r a b (d++(b.extract k e).reverse) f k:=(m.swap.LG g l h).swap
def zW{a b:Array Pi}(h:i<a.size):b.push a[i]=b++(a.extract i (i+1)).reverse:=by
 apply Array.ext';have:(a.extract i (i+1)).toList=[a[i]]:=by
  have e:i<a.toList.length:=by simpa using h
  simp[List.extract_eq_drop_take,YK e]
 rw[YZ,Vb,this,Wb];rfl
def HI.Ja(m:HI r a b f d g)(n:Seg r a 0 a.size)(v:0<d)(h:d-1<a.size)(o:∀j (l:j<b.size),j<g->le r b[j] a[d-1]):HI r a b (f.push a[d-1]) (d-1) g:=by
 rw[zW h];have e:d-1+1=d:=by lia
 rw[e];refine m.LG n (by exact YW _ _) λi q u t j l p=>?_;have:i=d-1:=by lia
 subst this;exact o j l p
def HI.JO(m:HI r a b e f d)(g:Seg r b 0 b.size)(l:0<d)(h:d-1<b.size)(i:∀j (n:j<a.size),j<f->le r a[j] b[d-1]):HI r a b (e.push b[d-1]) f (d-1):=(m.swap.Ja g l h i).swap
def BW{a:Array Pi}:(a.extract 0 n).toList=a.toList.take n:=by
 rw[WN,List.extract_eq_drop_take,We,Nat.sub_zero]
def HI.fin(m:HI r a b d g f)(n:Seg r a 0 a.size)(l:Seg r b 0 b.size)(h:g=0\/f=0):MR r a b (a.extract 0 g++b.extract 0 f++d.reverse):=by
 have e:(a.extract 0 g++b.extract 0 f++d.reverse).toList=a.toList.take g++(b.toList.take f++d.toList.reverse):=by
  rw[YZ,YZ,BW,BW,Zf,Vb]
 refine⟨by rw[e];exact m.pm,?_⟩;rw[e,← Zf,ZA];refine⟨?_,m.so,λx i y j=>?_⟩
 ·rcases h with h | h
  ·subst h;rw[List.take_zero,Yc];exact(iO l).take
  ·subst h;rw[List.take_zero,ZE];exact(iO n).take
 ·rcases Zi.mp i with i | i
  ·exact m.la y (XY.mp j) x i
  ·exact m.lb y (XY.mp j) x i
def HI.first(m:HI r a b d i g)(o:Seg r a 0 a.size)(h:g=1)(q:0<b.size)(p:∀j (n:j<a.size),le r b[0] a[j]):MR r a b (b.extract 0 g++a.extract 0 i++d.reverse):=by
 have e:(b.extract 0 g++a.extract 0 i++d.reverse).toList=b.toList.take g++(a.toList.take i++d.toList.reverse):=by
  rw[YZ,YZ,BW,BW,Zf,Vb]
 have e2:b.toList.take g=[b[0]]:=by
  subst h;have:=vw q;rw[We]at this;rw[this];rfl
 refine⟨?_,?_⟩
 ·rw[e];exact m.swap.pm.trans Y8
 rw[e,← Zf,ZA];refine⟨?_,m.so,λx f y l=>?_⟩
 ·rw[ZA];refine⟨by rw[e2];exact Wt _ _,(iO o).take,λx f y l=>?_⟩;rw[e2]at f;obtain⟨j,n,_,rfl⟩:=zK l;rw[Zk.mp f];exact p j n
 ·rcases Zi.mp f with f | f
  ·exact m.lb y (XY.mp l) x f
  ·exact m.la y (XY.mp l) x f
def MC.JJ(C:JE prog w A E s κ G r)(M:MC G r a b):∀j (d:j<a.size),le r (b[0]'M.nb) a[j]:=λj d=>M.bA C M.na M.nb M.first j d (ZD _)
def Hj(C:JE prog w A E s κ G r)(hk:kindOf N=κ)(M:MC G r a b)(h:∀res n,gH N n->MR r a b res->Q res n) :
  wpS `ax A E s (nZ a b) Q N:=by
 have hna:=M.na;have hnb:=M.nb;unfold nZ;change wpS `ax A E s (_>>=_) Q N;dsimp only;have hl0:a.size-1<a.size:=by omega
 refine ZR (gO ?_);have m0:HI r a b #[] a.size b.size:=⟨by simp[Yv],by simp,by simp,by simp⟩
 have m1:HI r a b #[a[a.size-1]] (a.size-1) b.size:=m0.Ja M.sa hna hl0 λj g _=>M.last j g;have OB:gH N N:=⟨rfl,rfl,rfl,rfl⟩
 refine br hl0 (λe=>?_) λe1=>?_
 ·exact Za (h _ _ OB (m1.fin M.sa M.sb (.inl (by simpa using e))))
 refine aC (λe=>?_) λe2=>?_
 ·exact Za (h _ _ OB (m1.first M.sa (by simpa using e) M.nb (M.JJ C)))
 have Rr:0<a.size-1:=by simp at e1;exact KR e1
 have JC:1<b.size:=by simp at e2;lia
 refine ZR (Vi ?_);refine ZR (XU (YY
  (I:=λx c n=>gH N n/\c.1=O/\HI r a b c.2.2.2.1 c.2.1 c.2.2.1/\0<c.2.1/\c.2.1<=a.size/\1<c.2.2.1/\c.2.2.1<=b.size/\x<c.2.2.2.1.size)
  (Q:=λc n=>gH N n/\∃res,c.1=Y res/\MR r a b res) ?step ?fin ?init) ?post)
 case init=>exact⟨OB,rfl,m1,Rr,by(try dsimp only);exact YW _ _,JC,Zp _,by simp⟩
 case fin =>
  refine xA λZ na nb out mg n d=>?_;have kp:=d.1;have u:=d.2.1;have m:=d.2.2.1;have o:=d.2.2.2.1;have J:=d.2.2.2.2.1;have v:=d.2.2.2.2.2.1;have H:=d.2.2.2.2.2.2.1;have U:=d.2.2.2.2.2.2.2;clear d;dsimp only at *;have:=m.size (by omega) (by omega);lia
 case post =>
  refine xA λZ na nb out mg=>?_;rintro n ⟨kp,res,u,o⟩;dsimp only at *;subst u;exact Za (h _ _ kp o)
 case step =>
  intro x;refine xA λZ na nb out mg n _ hx d=>?_;have kp:=d.1;have u:=d.2.1;have m:=d.2.2.1;have o:=d.2.2.2.1;have J:=d.2.2.2.2.1;have v:=d.2.2.2.2.2.1;have H:=d.2.2.2.2.2.2.1;have U:=d.2.2.2.2.2.2.2;clear d;dsimp only at *;refine ZR (XU (YY
   (I:=λy c n=>gH N n/\c.1=O/\HI r a b c.2.2.2.1 c.2.1 c.2.2.1/\0<c.2.1/\c.2.1<=a.size/\1<c.2.2.1/\c.2.2.1<=b.size/\x+y<c.2.2.2.1.size)
   (Q:=λc n=>gH N n/\((∃res,c.1=Y res/\MR r a b res)\/(c.1=O/\HI r a b c.2.2.2.1 c.2.1 c.2.2.1/\0<c.2.1/\c.2.1<=a.size/\1<c.2.2.1/\c.2.2.1<=b.size/\x+1<c.2.2.2.1.size))) ?step2 ?fin2 ?init2) ?post2)
  case init2=>exact⟨kp,rfl,m,o,J,v,H,by simpa using U⟩
  case fin2 =>
   refine rg λZ na nb out ac bc n d=>?_;have kp:=d.1;have u:=d.2.1;have m:=d.2.2.1;have o:=d.2.2.2.1;have J:=d.2.2.2.2.1;have v:=d.2.2.2.2.2.1;have H:=d.2.2.2.2.2.2.1;have U:=d.2.2.2.2.2.2.2;clear d;dsimp only at *;exact⟨kp,.inr ⟨u,m,o,J,v,H,by(try dsimp only);lia⟩⟩
  case step2 =>
   intro y;refine rg λZ na nb out ac bc n _ hy d=>?_;have kp:=d.1;have u:=d.2.1;have m:=d.2.2.1;have o:=d.2.2.2.1;have J:=d.2.2.2.2.1;have v:=d.2.2.2.2.2.1;have H:=d.2.2.2.2.2.2.1;have U:=d.2.2.2.2.2.2.2;clear d;dsimp only at *;have f:na-1<a.size:=by lia
   have t:nb-1<b.size:=by lia
   have gA:=M.ga _ (Zb f);have gB:=M.gb _ (Zb t);refine iS t (dP f ?_);refine ZR (C.run _ _ _ _ (kp.1.trans hk) gB gA ?_);dsimp only;cases e:r b[nb-1] a[na-1] with
   |true =>
    rw[Zo rfl];have S:=m.Ja M.sa o f (λj g hjn=>C.tr (M.gb _ (Zb g)) gB gA (M.sb j _ g t (ZD _) `am t) (C.JY gB gA e));refine br f (λe3=>?_) λe3=>?_
    ·exact Za ⟨kp,.inl ⟨_,rfl,S.fin M.sa M.sb (.inl (by simpa using e3))⟩⟩
    ·have KJ:0<na-1:=by simp at e3;exact KR e3
     refine aC (λ_=>?_) λ_=>?_
     ·exact Za ⟨kp,.inr ⟨rfl,S,KJ,by(try dsimp only);exact ZS f,v,H,by simp;lia⟩⟩
     ·exact Za ⟨kp,rfl,S,KJ,by(try dsimp only);exact ZS f,v,H,by simp;lia⟩
   |false =>
    rw[Zl Zd];have S:=m.JO M.sb (by exact XH v) t (λj g hjn=>C.tr (M.ga _ (Zb g)) gA gB (M.sa j _ g f (ZD _) `am f) e);refine br t (λe3=>?_) λe3=>?_
    ·exact Za ⟨kp,.inl ⟨_,rfl,S.first M.sa (by simpa using e3) M.nb (M.JJ C)⟩⟩
    ·have KJ:1<nb-1:=by simp at e3;lia
     refine aC (λ_=>?_) λ_=>?_
     ·exact Za ⟨kp,.inr ⟨rfl,S,o,J,KJ,by(try dsimp only);exact ZS t,by simp;lia⟩⟩
     ·exact Za ⟨kp,rfl,S,o,J,KJ,by(try dsimp only);exact ZS t,by simp;lia⟩
  case post2 =>
   refine rg λZ na nb out ac bc=>?_;rintro n ⟨kp,⟨res,u,o⟩ | ⟨u,m,o,J,v,H,U⟩⟩
   ·dsimp only at *;subst u;exact Za ⟨kp,res,rfl,o⟩
   ·dsimp only at *;subst u;dsimp only;refine ZR (gO ?_);refine ZR (XU (YY
     (I:=λy c n=>gH N n/\c.1=O/\HI r a b c.2.2.2.1 c.2.1 c.2.2.1/\0<c.2.1/\c.2.1<=a.size/\1<c.2.2.1/\c.2.2.1<=b.size/\x+1<c.2.2.2.1.size)
     (Q:=λc n=>gH N n/\((∃res,c.1=Y res/\MR r a b res)\/(c.1=O/\HI r a b c.2.2.2.1 c.2.1 c.2.2.1/\0<c.2.1/\c.2.1<=a.size/\1<c.2.2.1/\c.2.2.1<=b.size/\x+1<c.2.2.2.1.size))) ?step3 ?fin3 ?init3) ?post3)
    case init3=>exact⟨kp,rfl,m,o,J,v,H,U⟩
    case fin3 =>
     refine rg λZ na nb out ac bc n d=>?_;have kp:=d.1;have u:=d.2.1;have m:=d.2.2.1;have o:=d.2.2.2.1;have J:=d.2.2.2.2.1;have v:=d.2.2.2.2.2.1;have H:=d.2.2.2.2.2.2.1;have U:=d.2.2.2.2.2.2.2;clear d;exact⟨kp,.inr ⟨u,m,o,J,v,H,U⟩⟩
    case post3 =>
     refine BB λZ na nb out mg ac bc=>?_;rintro n ⟨kp,⟨res,u,o⟩ | ⟨u,m,o,J,v,H,U⟩⟩
     ·dsimp only at *;subst u;exact Za ⟨kp,res,rfl,o⟩
     ·dsimp only at *;subst u;dsimp only;exact ZR (ir kp λJh l=>Za ⟨l,rfl,m,o,J,v,H,U⟩)
    case step3 =>
     intro y;refine BB λZ na nb out mg ac bc n _ hy d=>?_;have kp:=d.1;have u:=d.2.1;have m:=d.2.2.1;have o:=d.2.2.2.1;have J:=d.2.2.2.2.1;have v:=d.2.2.2.2.2.1;have H:=d.2.2.2.2.2.2.1;have U:=d.2.2.2.2.2.2.2;clear d;dsimp only at *;have both:∀{mg:Nat}{F:Unit->StateT SL Sem (ForInStep (Option (Array Pi)×Nat×Nat×Array Pi×Nat×Nat×Nat))}{P},(∀Jh,gH N Jh->wpS `ax A E s (F ()) P Jh)->wpS `ax A E s (eT mg>>=F) P n:=λhF=>ZR (ir kp λJh l=>hF Jh l);revert mg;refine vZ (λ_=>rfl) λmg2=>?_;refine both λJh l=>?_;have hB0:0<nb:=by exact XH v
     have t:nb-1<b.size:=by lia
     have gB:=M.gb _ (Zb t);refine iS t (gD C (l.1.trans hk) gB M.ga `am `am (jk M.sa _ _) λk Mr LU Pk=>?_);dsimp only;refine aC (λe5=>?_) λe5=>?_
     ·have S:=m.LG (k:=k) M.sa (by omega) (λi X h1 h2 j g h3=>C.tr (M.gb _ (Zb g)) gB (M.ga _ (Zb X)) (M.sb j _ g t (ZD _) `am t) (Pk i X `am `am));refine aC (λp=>?_) λp=>?_
      ·exact Za ⟨l,.inl ⟨_,rfl,S.fin M.sa M.sb (.inl (by simpa using p))⟩⟩
      have Rb:0<k:=by simp at p;exact KR p
      have f:k-1<a.size:=by lia
      have hle:∀j (g:j<a.size),j<k->le r a[j] b[nb-1]:=λj g h=>LU j g (ZD _) `am;clear p;have m3:=S.JO M.sb hB0 t hle;refine br t (λe4=>?_) λe4=>?_
      ·exact Za ⟨l,.inl ⟨_,rfl,m3.first M.sa (by simpa using e4) M.nb (M.JJ C)⟩⟩
      have O1:1<nb-1:=by simp at e4;lia
      refine iS f (gD C (l.1.trans hk) (M.ga _ (Zb f)) M.gb `am `am (jk M.sb _ _) λk2 T4 J0 Ks=>?_);dsimp only;have m4:=m3.M7 (k:=k2) M.sb (by omega) (λi X h1 h2 j g h3=>C.tr (M.ga _ (Zb g)) (M.ga _ (Zb f)) (M.gb _ (Zb X)) (M.sa j _ g f (ZD _) `am f) (Ks i X `am `am));refine aC (λe5=>?_) λe5=>?_
      ·refine aC (λq=>?_) λq=>?_
       ·exact Za ⟨l,.inl ⟨_,rfl,m4.first M.sa (by simpa using q) M.nb (M.JJ C)⟩⟩
       refine aC (λR=>?_) λR=>?_
       ·exact Za ⟨l,.inl ⟨_,rfl,m4.fin M.sa M.sb (.inr (by simpa using R))⟩⟩
       have z:=m4.Ja M.sa Rb f (λj g h=>J0 j g (ZD _) `am);refine br f (λp=>?_) λp=>?_
       ·exact Za ⟨l,.inl ⟨_,rfl,z.fin M.sa M.sb (.inl (by simpa using p))⟩⟩
       have D:=p;simp at D;refine aC (λ_=>?_) λ_=>?_
       ·exact Za ⟨l,.inr ⟨rfl,z,by(try dsimp only);exact KR D,by(try dsimp only);exact ZS f,by(try dsimp only);(try simp at q);(try simp at R);lia,by(try dsimp only);(try simp at q);lia,by simp;lia⟩⟩
       ·exact Za ⟨l,rfl,z,by(try dsimp only);exact KR D,by(try dsimp only);exact ZS f,by(try dsimp only);(try simp at q);(try simp at R);lia,by(try dsimp only);(try simp at q);lia,by simp;lia⟩
      ·have z:=m3.Ja M.sa Rb f (λj g h=>J0 j g (ZD _) `am);refine br f (λp=>?_) λp=>?_
       ·exact Za ⟨l,.inl ⟨_,rfl,z.fin M.sa M.sb (.inl (by simpa using p))⟩⟩
       have D:=p;simp at D;refine aC (λ_=>?_) λ_=>?_
       ·exact Za ⟨l,.inr ⟨rfl,z,by(try dsimp only);exact KR D,by(try dsimp only);exact ZS f,by(try dsimp only);(try simp at q);(try simp at R);omega,by(try dsimp only);(try simp at q);exact ZS t,by simp;lia⟩⟩
       ·exact Za ⟨l,rfl,z,by(try dsimp only);exact KR D,by(try dsimp only);exact ZS f,by(try dsimp only);(try simp at q);(try simp at R);omega,by(try dsimp only);(try simp at q);exact ZS t,by simp;lia⟩
     ·have S:=m;have Rb:0<na:=o;have f:na-1<a.size:=by lia
      have hle:∀j (g:j<a.size),j<na->le r a[j] b[nb-1]:=λj g h=>LU j g (ZD _) `am;have m3:=S.JO M.sb hB0 t hle;refine br t (λe4=>?_) λe4=>?_
      ·exact Za ⟨l,.inl ⟨_,rfl,m3.first M.sa (by simpa using e4) M.nb (M.JJ C)⟩⟩
      have O1:1<nb-1:=by simp at e4;lia
      refine iS f (gD C (l.1.trans hk) (M.ga _ (Zb f)) M.gb `am `am (jk M.sb _ _) λk2 T4 J0 Ks=>?_);dsimp only;have m4:=m3.M7 (k:=k2) M.sb (by omega) (λi X h1 h2 j g h3=>C.tr (M.ga _ (Zb g)) (M.ga _ (Zb f)) (M.gb _ (Zb X)) (M.sa j _ g f (ZD _) `am f) (Ks i X `am `am));refine aC (λe5=>?_) λe5=>?_
      ·refine aC (λq=>?_) λq=>?_
       ·exact Za ⟨l,.inl ⟨_,rfl,m4.first M.sa (by simpa using q) M.nb (M.JJ C)⟩⟩
       refine aC (λR=>?_) λR=>?_
       ·exact Za ⟨l,.inl ⟨_,rfl,m4.fin M.sa M.sb (.inr (by simpa using R))⟩⟩
       have z:=m4.Ja M.sa Rb f (λj g h=>J0 j g (ZD _) `am);refine br f (λp=>?_) λp=>?_
       ·exact Za ⟨l,.inl ⟨_,rfl,z.fin M.sa M.sb (.inl (by simpa using p))⟩⟩
       have D:=p;simp at D;refine aC (λ_=>?_) λ_=>?_
       ·exact Za ⟨l,.inr ⟨rfl,z,by(try dsimp only);exact KR D,by(try dsimp only);exact ZS f,by(try dsimp only);(try simp at q);(try simp at R);lia,by(try dsimp only);(try simp at q);lia,by simp;lia⟩⟩
       ·exact Za ⟨l,rfl,z,by(try dsimp only);exact KR D,by(try dsimp only);exact ZS f,by(try dsimp only);(try simp at q);(try simp at R);lia,by(try dsimp only);(try simp at q);lia,by simp;lia⟩
      ·have z:=m3.Ja M.sa Rb f (λj g h=>J0 j g (ZD _) `am);refine br f (λp=>?_) λp=>?_
       ·exact Za ⟨l,.inl ⟨_,rfl,z.fin M.sa M.sb (.inl (by simpa using p))⟩⟩
       have D:=p;simp at D;refine aC (λ_=>?_) λ_=>?_
       ·exact Za ⟨l,.inr ⟨rfl,z,by(try dsimp only);exact KR D,by(try dsimp only);exact ZS f,by(try dsimp only);(try simp at q);(try simp at R);omega,by(try dsimp only);(try simp at q);exact ZS t,by simp;lia⟩⟩
       ·exact Za ⟨l,rfl,z,by(try dsimp only);exact KR D,by(try dsimp only);exact ZS f,by(try dsimp only);(try simp at q);(try simp at R);omega,by(try dsimp only);(try simp at q);exact ZS t,by simp;lia⟩
end TS
end
section
open PySem PyProof.Rows
namespace TS
variable{κ:SortKind}
noncomputable def K(a:Array Pi)(i:Nat):Keyed:=(a[i]?).getD (.none,.none)
def zm{a:Array Pi}(h:i<a.size):K a i=a[i]:=by unfold K;rw[getElem?_pos a i h];rfl
def Sg(r:Pi->Pi->Bool)(a:Array Pi)(b d:Nat):Prop:=∀i j,b<=i->i<=j->j<d->le r (K a i) (K a j)
def Ds(r:Pi->Pi->Bool)(a:Array Pi)(b d:Nat):Prop:=∀i j,b<=i->i<=j->j<d->le r (K a j) (K a i)
def lZ{a:Array Pi}(b:j<=a.size)(k:Nat):K (mirror a i j ((j-i)/2)) k=if i<=k/\k<j then K a (i+j-1-k) else K a k:=by
 unfold K;rw[getElem?_mirror_all b];split<;>rfl
def DD{b:Array Pi}(e:a<b.size)(f:d<=a)(k:Nat):K (bubble b a d) k=if k=a-d then K b a else if a-d<k/\k<=a then K b (k-1) else K b k:=by
 unfold K;rw[getElem?_bubble e d f];split
 ·rfl
 ·split<;>rfl
structure Lc(lo:Nat)(Jr st:SL):Prop where
 kind:kindOf st=kindOf Jr
 pend:UF st=UF Jr
 fail:failedOf st=failedOf Jr
 perm:(arrOf st).Perm (arrOf Jr)
 pre:∀j,j<lo->(arrOf st)[j]?=(arrOf Jr)[j]?
theorem Lc.refl(b:Nat)(a:SL):Lc b a a:=⟨rfl,rfl,rfl,Array.Perm.refl _,λ_ _=>rfl⟩
theorem Lc.size{a:SL}(L:Lc d b a):(arrOf a).size=(`bm).size:=L.perm.size_eq
def Lc.good{G:Pi->Prop}{e:Nat}{b a:SL}(L:Lc e b a)(g:∀x∈arrOf b,G x){i:Nat}(d:i<(`bm).size):G (K (arrOf a) i):=by
 rw[zm (by rw[L.size];exact d)];refine g _ ?_;have:(arrOf a)[i]'(by rw[L.size];exact d)∈(arrOf a).toList:=by simp
 have:=(XA.mp L.perm).mem_iff.mp this;simpa using this
def Lc.arr(L:Lc d f a){b:Array Pi}(h:b.Perm (arrOf a))(g:∀j,j<d->b[j]?=(arrOf a)[j]?):Lc d f (setArr a b) :=
 ⟨L.kind,L.pend,L.fail,h.trans L.perm,λj e=>(g j e).trans (L.pre j e)⟩
def Lc.N4(L:Lc b d a){i j:Nat}(g:b<=i)(e:j<=(arrOf d).size):Lc b d (setArr a (mirror (arrOf a) i j ((j-i)/2))) :=
 L.arr (mirror_perm _ _ _ _) λk f=>by rw[getElem?_mirror_all (by rw[L.size];exact e),Zl `am]
def ll(C:JE prog w A E s κ G r)(p:kindOf b=κ)(g:∀x∈arrOf b,G x)(L:Lc o b a)(e:i<(`bm).size)(d:j<(`bm).size)(h:Q (Y (r (K (arrOf a) i) (K (arrOf a) j))) a):wpS `ax A E s (ltAt' i j) Q a:=by
 have l:=L.good g e;have f:=L.good g d;have m:i<(arrOf a).size:=by rw[L.size];exact e
 have n:j<(arrOf a).size:=by rw[L.size];exact d
 rw[ltAt'_eq];refine ZR (Vi ?_);refine ZR (dP m (ZR (dP n ?_)));rw[zm m]at l h;rw[zm n]at f h;exact C.run a _ _ _ (L.kind.trans p) l f h
def Ds.N4(C:JE prog w A E s κ G r){i:Nat}(D:Ds r f g e)(h:∀k,k<e->G (K f k))(o:g<=i)(l:e<=f.size)(n:∀k,i<=k->k<e->le r (K f k) (K f (e-1))) :
  Ds r (mirror f i e ((e-i)/2)) g e:=λp q j t m=>by
 rw[lZ l,lZ l];have eqv:∀u v,i<=u->u<e->i<=v->v<e->le r (K f u) (K f v):=λu v a b c d=>C.tr (h u b) (h _ `am) (h v d) (n u a b) (D v (e-1) (by exact ZL o c) `am `am);split
 ·split
  ·exact eqv _ _ (by omega) (by omega) `am (by omega)
  ·exact D p _ j `am (by omega)
 ·split
  ·lia
  ·exact D p q j t m
def mi1(h:1<=b):a+b-1-(b-1)=a:=by rw[W9 h,Ww]
def Ds.rev(D:Ds r d b a)(h:a<=d.size):Sg r (mirror d b a ((a-b)/2)) b a:=λp q g e f=>by
 rw[lZ h,lZ h,Zo ⟨g,by exact Yj e f⟩,Zo ⟨by exact ZL g e,f⟩];exact D _ _ (by omega) (VZ e _) (by omega)
def Sg.snoc(C:JE prog w A E s κ G r)(S:Sg r b a (a+n))(d:∀k,k<=a+n->G (K b k))(m:1<=n)(h:le r (K b (a+n-1)) (K b (a+n))):Sg r b a (a+n+1):=λi j f g l=>by
 by_cases e:j<a+n
 ·exact S i j f g e
 ·have:j=a+n:=by lia
  subst this;by_cases e2:i=a+n
  ·subst e2;exact C.refl (d _ (Zp _))
  ·exact C.tr (d i (by omega)) (d _ (by exact YW _ _)) (d _ (Zp _)) (S i (a+n-1) f `am (by omega)) h
def Ds.snoc(C:JE prog w A E s κ G r)(S:Ds r b a (a+n))(d:∀k,k<=a+n->G (K b k))(m:1<=n)(h:le r (K b (a+n)) (K b (a+n-1))):Ds r b a (a+n+1):=λi j f g l=>by
 by_cases e:j<a+n
 ·exact S i j f g e
 ·have:j=a+n:=by lia
  subst this;by_cases e2:i=a+n
  ·subst e2;exact C.refl (d _ (Zp _))
  ·exact C.tr (d _ (Zp _)) (d _ (by exact YW _ _)) (d i (by omega)) h (S i (a+n-1) f `am (by omega))
def mO{i j:Nat}(h:Q () (setArr a (mirror (arrOf a) i j ((j-i)/2)))):wpS `ax A E s (reverseSlice' i j) Q a:=by
 rw[reverseSlice'_eq];exact WK h
def rD{α:Type}{c:Prop}[Decidable c]{x R:StateT SL Sem α}{Q:α->SL->Prop}{P:SL->Prop}(D:∀a,P a->wpS `ax A E s R Q a)(d:¬c->P b)(e:c->(∀a,P a->wpS `ax A E s R Q a)->wpS `ax A E s x Q b):wpS `ax A E s (if c then x else R) Q b :=
 aC (λz=>e z D) λz=>D b (d z)
def DY(C:JE prog w A E s κ G r)(u:kindOf t=κ)(g:∀x∈arrOf t,G x)(h0:1<=n)(hn:a+n<=(arrOf t).size)(h:∀m b,Lc a t b->1<=m->m<=n->Sg r `bm a (a+m)->Q (Y m) b):wpS `ax A E s (countRun' a n) Q t:=by
 unfold countRun';change wpS `ax A E s (_>>=_) Q t;dsimp only;have L0:=Lc.refl a t;have Th:1<=1:=Zp _;have s0:Sg r (arrOf t) a (a+1):=λi j y F h3=>by
  have e1:i=a:=by lia
  have e2:j=a:=by lia
  subst e1 e2;exact C.refl (L0.good g `am)
 refine ZR (XU (YY
  (I:=λx c b=>Lc a t b/\c.1=O/\c.2=x/\1<=x/\Sg r `bm a (a+x))
  (Q:=λc b=>Lc a t b/\c.1=O/\1<=c.2/\c.2<=n/\Sg r `bm a (a+c.2)/\(c.2<n->r (K `bm (a+c.2)) (K `bm (a+c.2-1))=true)) ?stepA ?finA ?initA) ?postA)
 case initA=>exact⟨L0,rfl,rfl,Th,s0⟩
 case finA =>
  refine all2 λN l=>?_;rintro b ⟨L,v,p,q,f⟩;dsimp only at *;subst p;refine⟨L,v,by(try dsimp only);omega,by(try dsimp only);lia,f,λz=>?_⟩
  (try dsimp only at z)
  lia
 case stepA =>
  intro x;refine all2 λN l=>?_;rintro b QE QD ⟨L,v,p,q,f⟩;dsimp only at *;subst p;refine ZR (ll C u g L `am (by omega) ?_);dsimp only;have d:∀k,k<=a+l->G (K `bm k):=λk u=>L.good g `am;cases e:r (K `bm (a+l)) (K `bm (a+l-1)) with
  |true=>exact Za ⟨L,rfl,q,by(try dsimp only);exact ZS QD,f,λ_=>e⟩
  |false=>exact Za ⟨L,rfl,rfl,by exact YG _ _,Sg.snoc C f d q e⟩
 case postA =>
  refine all2 λN l=>?_;rintro b ⟨L,v,p,q,f,H⟩;dsimp only at *;subst v;dsimp only;refine aC (λe=>?_) λe=>?_
  ·exact Za (h l b L p q f)
  have e':l<n:=by simp at e;exact XR q e
  have sm:=H e';have d:∀k,k<=a+l->G (K `bm k):=λk u=>L.good g `am;have Z:le r (K `bm (a+l)) (K `bm (a+l-1)):=C.JY (d _ (by exact Zp _)) (d _ (by exact YW _ _)) sm;have J:=L.size;refine rD (P:=λJi=>Lc a t Ji/\Ds r (arrOf Ji) a (a+(l+1))) ?D ?two ?one
  case one =>
   intro e3 Dk;refine ZR (ll C u g L `am `am ?_);dsimp only;cases e4:r (K `bm a) (K `bm (a+l-1)) with
   |true=>exact Za (h l b L p q f)
   |false =>
    rw[Zl Zd];refine ZR (mO ?_);have L1:=L.N4 (i:=a) (j:=a+l) (by exact Zp _) `am;have d0:Ds r `bm a (a+l):=λi j y F h3=>C.tr (d j (by exact ZS h3)) (d _ (by exact YW _ _)) (d i `am) (f j (a+l-1) (by exact ZL y F) `am (by omega))
     (C.tr (d _ (by exact YW _ _)) (d _ (by exact ZQ _ _)) (d i `am) e4 (f a i (by exact Zp _) y (by exact Yj F h3)))
    have U:=Ds.N4 C d0 (λk u=>d k (by exact ZS u)) (i:=a) (by exact Zp _) `am (λk y F=>f k _ y `am (by omega));have X:=Ds.snoc C U (λk u=>L1.good g `am) p (by
     rw[lZ `am,lZ `am,Zl `am,Zo ⟨Xf (Nat.lt_add_of_pos_right (by exact VG p)),WA `am Nat.one_pos⟩,mi1 `am];exact C.tr (d _ (by exact Zp _)) (d _ (by exact YW _ _)) (d _ (by exact ZQ _ _)) Z (d0 _ _ (by exact Zp _) (Xf (Nat.lt_add_of_pos_right (by exact VG p))) (WA `am Nat.one_pos)))
    exact Dk _ ⟨L1,X⟩
  case two =>
   intro e3;have e5:l=1:=by lia
   have d0:Ds r `bm a (a+l):=λi j y F h3=>by
    have e1:i=a:=by lia
    have e2:j=a:=by lia
    subst e1 e2;exact C.refl (d _ (by exact ZQ _ _))
   have X:=Ds.snoc C d0 d p Z;exact⟨L,X⟩
  case D =>
   rintro b ⟨L1,X⟩;clear d J;refine ZR (gO ?_);refine ZR (XU (YY
    (I:=λx c b=>Lc a t b/\c.1=O/\c.2.1=x/\c.2.2+1<=x/\Ds r `bm a (a+x)/\(∀k,a+x-(c.2.2+1)<=k->k<a+x->le r (K `bm k) (K `bm (a+x-1))))
    (Q:=λc b=>Lc a t b/\c.1=O/\c.2.2+1<=c.2.1/\c.2.1<=n/\Ds r `bm a (a+c.2.1)/\(∀k,a+c.2.1-(c.2.2+1)<=k->k<a+c.2.1->le r (K `bm k) (K `bm (a+c.2.1-1)))) ?stepD ?finD ?initD) ?postD)
   case initD =>
    refine⟨L1,rfl,rfl,by(try dsimp only);exact YG _ _,X,λk y F=>?_⟩
    (try dsimp only at y F)
    have e:k=a+(l+1)-1:=by lia
    subst e;exact C.refl (L1.good g `am)
   case finD =>
    refine jW λN o S=>?_;rintro b ⟨L,v,p,q,f,H⟩;dsimp only at *;subst p;exact⟨L,v,q,by(try dsimp only);lia,f,H⟩
   case stepD =>
    intro x;refine jW λN o S=>?_;rintro b QE QD ⟨L,v,p,q,f,H⟩;dsimp only at *;subst p;refine ZR (ll C u g L `am (by omega) ?_);dsimp only;have d:∀k,k<=a+o->G (K `bm k):=λk u=>L.good g `am;have J:=L.size;cases e:r (K `bm (a+o)) (K `bm (a+o-1)) with
    |true =>
     rw[Zo M];have Z:le r (K `bm (a+o)) (K `bm (a+o-1)):=C.JY (d _ (by exact Zp _)) (d _ (by exact YW _ _)) e;refine aC (λz=>?_) λz=>?_
     ·refine ZR (mO ?_);have L2:=L.N4 (i:=a+o-(S+1)) (j:=a+o) `am `am;have U:=Ds.N4 C f (λk u=>d k (by exact ZS u)) (i:=a+o-(S+1)) `am `am H;refine Za ⟨L2,rfl,rfl,by(try dsimp only);exact YG _ _,Ds.snoc C U (λk u=>L2.good g `am) `am ?_,λk y F=>?_⟩
      ·show le r (K (mirror _ _ _ _) _) (K (mirror _ _ _ _) _);rw[lZ `am,lZ `am,Zl `am,Zo ⟨VZ (YG 1 S) _,WA `am Nat.one_pos⟩,mi1 `am];exact C.tr (d _ (by exact Zp _)) (d _ (by exact YW _ _)) (d _ (by exact YW _ _)) Z (f _ _ `am (VZ (YG 1 S) _) (WA `am Nat.one_pos))
      ·(try dsimp only at y F)
       have e:k=a+(o+1)-1:=by lia
       subst e;exact C.refl (L2.good g `am)
     ·refine Za ⟨L,rfl,rfl,by(try dsimp only);exact YG _ _,Ds.snoc C f d `am Z,λk y F=>?_⟩
      (try dsimp only at y F)
      have e:k=a+(o+1)-1:=by lia
      subst e;exact C.refl (L.good g `am)
    |false =>
     rw[Zl Zd];refine ZR (ll C u g L `am `am ?_);dsimp only;cases e2:r (K `bm (a+o-1)) (K `bm (a+o)) with
     |true=>exact Za ⟨L,rfl,q,by(try dsimp only);exact ZS QD,f,H⟩
     |false =>
      refine Za ⟨L,rfl,rfl,by(try dsimp only);exact Xo q,Ds.snoc C f d `am e2,λk y F=>?_⟩
      (try dsimp only at y F)
      have ee:a+(o+1)-1=a+o:=by lia
      rw[ee];by_cases ek:k=a+o
      ·subst ek;exact C.refl (d _ (by exact Zp _))
      ·exact C.tr (d _ `am) (d _ (by exact YW _ _)) (d _ (by exact Zp _)) (H k `am `am) e
   case postD =>
    refine jW λN o S=>?_;rintro b ⟨L,v,q,q6,f,H⟩;dsimp only at *;subst v;dsimp only;have d:∀k,k<a+o->G (K `bm k):=λk u=>L.good g `am;have J:=L.size;have Th:1<=o:=by lia
    refine rD (P:=λJi=>Lc a t Ji/\Ds r (arrOf Ji) a (a+o)) ?R ?two2 ?one2
    case one2 =>
     intro z Dk2;refine ZR (mO ?_);have L2:=L.N4 (i:=a+o-(S+1)) (j:=a+o) `am `am;have U:=Ds.N4 C f d (i:=a+o-(S+1)) `am `am H;exact Dk2 _ ⟨L2,U⟩
    case two2=>exact λ_=>⟨L,f⟩
    case R =>
     clear f H d J L;rintro b ⟨L,f⟩;have J:=L.size;refine ZR (mO ?_);have L0:=L.N4 (i:=a) (j:=a+o) (by exact Zp _) `am;have s0:=f.rev `am;refine ZR (XU (YY
      (I:=λx c b=>Lc a t b/\c.1=O/\c.2=x/\1<=x/\Sg r `bm a (a+x))
      (Q:=λc b=>Lc a t b/\c.1=O/\1<=c.2/\c.2<=n/\Sg r `bm a (a+c.2)/\(c.2<n->r (K `bm (a+c.2)) (K `bm (a+c.2-1))=true)) ?stepA ?finA ?initA) ?postA)
     case initA=>exact⟨L0,rfl,rfl,Th,s0⟩
     case finA =>
      refine all2 λN l=>?_;rintro b ⟨L,v,p,q,f⟩;dsimp only at *;subst p;refine⟨L,v,by(try dsimp only);omega,by(try dsimp only);lia,f,λz=>?_⟩
      (try dsimp only at z)
      lia
     case stepA =>
      intro x;refine all2 λN l=>?_;rintro b QE QD ⟨L,v,p,q,f⟩;dsimp only at *;subst p;refine ZR (ll C u g L `am `am ?_);dsimp only;have d:∀k,k<=a+l->G (K `bm k):=λk u=>L.good g `am;cases e:r (K `bm (a+l)) (K `bm (a+l-1)) with
      |true=>exact Za ⟨L,rfl,q,by(try dsimp only);exact ZS QD,f,λ_=>e⟩
      |false=>exact Za ⟨L,rfl,rfl,by exact YG _ _,Sg.snoc C f d q e⟩
     case postA =>
      refine all2 λN c3=>?_;rintro b ⟨L,v,p,q,f,H⟩;dsimp only at *;subst v;exact Za (h c3 b L p q f)
end TS
end
section
open PySem PyProof.Rows
namespace TS
variable{κ:SortKind}
def ye(h:Q () (setArr a (bubble (arrOf a) i (i-j)))):wpS `ax A E s (moveDown' i j) Q a:=by
 rw[moveDown'_eq];exact WK h
def Lc.bub(L:Lc b e a)(h:b+d<=i)(f:i<(arrOf e).size):Lc b e (setArr a (bubble (arrOf a) i d)) :=
 L.arr (bubble_perm _ _ _) λk g=>by rw[getElem?_bubble (by rw[L.size];exact f) d `am,Zl `am,Zl `am]
def HW(h:¬a ≥ b):a<=(a+b)/2/\(a+b)/2<b:=by omega
def Eu(C:JE prog w A E s κ G r)(hk:kindOf t=κ)(g:∀x∈arrOf t,G x)(h0:1<=D)(Ip:D<=n)(hn:a+n<=(arrOf t).size)(S:Sg r (arrOf t) a (a+D))(h:∀b,Lc a t b->Sg r `bm a (a+n)->Q true b):wpS `ax A E s (binarySort' a n D) Q t:=by
 unfold binarySort';change wpS `ax A E s (_>>=_) Q t;dsimp only;have em:max D 1=D:=Nat.max_eq_left h0;rw[em];refine ZR (XU (YY
  (I:=λx c b=>Lc a t b/\c.1=O/\Sg r `bm a (a+x))
  (Q:=λc b=>Lc a t b/\c.1=O/\Sg r `bm a (a+n)) ?step ?fin ?init) ?post)
 case init=>exact⟨Lc.refl _ _,rfl,S⟩
 case fin =>
  refine all2 λJ q=>?_;rintro b ⟨L,X,f⟩;have e:max D n=n:=Nat.max_eq_right Ip;rw[e]at f;exact⟨L,X,f⟩
 case post =>
  refine all2 λJ q=>?_;rintro b ⟨L,X,f⟩;dsimp only at *;subst X;exact Za (h b L f)
 case step =>
  intro k;refine all2 λJ q=>?_;rintro b Mr LU ⟨L,X,f⟩;dsimp only at *;have hsz:=L.size;have bk:a+k<(arrOf t).size:=ZZ (Y2 LU a) hn;have p:∀j,j<=a+k->G (K `bm j):=λj hj=>L.good g (Yj hj bk);refine ZR (XU (YY
   (I:=λx c M=>b=M/\c.1=O/\c.2.1<=c.2.2/\c.2.2<=k/\c.2.2+x<=k+c.2.1/\(∀i,a<=i->i<a+c.2.1->le r (K `bm i) (K `bm (a+k)))/\(∀i,a+c.2.2<=i->i<a+k->le r (K `bm (a+k)) (K `bm i)))
   (Q:=λc M=>b=M/\c.1=O/\c.2.1=c.2.2/\c.2.2<=k/\(∀i,a<=i->i<a+c.2.1->le r (K `bm i) (K `bm (a+k)))/\(∀i,a+c.2.2<=i->i<a+k->le r (K `bm (a+k)) (K `bm i))) ?step2 ?fin2 ?init2) ?post2)
  case init2=>exact⟨rfl,rfl,by(try dsimp only);exact ZD _,by(try dsimp only);exact Zp _,Zp _,λi o d=>absurd d (Nat.not_lt_of_ge o),λi o d=>absurd d (Nat.not_lt_of_ge o)⟩
  case fin2 =>
   refine jW λd1 l rr=>?_;rintro M ⟨e,U,N,u,q6,y,v⟩;dsimp only at *;exact⟨e,U,Y3 N (Nat.le_of_add_le_add_left (by rw[WC];exact q6)),u,y,v⟩
  case step2 =>
   intro x;refine jW λd1 l rr=>?_;rintro M _ hx ⟨e,U,N,u,q6,y,v⟩;subst e;dsimp only at *;refine aC (λz=>?_) λz=>?_
   ·exact Za ⟨rfl,rfl,by(try dsimp only);exact Y3 N z,u,y,v⟩
   ·obtain⟨m1,Z⟩:=HW z;generalize (l+rr)/2=m at m1 Z ⊢;have mk:a+m<a+k:=Y2 (ZZ Z u) a;refine ZR (ll C hk g L bk (WD mk bk) ?_);dsimp only;cases e2:r (K `bm (a+k)) (K `bm (a+m)) with
    |true =>
     have l1:=C.JY (p _ (Zp _)) (p _ (ZS mk)) e2;exact Za ⟨rfl,rfl,m1,ZL (ZS Z) u,by(try dsimp only);clear f y v p g hn bk mk;omega,y,λi o d=>C.tr (p _ (Zp _)) (p _ (ZS mk)) (p _ (ZS d)) l1 (f _ i (by exact ZQ _ _) o d)⟩
    |false =>
     refine Za ⟨rfl,rfl,Z,u,by(try dsimp only);clear f y v p g hn bk mk;omega,λi o d=>?_,v⟩
     (try dsimp only at d)
     have h3:i<=a+m:=XG d;exact C.tr (p _ (ZL h3 (ZS mk))) (p _ (ZS mk)) (p _ (Zp _)) (f i (a+m) o h3 mk) e2
  case post2 =>
   refine jW λd1 l rr=>?_;rintro M ⟨e,U,N,u,y,v⟩;subst e;dsimp only at *;subst U;dsimp only;refine ZR (ye ?_);rw[Nat.add_sub_add_left];subst N;have J9:a+k<(`bm).size:=by rw[hsz];exact bk
   have kl:k-l<=a+k:=ZL (YW k l) (YG k a);refine Za ⟨L.bub (Xe (YW k l) a) bk,rfl,λi j o d h3=>?_⟩;show le r (K (bubble _ _ _) i) (K (bubble _ _ _) j);rw[DD J9 kl,DD J9 kl,show a+k-(k-l)=a+l by rw[W9 (YW k l),Nat.sub_sub_self u]];have R:j<=a+k:=XG h3;by_cases J:i=a+l
   ·rw[Zo J];by_cases q:j=a+l
    ·rw[Zo q];exact C.refl (p _ (by exact Zp _))
    ·have F:a+l<j:=XR (J ▸ d) (YH q);rw[Zl q,Zo ⟨F,R⟩];exact v _ (Xf F) (Vf (Wk F) R)
   ·rw[Zl J];by_cases P:a+l<i/\i<=a+k
    ·rw[Zo P];have F:a+l<j:=ZZ P.1 d;rw[Zl (XS F),Zo ⟨F,R⟩];exact f _ _ (Xf (Yj (ZQ _ _) P.1)) (Nat.sub_le_sub_right d 1) (Vf (Wk F) R)
    ·rw[Zl P];by_cases q:j=a+l
     ·rw[Zo q];exact y i o (XR (q ▸ d) J)
     ·rw[Zl q];by_cases H:a+l<j/\j<=a+k
      ·rw[Zo H];exact f _ _ o (Xf (Yj (ZK λz=>P ⟨z,ZL d H.2⟩) H.1)) (Vf (Wk H.1) H.2)
      ·rw[Zl H];exact f _ _ o d (ZZ (XR (ZK λz=>H ⟨z,R⟩) q) (Xe u a))
theorem ve(b:Nat):∀(l:List Pi)(off:Nat)(arr:Array Pi),b+off+l.length<=arr.size →
  ((l.zipIdx off).foldl (λa x=>a.setIfInBounds (b+x.snd) x.fst) arr).toList=arr.toList.take (b+off)++l++arr.toList.drop (b+off+l.length)
 |[],off,arr,h=>by simp
 |x :: l,off,arr,h=>by
  rw[List.zipIdx_cons,Xq];rw[Zg]at h;rw[ve b l (off+1) _ (by rw[Array.size_setIfInBounds];lia)];dsimp only;have d:b+off<arr.toList.length:=by simp;lia
  rw[Array.toList_setIfInBounds,List.set_eq_take_append_cons_drop,Zo d];have e1:(arr.toList.take (b+off)++x :: arr.toList.drop (b+off+1)).take (b+(off+1))=arr.toList.take (b+off)++[x]:=by
   have:(arr.toList.take (b+off)).length=b+off:=by rw[Kw];lia
   rw[List.take_append,this,Yv (by rw[this];lia)];have:b+(off+1)-(b+off)=1:=by lia
   rw[this];rfl
  have e2:(arr.toList.take (b+off)++x :: arr.toList.drop (b+off+1)).drop (b+(off+1)+l.length)=arr.toList.drop (b+off+(l.length+1)):=by
   have:(arr.toList.take (b+off)).length=b+off:=by rw[Kw];lia
   rw[WV,this,YN (by rw[this];lia),Yc];have:b+(off+1)+l.length-(b+off)=l.length+1:=by lia
   rw[this,List.drop_succ_cons,List.drop_drop];congr 1;lia
  rw[e1,e2];simp
end TS
end
section
open PySem PyProof.Rows
namespace TS
variable{κ:SortKind}
def ik{a:Array Pi}(e:a.toList=P++X++S)(j:Nat)(b:j<X.length):∃h:P.length+j<a.size,a[P.length+j]=X[j]:=by
 have f:a.size=P.length+X.length+S.length:=by
  have:=congrArg List.length e;simp at this;lia
 have h:P.length+j<a.size:=by lia
 refine⟨h,?_⟩;have d:a[P.length+j]?=X[j]?:=by
  rw[← Lj,e,Zf,Mv (by exact ZQ _ _),YD,Mu b]
 rw[getElem?_pos a _ h,getElem?_pos X _ b]at d;exact Zh d
def wb(C:JE prog w A E s κ G r){a:Array Pi}(e:a.toList=P++X++S)(g:∀x∈a,G x)(f:X.Pairwise (le r)):Seg r a P.length (P.length+X.length):=by
 intro i j h n q p o;obtain⟨d,rfl⟩:∃d,i=P.length+d:=⟨i-P.length,by lia⟩
 obtain⟨b,rfl⟩:∃b,j=P.length+b:=⟨j-P.length,by lia⟩
 obtain⟨_,e1⟩:=ik e d `am;obtain⟨_,e2⟩:=ik e b `am;rcases Wh d b with m | l
 ·rw[e1,e2];exact Y5.mp f d b `am `am m
 ·have:d=b:=by lia
  subst this;exact C.refl (g _ (Zb h))
def To{p k x m:Nat}(h:k<=x):p+k+(x-k+m)=p+x+m:=by rw[X8,← X8 k,VY h,X8]
def ml7{s:Nat}(h:k<=x)(g:m<=y):p+k+(x-k+m)<=p+x+y+s:=by
 rw[To h];exact ZL (Xe g _) (ZQ _ _)
def FK(C:JE prog w A E s κ G r){P X Y S:List Pi}(hk:kindOf b=κ)(g:∀x∈arrOf b,G x)(hf:failedOf b=O)(t:(`bm).toList=P++X++(Y++S))(p1:(UF b)[i]?=some (P.length,X.length,pw))(p2:(UF b)[i+1]?=some (P.length+X.length,Y.length,SW))(F:X.Pairwise (le r))(H:Y.Pairwise (le r))(nX:0<X.length)(nY:0<Y.length)(h:∀Z M,M.Perm (X++Y)->M.Pairwise (le r)->(arrOf Z).toList=P++M++S->kindOf Z=kindOf b->failedOf Z=O →
   UF Z=((UF b).setIfInBounds i (P.length,X.length+Y.length,pw)).eraseIdxIfInBounds (i+1)->Q L Z):wpS `ax A E s (mergeAt' i) Q b:=by
 have e2:(`bm).toList=(P++X)++Y++S:=by rw[t];simp
 have hs:(`bm).size=P.length+X.length+Y.length+S.length:=by
  have:=congrArg List.length t;simp at this;lia
 have gm:∀x,x∈(`bm).toList->G x:=λx d=>g x (by simpa using d);have gX:∀x∈X,G x:=λx d=>gm x (by rw[t];simp[d]);have J:∀x∈Y,G x:=λx d=>gm x (by rw[t];simp[d]);have SS:=wb C t g F;have Ou:=wb C e2 g H;rw[Zw]at Ou;obtain⟨hb,eb⟩:=ik e2 0 nY;simp only[Zw,VE]at hb eb;obtain⟨N,el⟩:=ik t (X.length-1) (WA nX Nat.one_pos);have gb:G `bm[P.length+X.length]:=g _ (Zb hb);unfold mergeAt';change wpS `ax A E s (_>>=_) Q b;dsimp only;refine ZR (Vi ?_);rw[show (sortPriv% PySem.Builtin.SortState.pending) b=UF b from rfl,p1,p2];dsimp only;refine ZR (show wpS _ _ _ _ (set _) _ _ from ?_);refine(show wpS `ax A E s (modify (λ_=>SortSt.mk' (kindOf b) `bm (((UF b).setIfInBounds i (P.length,X.length+Y.length,pw)).eraseIdxIfInBounds (i+1)) (gallopOf b) (failedOf b))) _ b from WK ?_);refine ZR (dP hb ?_);refine ZR (gD C (hint:=0) (by exact hk) gb g (by show P.length+X.length<=(`bm).size;exact ZS hb) nX SS λk Mr LU Pk=>?_);dsimp only;have z1:∀x∈X.take k,le r x `bm[P.length+X.length]:=λx d=>by
  obtain⟨j,e,rfl⟩:=Ya d;rw[Kw]at e;obtain⟨o,e3⟩:=ik t j (ZZ e (Xn _ _));rw[XF,← e3];exact LU _ o (by exact ZQ _ _) (Y2 (ZZ e (Nat.min_le_left _ _)) _)
 have z2:∀x∈X.drop k,le r `bm[P.length+X.length] x:=λx d=>by
  obtain⟨j,e,rfl⟩:=Ya d;rw[Yz]at e;have J5:=Nat.add_lt_of_lt_sub' e;obtain⟨o,e3⟩:=ik t (k+j) J5;rw[XE,← e3];exact Pk _ o (Xe (ZQ _ _) _) (Y2 J5 _)
 have UZ:∀y∈Y,le r `bm[P.length+X.length] y:=λy f=>by
  obtain⟨j,e,rfl⟩:=Ya f;obtain⟨o,e3⟩:=ik e2 j e;simp only[Zw]at o e3;rw[← e3];exact Ou _ _ hb o (by exact Zp _) (by exact ZQ _ _) (Y2 e _)
 refine aC (λe3=>?_) λe3=>?_
 ·have KJ:X.length<=k:=by simp at e3;lia
  refine Za (h _ (X++Y) (Y0 _) ?_ (by show (`bm).toList=_;rw[t];simp) rfl hf rfl);rw[ZA];refine⟨F,H,λx d y f=>C.tr (gX x d) gb (J y f) (z1 x (by rw[Yv KJ];exact d)) (UZ y f)⟩
 have v:k<X.length:=by simp at e3;lia
 have QE:X.length-1<X.length:=WA (Wk v) Nat.one_pos;have ei:Unit->P.length+k+(X.length-k)-1=P.length+(X.length-1):=λ_=>by rw[X8,VY (ZS v),W9 (Wk v)]
 refine ZR (dP (show P.length+k+(X.length-k)-1<(`bm).size by rw[ei ()];exact N) ?_);have US:∀(q:P.length+k+(X.length-k)-1<(`bm).size),`bm[P.length+k+(X.length-k)-1]=X[X.length-1]:=λq=>by
  simp only[ei ()];exact el
 rw[US];have gl:G X[X.length-1]:=gX _ (Ys _);refine ZR (gD C (hint:=Y.length-1) (by exact hk) gl g (by show P.length+X.length+Y.length<=(`bm).size;rw[hs];exact ZQ _ _) (WA nY Nat.one_pos) Ou λm Sf QP TU=>?_);dsimp only;have y1:∀x∈Y.take m,le r x X[X.length-1]:=λx d=>by
  obtain⟨j,e,rfl⟩:=Ya d;rw[Kw]at e;obtain⟨o,e3⟩:=ik e2 j (ZZ e (Xn _ _));simp only[Zw]at o e3;rw[XF,← e3];exact QP _ o (by exact ZQ _ _) (Y2 (ZZ e (Nat.min_le_left _ _)) _)
 have y2:∀x∈Y.drop m,le r X[X.length-1] x:=λx d=>by
  obtain⟨j,e,rfl⟩:=Ya d;rw[Yz]at e;have J5:=Nat.add_lt_of_lt_sub' e;obtain⟨o,e3⟩:=ik e2 (m+j) J5;simp only[Zw]at o e3;rw[XE,← e3];exact TU _ o (Xe (ZQ _ _) _) (Y2 J5 _)
 have xl:∀x∈X,le r x X[X.length-1]:=λx d=>by
  obtain⟨j,e,rfl⟩:=Ya d;rcases Wh j (X.length-1) with IS | hge
  ·exact Y5.mp F j _ e QE IS
  ·have:j=X.length-1:=Y3 (Xf e) hge;subst this;exact C.refl gl
 refine aC (λe4=>?_) λe4=>?_
 ·have O1:m=0:=by simpa using e4
  subst O1;refine Za (h _ (X++Y) (Y0 _) ?_ (by show (`bm).toList=_;rw[t];simp) rfl hf rfl);rw[ZA];exact⟨F,H,λx d y f=>C.tr (gX x d) gl (J y f) (xl x d) (y2 y f)⟩
 have JH:0<m:=by simp at e4;exact KR e4
 have ex:((`bm).extract (P.length+k) (P.length+X.length)).toList=X.drop k:=by
  rw[WN,List.extract_eq_drop_take,t,Zf,WV,YN (by exact ZQ _ _),Yc];have:P.length+k-P.length=k:=by exact YD _ _
  rw[this,WV,Nat.sub_eq_zero_of_le (ZS v),We];rw[WQ (by rw[Yz];lia),Yv (by rw[Yz];lia)]
 have D:((`bm).extract (P.length+X.length) (P.length+X.length+m)).toList=Y.take m:=by
  rw[WN,List.extract_eq_drop_take,e2,Zf,WV,YN (by simp),Yc];have:P.length+X.length-(P++X).length=0:=by simp
  rw[this,We];have:P.length+X.length+m-(P.length+X.length)=m:=by exact YD _ _
  rw[this,WQ Sf]
 obtain⟨n,Uk⟩:∃n,n=(`bm).extract (P.length+k) (P.length+X.length):=⟨_,rfl⟩
 obtain⟨u,Uj⟩:∃u,u=(`bm).extract (P.length+X.length) (P.length+X.length+m):=⟨_,rfl⟩
 rw[← Uk]at ex;rw[← Uj]at D;have mx:∀x,x∈n->x∈X.drop k:=λx d=>by rw[← ex];simpa using d
 have my:∀x,x∈u->x∈Y.take m:=λx d=>by rw[← D];simpa using d
 have Z8:n.size=X.length-k:=by have:=congrArg List.length ex;simpa using this
 have szy:u.size=m:=by have:=congrArg List.length D;simp at this;lia
 have U:∀x∈n,G x:=λx d=>gX x (Xw (mx x d));have R:∀x∈u,G x:=λx d=>J x (YC (my x d));have y0:∀(q:0<u.size),u[0]=`bm[P.length+X.length]:=λq=>by
  rw[eb];have:u[0]?=Y[0]?:=by rw[← Lj,D,List.getElem?_take_of_lt JH]
  rw[getElem?_pos u 0 q,getElem?_pos Y 0 nY]at this;exact Zh this
 have xl0:∀(q:n.size-1<n.size),n[n.size-1]=X[X.length-1]:=λq=>by
  have:n[n.size-1]?=X[X.length-1]?:=by
   rw[← Lj,ex,List.getElem?_drop];congr 1;rw[Z8,← W9 (Wj v),VY (ZS v)]
  rw[getElem?_pos n _ q,getElem?_pos X _ QE]at this;exact Zh this
 have M:MC G r n u:=by
  refine⟨U,R,zU C U (by rw[ex];exact F.drop),zU C R (by rw[D];exact H.take),by rw[Z8];exact Wj v,by rw[szy];exact JH,?_,λj e=>?_⟩
  ·rw[y0];exact z2 _ (mx _ (Zb _))
  ·rw[xl0];exact y1 _ (my _ (Zb e))
 have fin:∀(l:SL)(res:Array Pi),gH (SortSt.mk' (kindOf b) `bm (((UF b).setIfInBounds i (P.length,X.length+Y.length,pw)).eraseIdxIfInBounds (i+1)) (gallopOf b) (failedOf b)) l->MR r n u res →
   Q (failedOf l).isNone (SortSt.mk' (kindOf l) (res.toList.zipIdx.foldl (λa x=>a.setIfInBounds (P.length+k+x.snd) x.fst) (arrOf l)) (UF l) (gallopOf l) (failedOf l)):=λl res kp z=>by
  obtain⟨k1,k2,k3,k4⟩:=kp;have k4':failedOf l=O:=k4.trans hf;have Tu:arrOf l=arrOf b:=k2;rw[k4'];have N:res.toList.length=X.length-k+m:=by
   rw[z.1.length_eq,ex,D];simp;exact Yh Sf
  have mem:∀x,x∈res.toList->x∈X.drop k\/x∈Y.take m:=λx d=>by
   have:=z.1.mem_iff.mp d;rw[ex,D]at this;exact Zi.mp this
  have bk:=ve (P.length+k) res.toList 0 (arrOf l) (by rw[Tu,hs,N,VE];exact ml7 (ZS v) Sf);rw[Tu,VE]at bk;have t1:(`bm).toList.take (P.length+k)=P++X.take k:=by
   rw[t,Zf,List.take_append,Yv (by exact ZQ _ _),YD,WQ (ZS v)]
  have t2:(`bm).toList.drop (P.length+k+res.toList.length)=Y.drop m++S:=by
   rw[e2,Zf,WV,YN (by rw[Zw,N,To (ZS v)];exact ZQ _ _),Yc];have:P.length+k+res.toList.length-(P++X).length=m:=by rw[Zw,N,To (ZS v),YD]
   rw[this,List.drop_append_of_le_length Sf]
  refine h _ (X.take k++res.toList++Y.drop m) ?_ ?_ ?_ k1 rfl k3
  ·have p:(X.take k++(X.drop k++Y.take m)++Y.drop m)=X++Y:=by
    rw[← Zf,Yi,Zf,Yi]
   rw[← p];have:=z.1;rw[ex,D]at this;exact(this.append_left _).append_right _
  ·rw[ZA,ZA];refine⟨⟨F.take,z.2,λx d y f=>?_⟩,H.drop,λx d y f=>?_⟩
   ·rcases mem y f with f | f
    ·have:=F;rw[← Yi k X,ZA]at this;exact this.2.2 x d y f
    ·exact C.tr (gX _ (YC d)) gb (J _ (YC f)) (z1 x d) (UZ y (YC f))
   ·rcases Zi.mp d with d | d
    ·exact C.tr (gX _ (YC d)) gb (J _ (Xw f)) (z1 x d) (UZ y (Xw f))
    ·rcases mem x d with d | d
     ·exact C.tr (gX _ (Xw d)) gl (J _ (Xw f)) (xl x (Xw d)) (y2 y f)
     ·have:=H;rw[← Yi m Y,ZA]at this;exact this.2.2 x d y f
  ·show (List.foldl _ (arrOf l) _).toList=_;rw[Tu,bk,t1,t2];simp
 refine aC (λ_=>?_) λ_=>?_
 ·refine ZR (?_:wpS `ax A E s (mS ((`bm).extract (P.length+k) (P.length+X.length)) ((`bm).extract (P.length+X.length) (P.length+X.length+m))) _ _);rw[← Uk,← Uj];refine Gn C (by exact hk) M λres l kp z=>?_;exact ZR (WK (ZR (Vi (Za (fin l res kp z)))))
 ·refine ZR (?_:wpS `ax A E s (nZ ((`bm).extract (P.length+k) (P.length+X.length)) ((`bm).extract (P.length+X.length) (P.length+X.length+m))) _ _);rw[← Uk,← Uj];refine Hj C (by exact hk) M λres l kp z=>?_;exact ZR (WK (ZR (Vi (Za (fin l res kp z)))))
end TS
end
section
open PySem PyProof.Rows
namespace TS
variable{κ:SortKind}
noncomputable def jB:Nat->List (List Pi)->List (Nat×Nat)
 |_,[]=>[]
 |o,R :: Rs=>(o,R.length) :: jB (o+R.length) Rs
theorem i4:∀(a b:List (List Pi))(o:Nat),jB o (a++b)=jB o a++jB (o+a.flatten.length) b
 |[],b,o=>by simp[jB]
 |R :: a,b,o=>by
  show (o,R.length) :: jB (o+R.length) (a++b)=(o,R.length) :: (jB (o+R.length) a++_);rw[i4 a b];simp[X8]
theorem iX:∀(a:List (List Pi))(o:Nat),(jB o a).length=a.length
 |[],o=>rfl
 |R :: a,o=>by show (jB _ a).length+1=_;rw[iX a];rfl
theorem oP{α β:Type}(f:α->β):∀(l:List α)(i:Nat),(l.eraseIdx i).map f=(l.map f).eraseIdx i
 |[],i=>rfl
 |x :: l,0=>rfl
 |x :: l,i+1=>by show f x :: (l.eraseIdx i).map f=f x :: (l.map f).eraseIdx i;rw[oP f l i]
structure RI(κ:SortKind)(r:Pi->Pi->Bool)(a₀:Array Pi)(st:SL)(runs:List (List Pi))(rest:List Pi):Prop where
 kind:kindOf st=κ
 fail:failedOf st=none
 arr:(arrOf st).toList=runs.flatten++rest
 pend:(UF st).toList.map (λp=>(p.1,p.2.1))=jB 0 runs
 ok:∀R∈runs,0<R.length/\R.Pairwise (le r)
 perm:(arrOf st).Perm a₀
def RI.good{G:Pi->Prop}{r:Pi->Pi->Bool}{d:Array Pi}{b:SL}{a:List (List Pi)}{rest:List Pi}(h:RI κ r d b a rest)(g:∀x∈d,G x):∀x∈arrOf b,G x:=λx e=>by
 have:x∈(`bm).toList:=by simpa using e
 exact g x (by simpa using(XA.mp h.perm).mem_iff.mp this)
def RI.N1(h:RI κ r d b a rest):(UF b).size=a.length:=by
 have:=congrArg List.length h.pend;rw[Zt,iX]at this;simpa using this
theorem RI.at{f:SL}{X:List Pi}(h:RI κ r g f (d++X :: post) rest):∃pw,(UF f)[d.length]?=Y (d.flatten.length,X.length,pw):=by
 have e:((UF f).toList.map (λp=>(p.1,p.2.1)))[d.length]?=Y (d.flatten.length,X.length):=by
  rw[h.pend,i4,Mv (by rw[iX];exact Zp _),iX,VH,Xg];rfl
 rw[ZP,Lj]at e;obtain⟨⟨a,b,c⟩,e1,e2⟩:=Zy.mp e;injection e2 with e3 e4
 dsimp only at e3 e4;exact⟨c,by rw[e1,e3,e4]⟩
theorem tU{α:Type}:∀{l:List α}{i:Nat},i+1<l.length->∃pre X Y post,l=pre++X :: Y :: post/\pre.length=i
 |[],i,h=>by simp at h
 |[x],i,h=>by simp at h
 |x :: y :: l,0,h=>⟨[],x,y,l,rfl,rfl⟩
 |x :: y :: l,i+1,h=>by
  obtain⟨pre,X,Y,post,e,a⟩:=tU (l:=y :: l) (i:=i) (by simp at h ⊢;omega);exact⟨x :: pre,X,Y,post,by rw[e];rfl,by rw[Zg,a]⟩
def RI.merge(C:JE prog w A E s κ G r)(h:RI κ r j d a rest)(g:∀x∈j,G x)(hi:i+1<a.length)(hq:∀f n,RI κ r j f n rest->n.length+1=a.length->n.flatten.length=a.flatten.length->Q L f):wpS `ax A E s (mergeAt' i) Q d:=by
 obtain⟨pre,X,Y,post,rfl,rfl⟩:=tU hi;obtain⟨pw,J⟩:=h.at;have h':RI κ r j d ((pre++[X])++Y :: post) rest:=by
  have e:(pre++[X])++Y :: post=pre++X :: Y :: post:=by simp
  rw[e];exact h
 obtain⟨SW,H⟩:=h'.at;have p:=h.ok X (by simp);have o:=h.ok Y (by simp);have l:(UF d)[pre.length+1]?=some (pre.flatten.length+X.length,Y.length,SW):=by
  simpa using H
 refine FK C (P:=pre.flatten) (X:=X) (Y:=Y) (S:=post.flatten++rest) h.kind (h.good g) h.fail (by rw[h.arr];simp) J l p.2 o.2 p.1 o.1 λf M D m2 q Z U N=>?_;have F:=D.length_eq;rw[Zw]at F;refine hq f (pre++M :: post) ⟨Z.trans h.kind,U,by rw[q];simp,?_,λR b=>?_,?_⟩ (by simp;exact X8 _ _ _) (by simp;lia)
 ·rw[N];have e0:(((UF d).setIfInBounds pre.length (pre.flatten.length,X.length+Y.length,pw)).eraseIdxIfInBounds (pre.length+1)).toList=((UF d).toList.set pre.length (pre.flatten.length,X.length+Y.length,pw)).eraseIdx (pre.length+1):=by
   simp
  rw[e0,oP,VA,h.pend];show ((jB 0 (pre++X :: Y :: post)).set pre.length (pre.flatten.length,X.length+Y.length)).eraseIdx (pre.length+1)=jB 0 (pre++M :: post);rw[i4,i4];have ol:=iX pre 0;have e1:∀(u v t:List (Nat×Nat))(x y z:Nat×Nat),u.length=pre.length->((u++x :: y :: t).set pre.length z).eraseIdx (pre.length+1)=u++z :: t:=λu v t x y z m=>by
   rw[List.set_append_right _ _ (by exact X2 m),m,VH,List.eraseIdx_append_of_length_le `am,m];have:pre.length+1-pre.length=1:=by exact YD _ _
   rw[this];rfl
  show ((jB 0 pre++(0+pre.flatten.length,X.length) :: (0+pre.flatten.length+X.length,Y.length) :: jB (0+pre.flatten.length+X.length+Y.length) post).set _ _).eraseIdx _=jB 0 pre++(0+pre.flatten.length,M.length) :: jB (0+pre.flatten.length+M.length) post;rw[e1 _ [] _ _ _ _ ol,F,Xg,X8]
 ·rcases Zi.mp b with b | b
  ·exact h.ok R (by simp[b])
  ·rcases Zj.mp b with rfl | b
   ·exact⟨by lia,m2⟩
   ·exact h.ok R (by simp[b])
 ·refine Array.Perm.trans ?_ h.perm;rw[XA,q,h.arr];have e:(pre++X :: Y :: post).flatten++rest=pre.flatten++(X++Y)++(post.flatten++rest):=by simp
  rw[e];exact(D.append_left _).append_right _
end TS
end
section
open PySem PyProof.Rows
namespace TS
variable{κ:SortKind}
def RI.loc(h:RI κ r f d a rest)(L:Lc a.flatten.length d b):RI κ r f b a ((`bm).toList.drop a.flatten.length):=by
 refine⟨L.kind.trans h.kind,L.fail.trans h.fail,?_,by rw[L.pend];exact h.pend,h.ok,L.perm.trans h.perm⟩;have e:(`bm).toList.take a.flatten.length=a.flatten:=by
  have e2:(arrOf d).toList.take a.flatten.length=a.flatten:=by rw[h.arr,W0]
  refine Eq.trans ?_ e2;apply Wf;intro i;rw[List.getElem?_take,List.getElem?_take];split
  ·rename_i g;rw[Lj,Lj];exact L.pre i g
  ·rfl
 conv=>lhs;rw[← Yi a.flatten.length (`bm).toList,e]
theorem RI.push{a:List (List Pi)}(h:RI κ r f b a rest)(j:a.flatten.length=d)(l:0<n)(i:n<=rest.length)(g:(rest.take n).Pairwise (le r)) :
  RI κ r f (setPending b ((UF b).push (d,n,0))) (a++[rest.take n]) (rest.drop n):=by
 refine⟨h.kind,h.fail,?_,?_,λR e=>?_,h.perm⟩
 ·show (`bm).toList=_;rw[h.arr];simp
 ·show ((UF b).push (d,n,0)).toList.map _=_;rw[Wb,Yu,h.pend,i4,Xg,j];show _++[(d,n)]=_++[(d,(rest.take n).length)];rw[Kw,Yh i]
 ·rcases Zi.mp e with e | e
  ·exact h.ok R e
  ·rw[Zk.mp e];exact⟨by rw[Kw];lia,g⟩
theorem vk{α β:Type}(f:α->β)(g:α->α)(a:∀x,f (g x)=f x):∀(l:List α)(i:Nat),(l.modify i g).map f=l.map f
 |[],i=>by simp
 |x :: l,0=>by simp[a]
 |x :: l,i+1=>by simp[vk f g a l i]
def RI.mod(h:RI κ r e b a rest)(i d:Nat):RI κ r e (setPending b ((UF b).modify i λx=>(x.1,x.2.1,d))) a rest :=
 ⟨h.kind,h.fail,h.arr,by
  show ((UF b).modify i λx=>(x.1,x.2.1,d)).toList.map _=_;rw[Array.toList_modify,vk (λp:Nat×Nat×Nat=>(p.1,p.2.1)) (λx=>(x.1,x.2.1,d)) (λx=>rfl),h.pend],h.ok,h.perm⟩
def Sg.pw(h:Sg r b a (a+n))(f:a+n<=b.size):((b.toList.drop a).take n).Pairwise (le r):=by
 rw[Y5];intro i j e d g;rw[Kw,Yz]at e d;rw[XF,XF,XE,XE];have:=h (a+i) (a+j) (by exact ZQ _ _) `am `am;rw[zm `am,zm `am]at this;simpa using this
theorem RI.size{a:List (List Pi)}(h:RI κ r b d a rest):a.flatten.length+rest.length=b.size:=by
 have e:=congrArg List.length h.arr;rw[Zw,KL,h.perm.size_eq]at e;exact e.symm
def Bh{r:Pi->Pi->Bool}{a:List (List Pi)}(h:∀R∈a,0<R.length/\R.Pairwise (le r)):a.length<=a.flatten.length:=by
 induction a with
 |nil=>exact Zp _
 |cons R Rs b =>
  have f:=(h R (Zx ..)).1;have e:=b λx d=>h x (Zv _ d);simp only[Zg,ZI,Zw];lia
def DZ{c:Prop}[Decidable c](e:a+1<n)(d:b+1<n):(if c then a else b)+1<n:=by
 split
 ·exact e
 ·exact d
def wD{prog:Re}{w:XAB}{A:SC}{E:Yx}{s:IR}{α:Type}{a b d:Nat->Prop}{c:Nat->Prop}[∀n,Decidable (c n)]{x R:Nat->StateT SL Sem α}{Q:α->SL->Prop}{P:Nat->SL->Prop}{f:SL}(D:∀n e,P n e->wpS `ax A E s (R n) Q e)(g:∀m,a m->b m->d m->¬c m->P m f)(h:∀m,a m->b m->d m->c m->(∀n e,P n e->wpS `ax A E s (R n) Q e)->wpS `ax A E s (x m) Q f):∀m,a m->b m->d m->wpS `ax A E s (if c m then x m else R m) Q f :=
 λm p q z=>aC (λy=>h m p q z y D) λy=>D m f (g m p q z y)
def Cs(C:JE prog w A E s κ G r){a₀:Array Pi}{st:SL}(hk:kindOf st=κ)(g:∀x∈a₀,G x)(ha:arrOf st=a₀)(hp:UF st=#[])(hf:failedOf st=O)(h:∀d,(arrOf d).Perm a₀->failedOf d=O->(arrOf d).toList.Pairwise (le r)->Q () d):wpS `ax A E s sortRuns' Q st:=by
 have R0:RI κ r a₀ st [] a₀.toList:=⟨hk,hf,by rw[ha];rfl,by rw[hp];rfl,λR q=>by simp at q,by rw[ha]⟩
 unfold sortRuns';change wpS `ax A E s (_>>=_) Q st;dsimp only;refine ZR (Vi ?_);have esz:((sortPriv% PySem.Builtin.SortState.a) st).size=a₀.size:=by rw[← ha]
 rw[esz];refine ZR (XU (YY
  (I:=λx c d=>c.1=O/\∃runs rest,RI κ r a₀ d runs rest/\runs.flatten.length=c.2/\x<=c.2)
  (Q:=λc d=>c.1=O/\∃runs,RI κ r a₀ d runs []) ?step ?fin ?init) ?post)
 case init=>exact⟨rfl,_,_,R0,rfl,Zp _⟩
 case fin =>
  refine all2 λu lo=>?_;rintro d ⟨i,runs,rest,R,j,hx⟩;dsimp only at *;have:=R.size;have e:rest=[]:=WO `am;subst e;exact⟨i,runs,R⟩
 case step =>
  intro x;refine all2 λu lo=>?_;rintro d _ hx ⟨i,runs,rest,R,j,hxl⟩;dsimp only at *;have N:=R.size;refine aC (λe=>?_) λe=>?_
  ·have e:rest=[]:=WO `am;subst e;exact Za ⟨rfl,runs,R⟩
  have asz:(arrOf d).size=a₀.size:=R.perm.size_eq;refine ZR (DY C R.kind (R.good g) `am (by rw[asz];lia) λm U L2 m1 m2 S2=>?_);dsimp only;have I2:RI κ r a₀ U runs ((arrOf U).toList.drop runs.flatten.length):=R.loc (by rw[j];exact L2);have U7:(arrOf U).size=a₀.size:=I2.perm.size_eq;revert m;refine wD (P:=λnn o=>∃f,RI κ r a₀ o runs f/\f.length=a₀.size-lo/\0<nn/\nn<=f.length/\(f.take nn).Pairwise (le r)) ?D ?two ?one
  case one =>
   intro m m1 m2 S2 e2 Dk;refine ZR (gO ?_);refine ZR (Eu C I2.kind (I2.good g) m1 (by omega) `am S2 λo L3 S3=>?_);refine aC (λe=>absurd e `ao) λ_=>?_;have Z:RI κ r a₀ o runs ((arrOf o).toList.drop runs.flatten.length):=I2.loc (by rw[j];exact L3);have U6:(arrOf o).size=a₀.size:=Z.perm.size_eq;obtain⟨f,y⟩:∃l,l=(arrOf o).toList.drop runs.flatten.length:=⟨_,rfl⟩
   have M:RI κ r a₀ o runs f:=by rw[y];exact Z
   have Ks:=j;have Sr:f.length=a₀.size-lo:=by rw[y,Yz,KL,U6,j]
   obtain⟨n3,en3⟩:∃n,n=min (a₀.size-lo) ((sortPriv% PySem.Builtin.minRun) a₀.size a₀.size 0):=⟨_,rfl⟩
   rw[← en3]at S3 ⊢;have F:0<n3:=by lia
   have H:n3<=f.length:=by omega
   have J:(f.take n3).Pairwise (le r):=by rw[y,j];exact S3.pw `am
   exact Dk n3 o ⟨f,M,Sr,F,H,J⟩
  case two =>
   intro m m1 m2 S2 e2;obtain⟨f,y⟩:∃l,l=(arrOf U).toList.drop runs.flatten.length:=⟨_,rfl⟩
   have M:RI κ r a₀ U runs f:=by rw[y];exact I2
   have Ks:=j;have Sr:f.length=a₀.size-lo:=by rw[y,Yz,KL,U7,j]
   have F:0<m:=by exact VG m1
   have H:m<=f.length:=by lia
   have J:(f.take m).Pairwise (le r):=by rw[y,j];exact S2.pw `am
   exact⟨f,M,Sr,F,H,J⟩
  case D =>
   rintro nn o ⟨f,M,Sr,F,H,J⟩;have Ks:=j;refine ZR (Vi ?_);cases hb:(UF o).back? with
   |none =>
    dsimp only;refine ZR (WK ?_);refine Za ⟨rfl,_,_,M.push Ks F H J,?_,by(try dsimp only);lia⟩;rw[Yo,Zw,Vp,Kw]
    (try dsimp only)
    lia
   |some v =>
    obtain⟨s1,n1,pw1⟩:=v;dsimp only;refine ZR (XU (YY
     (I:=λx c d=>c.1=O/\∃p,RI κ r a₀ d p f/\p.flatten.length=lo)
     (Q:=λc d=>c.1=O/\∃p,RI κ r a₀ d p f/\p.flatten.length=lo) ?stepM ?finM ?initM) ?postM)
    case initM=>exact⟨rfl,_,M,Ks⟩
    case finM=>exact λc d h=>h
    case stepM =>
     intro x;refine all2 λu c2=>?_;rintro d _ hx ⟨i,p,R,q⟩;refine ZR (Vi ?_);split
     ·rename_i a b c hh;refine aC (λ_=>?_) λ_=>?_
      ·exact Za ⟨rfl,p,R,q⟩
      ·have hp1:(UF d).size > 1:=by
        by_cases z:(UF d).size > 1
        ·exact z
        ·rw[Zl z]at hh;cases hh
       have OM:=R.N1;refine ZR (R.merge C g (show (UF d).size-2+1<p.length by omega) λst4 MG R4 l4 f4=>?_);refine aC (λe=>absurd e `ao) λ_=>?_;exact Za ⟨rfl,MG,R4,by rw[f4,q]⟩
     ·exact Za ⟨rfl,p,R,q⟩
    case postM =>
     refine all2 λu c2=>?_;rintro d ⟨i,p,R,q⟩;dsimp only at *;subst i;dsimp only;refine ZR (WK ?_);refine ZR (WK ?_);refine Za ⟨rfl,_,_,(R.mod _ _).push q F H J,?_,by(try dsimp only);lia⟩;rw[Yo,Zw,Vp,Kw]
     (try dsimp only)
     lia
 case post =>
  refine all2 λu lo=>?_;rintro d ⟨i,runs,R⟩;dsimp only at *;subst i;dsimp only;have rl:=Bh R.ok;have N:=R.size;simp only[List.length_nil,VE]at N;refine ZR (XU (YY
   (I:=λx c d=>c.1=O/\∃runs,RI κ r a₀ d runs []/\(runs.length<=1\/runs.length+x<=a₀.size))
   (Q:=λc d=>c.1=O/\∃runs,RI κ r a₀ d runs []/\runs.length<=1) ?step2 ?fin2 ?init2) ?post2)
  case init2=>exact⟨rfl,runs,R,.inr `am⟩
  case fin2 =>
   refine all2 λu c2=>?_;rintro d ⟨i,runs,R,S⟩;exact⟨i,runs,R,by lia⟩
  case step2 =>
   intro x;refine all2 λu c2=>?_;rintro d _ hx ⟨i,runs,R,S⟩;have OM:=R.N1;refine ZR (Vi ?_);refine aC (λe=>?_) λe=>?_
   ·exact Za ⟨rfl,runs,R,by rw[← OM];exact e⟩
   ·have e':1<runs.length:=by rw[← OM];exact V7 e
    refine ZR (R.merge C g ?_ λst4 MG R4 l4 f4=>?_)
    ·exact DZ (show (UF d).size-2-1+1<_ by omega) (show (UF d).size-2+1<_ by lia)
    ·refine aC (λe=>absurd e `ao) λ_=>?_;exact Za ⟨rfl,MG,R4,by lia⟩
  case post2 =>
   refine all2 λu c2=>?_;rintro d ⟨i,runs,R,S⟩;dsimp only at *;subst i;refine Za (h d R.perm R.fail ?_);rw[R.arr,ZE]
   match runs,S,R.ok with
   |[],_,_=>exact List.Pairwise.nil
   |[X],_,ok =>
    rw[Vp];exact(ok X (Zx ..)).2
   |X :: Yq0 :: t,S,_=>simp at S
end TS
end
section
open PySem PyProof.Rows
namespace TS
noncomputable def iw(h:XAA)(a:KM)(b:W7):Heap:=((h.update a (Obj.mapSeq λ_=>#[])).push (seqObj "tuple" b.toArray 0)).push (seqObj "list" #[] 0)
def lK{a:Array Pi}(f:a.Perm (pairsOf e)):(a.map (·.2)).toList.Perm e/\(a.map (·.2)).toList.map (λv=>(v,v))=a.toList:=by
 have d:=XA.mp f;rw[pairsOf_toList]at d;constructor
 ·rw[Array.toList_map];refine(d.map _).trans ?_;rw[show (λx:Pi=>x.2)=Prod.snd from rfl,List.map_snd_zip (Zp _)]
 ·rw[Array.toList_map,Yp]
  conv=>rhs;rw[← List.map_id a.toList]
  apply VX;intro p b;have:=mem_zip_self (d.mem_iff.mp b);exact Prod.ext this.1.symm M
def Fq{h:XAA}{vs:W7}(b:a<h.objs.size)(g:(h.update a (Obj.mapSeq λ_=>#[])).get? a=Y o):(iw h a vs).get? a=Y o:=by
 have e:a≠(h.update a (Obj.mapSeq λ_=>#[])).objs.size:=by rw[Vc];exact Ze b
 have d:a≠((h.update a (Obj.mapSeq λ_=>#[])).push (seqObj "tuple" vs.toArray 0)).objs.size:=by rw[size_push',Vc];exact Ze (Ym b)
 exact(XW _ _ _ d).trans ((XW _ _ _ e).trans g)
def zG{s:IR}{vs:W7}{l:SortKind}(i:s.heap.get? a=Y (seqObj "list" vs.toArray n))(D:JE prog w A E { s with heap:=iw s.heap a vs } l G r)(C:∀v∈vs,G (v,v))(f:vs.length<=KF)(N:2<=vs.length->∀Q:SortKind->IR->Prop,Q l { s with heap:=iw s.heap a vs }->PP `ax A (keyKind' vs.toArray) Q E { s with heap:=iw s.heap a vs })(h:∀out:W7,out.Perm vs->(out.map λv=>(v,v)).Pairwise (le r)->P (.done (.ret .none)) { s with heap:=sortedHeap s.heap a vs out.toArray }) :
  PP `ax A (Builtin.«list.sort» ⟨[.ref a],[]⟩) P E s:=by
 have Jo:vs.toArray.size=vs.length:=rfl;obtain⟨S,o⟩:∃k,(s.heap.update a (Obj.mapSeq λ_=>#[])).get? a=Y (seqObj "list" #[] k):=⟨_,get?_update_seq i _⟩
 have at2:=Fq (vs:=vs) (ZO i) o;have done:∀b:Array Pi,b.Perm (pairsOf vs)->b.toList.Pairwise (le r)->P (.done (.ret .none)) { s with heap:=sortedHeap s.heap a vs (b.map (·.2)) }:=λb d j=>by
  obtain⟨u,t⟩:=lK d;have:=h _ u (by rw[t];exact j)
  rwa [Array.toArray_toList]at this
 have room:∀b:Array Pi,b.Perm (pairsOf vs)->(b.map (·.2)).size<=KF+1:=λb d=>by
  rw[Array.size_map,d.size_eq,pairsOf_size];exact VF f
 rw[list_sort_plain];refine Zu (listItems_at i M (Zu (listUpdate_at i M (Zu (seqEpoch_at o M (Zu (wpAny_newTuple (Zu (wpAny_newList (YE ?_))))))))));refine(show PP `ax A _ P E { s with heap:=iw s.heap a vs } from ?_);dsimp only;by_cases two:2<=vs.length
 ·have no:¬(vs.toArray.size<2):=by lia
  rw[Zl no,Zl no];have good:∀x∈pairsOf vs,G x:=λx z=>by
   have m:x∈(pairsOf vs).toList:=by simpa using z
   rw[pairsOf_toList]at m;obtain⟨e1,e2⟩:=mem_zip_self m;have:=C x.1 e2;obtain⟨p,q⟩:=x;dsimp only at e1 this;rw[← e1];exact this
  refine Zu (N two _ (Zu (Y7 (Cs D (a₀:=pairsOf vs) (st:=SortSt.mk' l (vs.toArray.zip vs.toArray) #[] 7 O)
   (Q:=λ_ g=>(arrOf g).Perm (pairsOf vs)/\failedOf g=O/\(arrOf g).toList.Pairwise (le r)) M good M M M λg J H F=>⟨J,H,F⟩) ?_ λ_ _ e=>e)))
  rintro⟨⟨⟩,g⟩ R ⟨rfl,d,j,y⟩;refine Zu (seqEpoch_at at2 M (Zu (listUpdate_at at2 M ?_ (hsz2:=room _ d))));rw[j];simp only[bne_self_eq_false,YS,↓reduceIte];exact Zn (done _ d y)
 ·have no:vs.toArray.size<2:=by lia
  rw[Zo no,Zo no];refine Zu (Zn (Zu ?_));rw[StateT.run_pure];refine Zn (Zu (seqEpoch_at at2 M (Zu (listUpdate_at at2 M ?_ (hsz2:=room _ (Array.Perm.refl _))))));simp only[bne_self_eq_false,YS,↓reduceIte];refine Zn (done (vs.toArray.zip vs.toArray) (Array.Perm.refl _) ?_)
  match vs,two with
  |[],_=>simp
  |[_],_=>simp
  |_ :: _ :: _,q=>simp at q
def nl(h:b<n)(k:Nat):b≠n+k:=Ze (ZZ h (ZQ _ _))
structure LZ(prog:Re)(w:XAB)(Q:Yx)(vs:W7)(s1:IR) where
 G:Pi->Prop
 r:Pi->Pi->Bool
 kd:SortKind
 hC:∀(A:SC)(E:Yx)(h:XAA),(∀b o,s1.heap.get? b=some o->h.get? b=some o)->JE prog w A E { s1 with heap:=h } kd G r
 hG:∀v∈vs,G (v,v)
 hlen:vs.length<=KF
 Nj:2<=vs.length->∀(A:SC)(E:Yx)(h:XAA),(∀b o,s1.heap.get? b=some o->h.get? b=some o)->∀Q:SortKind->IR->Prop,Q kd { s1 with heap:=h }->PP `ax A (keyKind' vs.toArray) Q E { s1 with heap:=h }
 h:∀(out:W7)(h':XAA)(e:Nat),out.Perm vs->(out.map λv=>(v,v)).Pairwise (le r)->(∀b o,s1.heap.get? b=some o->h'.get? b=some o)->h'.get? s1.heap.objs.size=some (seqObj "list" out.toArray e)->Q (.ref s1.heap.objs.size) { s1 with heap:=h' }
def uN{A:SC}(n:∀(g:SC)(p:Yx),g.handled=A.handled->PP `ax g (collect x) (λa s1=>Nonempty (LZ prog w Q a s1)) p s) :
  PP `ax A (call (.builtin "sorted") [x]) Q E s:=by
 refine Calls.call_function_entry kind_sorted plain_sorted entry_sorted (args_sorted1 _) (show PP _ _ (Builtin.«sorted» _) _ _ _ from ?_);unfold Builtin.«sorted»;refine Zu (m:=checkCount "sorted" 1 1 _) (Zn (Zu (Y7 (n A.in1 (λ_ _=>False) M) ?_ λ_ _ e=>e.elim)));rintro a s1 ⟨⟨G,r,kd,hC,hG,hlen,Nj,h⟩⟩;refine Zu (wpAny_newList ?_ (by exact hlen));have d:(s1.heap.push (seqObj "list" a.toArray 0)).get? s1.heap.objs.size=Y (seqObj "list" a.toArray 0):=ZV _ M;have old:∀b o,s1.heap.get? b=Y o->(iw (s1.heap.push (seqObj "list" a.toArray 0)) s1.heap.objs.size a).get? b=Y o:=λb o e=>by
  have hb:=ZO e;unfold iw;rw[XW _ _ _ (by rw[size_push',Vc,size_push'];exact nl hb 2),XW _ _ _ (by rw[Vc,size_push'];exact nl hb 1),Heap.get?_update_ne _ _ _ _ (Ze hb),XW _ _ _ (Ze hb)];exact e
 show PP _ _ _ _ _ { s1 with heap:=s1.heap.push (seqObj "list" a.toArray 0) };refine Zu (YE (Xv slot_list_sort ⟨_,d,rfl⟩ entry_list_sort (zG d (hC _ _ _ old) hG hlen (λl=>Nj l _ _ _ old) λout j i=>⟨_,rfl,?_⟩) (args_list_sort _)));obtain⟨e,he⟩:=sortedHeap_at (out:=out.toArray) d;exact Zn ⟨_,rfl,h out _ e j i (λb o f=>by
  have hb:=ZO f;show (sortedHeap (s1.heap.push (seqObj "list" a.toArray 0)) s1.heap.objs.size a out.toArray).get? b=Y o;rw[sortedHeap_old (Ze hb) (by rw[size_push'];exact Ym hb),XW _ _ _ (Ze hb)];exact f) he⟩
def EF{κ:KeyKind}(j:κ.OneLt):JE prog w A E s oneType' (λp=>∃a,κ.keyOf p.1=Y a) (λp q=>match κ.keyOf p.1,κ.keyOf q.1 with | some a,some b=>κ.blt a b | _,_=>false):=by
 refine⟨?_,?_,?_⟩
 ·rintro st x y Q i ⟨a,d⟩ ⟨b,hb⟩ h;rw[lt'_eq];refine ZR (Vi ?_);rw[i,keyLt'_oneType];refine ZR (wpS_lift (wpAny_attempt (j prog w A _ s x.1 y.1 a b d hb ⟨rfl,?_⟩)));rw[d,hb]at h;exact Za h
 ·rintro x y ⟨a,d⟩ ⟨b,hb⟩ h;rw[d,hb]at h ⊢;exact KeyOrd.klt_asymm (O:=κ.toKeyOrd) h
 ·rintro x y z ⟨a,d⟩ ⟨b,hb⟩ ⟨c,e⟩ g f;rw[d,hb]at g;rw[hb,e]at f;rw[d,e];exact KeyOrd.kle_trans (O:=κ.toKeyOrd) g f
end TS
end
section
namespace L2
open PySem PySem.Spec PyProof.Rows TS
section
theorem rP:∀{b:List Str}{a:W7},aQ (b.map V.str) a->(∀v∈a,∃x t,v=Value.str x t)/\a.map strOf=b
 |[],[],_=>⟨λv h=>by simp at h,rfl⟩
 |s :: b,u :: a,h=>by
  cases h with
  |cons r q =>
   obtain⟨f,e⟩:=rP q;obtain⟨t,rfl⟩:=r;refine⟨λv d=>?_,?_⟩
   ·rcases Zj.mp d with rfl | d
    ·exact⟨s,t,rfl⟩
    ·exact f v d
   ·rw[Zc,e];rfl
theorem ou:∀{a:W7},(∀v∈a,∃x t,v=Value.str x t)->aQ ((a.map strOf).map V.str) a
 |[],_=>.nil
 |u :: a,h=>by
  obtain⟨x,t,rfl⟩:=h u (Zx ..);exact .cons ⟨t,rfl⟩ (ou λv b=>h v (Zv _ b))
def Ca{s:IR}{ss:List Str}(I:Inv X d J H j)(i:∀v∈g,∃x t,v=Value.str x t)(M:g.map strOf=ss)(f:g.length<=KF)(q:∀(l:KM)(p:List Str),H l=O->p.Perm ss->p.Pairwise (λa b=>¬b.cps.toList<a.cps.toList)->Q (.ref l) (upd H l (.lst (p.map V.str)))) :
  Nonempty (LZ X.prog X.w (EP X d J Q) g j):=by
 refine⟨⟨_,_,oneType',λA E h _=>EF strKind_oneLt,λv n=>?_,f,λF A E h _ Q C=>?_,λout G e m r kp he=>?_⟩⟩
 ·obtain⟨x,t,rfl⟩:=i v n;exact⟨_,rfl⟩
 ·match g,F,i with
  |R :: P :: S,_,i =>
   rw[keyKind_strs (strsAre_map _ i)];exact Zn C
 ·have o:∀v∈out,∃x t,v=Value.str x t:=λv n=>i v (m.mem_iff.mp n);have z:((out.map strOf).map V.str).length<=sizeLine:=by rw[Zt,Zt,m.length_eq];exact f
  refine⟨.ref j.heap.objs.size,_,I.laid (t':=j.toks) kp (Zp _) (show bX X.prog X.w _ G _ (.lst ((out.map strOf).map V.str)) from⟨z,out,e,ou o,he⟩),rfl,q _ _ (I.Ip.fresh (Zp _)) (by rw[← M];exact m.map _) ?_⟩;rw[Vz]at r ⊢;refine List.Pairwise.imp_of_mem (λ{a b} D hb N=>?_) r;obtain⟨x,t,rfl⟩:=o a D;obtain⟨y,u,rfl⟩:=o b hb;have:decide (y.cps.toList<x.cps.toList)=B:=N;exact of_decide_eq_false this
end
end L2
end
section
namespace VS
def zf{α:Type}(l:List α)(a b:Option Int):(cut l a b).length<=l.length:=by
 unfold cut;simp only[Kw,Yz];omega
def Bn{α:Type}(l:List α)(a b:Option Int){x:α}(h:x∈cut l a b):x∈l:=by
 unfold cut at h;exact Xw (YC h)
def nc{α:Type}(l:List α)(k:Nat):cut l O (Y (k:Int))=l.take k:=by
 have h:¬((k:Int)<0):=by lia
 by_cases a:k<=l.length
 ·simp[cut,clip,h,Yh a]
 ·rw[Yv `am];simp[cut,clip,h,WW (X1 a)]
def pS{α β:Type}(f:α->β)(l:List α)(a b:Option Int):cut (l.map f) a b=(cut l a b).map f:=by
 unfold cut;simp only[Zt,List.map_take,List.map_drop]
def su(e:a U=Y (m,.lst l)):c8 a U=Y (m,l):=by
 show (a U).bind BU=_;rw[e];rfl
def dY{tg:Tg}{it:Ln}{body:Sx}{U:Env}{m:Md}{l:Ut}(e:it U=Y (m,l))(h:okF m=L):gU tg it body U=forL tg body l U:=by
 unfold gU;rw[e];exact Zo h
def dq{U:Env}{t:T}(h:b U=Y a)(d:g (trees a)=Y (.fr,t)):cP g b U=Y (.fr,t):=by
 simp only[cP,h,Zs,d]
def aH{i:Nat}{e:Ex}{U:Env}{m:Md}{t:T}(h:e U=Y (m,t))(a:m ≠ .bo)(b:i<U.length):aI i e U=Y (.nx (U.set i (Y (.pu t)))):=by
 simp only[aI,h,Zs];cases m with
 |bo=>exact absurd M a
 |_=>simp[b]
def Bd(h:e U=Y (.fr,t))(a:oA t=L)(b:i<U.length):ip i e U=Y (.nx (U.set i (Y (.ow t)))):=by
 simp only[ip,h,Zs,cellOf,a,if_true,Zo b]
def Af:aW (m,.lst s) (n,.lst t)=K9 (m.join n) (s++t):=rfl
end VS
end
section
namespace VS
open PySem PySem.Spec PyProof.Rows L2
def Hy{a b c:Tx}(h:a<b)(d:¬c<b):a<c:=by
 by_cases e:a<c
 ·exact e
 ·exact absurd (List.lt_of_le_of_lt (Vd.mp e) h) d
theorem jZ(x:Tx):∀l:List Tx,(pG x l).Perm (x :: l)
 |[]=>Y0 _
 |y :: r=>by
  unfold pG;split
  ·exact((jZ x r).cons y).trans (List.Perm.swap _ _ _)
  ·exact Y0 _
theorem eZ:∀l:List Tx,(cU l).Perm l
 |[]=>Y0 _
 |x :: l=>(jZ x _).trans ((eZ l).cons x)
theorem rZ(x:Tx):∀{l:List Tx},l.Pairwise (λa b=>¬b<a)->(pG x l).Pairwise (λa b=>¬b<a)
 |[],_=>Wt _ _
 |y :: r,h=>by
  unfold pG;rw[j5];obtain⟨f,g⟩:=Wv.mp h;split
  ·rename_i c;have e:y<x:=by simpa using c
   refine Wv.mpr ⟨λz d=>?_,rZ x g⟩;rcases Zj.mp ((jZ x r).mem_iff.mp d) with rfl | d
   ·exact λz=>XX _ (VP e z)
   ·exact f z d
  ·rename_i c;have e:¬y<x:=by simpa using c
   refine Wv.mpr ⟨λz d=>?_,h⟩;rcases Zj.mp d with rfl | d
   ·exact e
   ·exact λw=>f z d (Hy w e)
theorem pk:∀l:List Tx,(cU l).Pairwise (λa b=>¬b<a)
 |[]=>List.Pairwise.nil
 |x :: l=>rZ x (pk l)
def pf{d:List Tx}(h:d.Perm l)(e:d.Pairwise (λa b=>¬b<a)):d=cU l :=
 List.Perm.eq_of_pairwise (le:=λa b=>¬b<a) (λa b _ _ g f=>List.le_antisymm (Vd.mp g) (Vd.mp f)) e (pk l) (h.trans (eZ l).symm)
def x8(s:Tx):(sx s).cps.toList=s:=rfl
def AI{f:List Tx}{d:List Str}(h:d.Perm (f.map sx))(i:d.Pairwise (λa b=>¬b.cps.toList<a.cps.toList)):d=(cU f).map sx:=by
 have e:d=(d.map λx=>x.cps.toList).map sx:=by
  rw[Yp]
  conv=>lhs;rw[← List.map_id d]
  apply VX;intro x g;obtain⟨s,_,rfl⟩:=JD.mp (h.mem_iff.mp g);show sx s=sx (sx s).cps.toList;rw[x8]
 have e2:(d.map λx=>x.cps.toList)=cU f:=by
  refine pf ?_ ?_
  ·have:=h.map λx:Str=>x.cps.toList;rw[Yp]at this;have e3:((λx:Str=>x.cps.toList) ∘ sx)=id:=by
    funext s;exact x8 s
   rw[e3,List.map_id]at this;exact this
  ·rw[Vz];exact i
 rw[e,e2]
def Pb(s:Tx):Bool:=decide (s.length<=dZ)&&s.all (λc=>decide (c<1114112))
def E2(h:Pb s=L):oE s:=by
 unfold Pb at h;simp at h;exact h
section
theorem uC{H:Hp}:∀{ss:List Tx},(∀s∈ss,oE s)->RpL G H (ss.map λs=>V.str (sx s)) (ss.map T.str) (ss.map λ_=>[])
 |[],_=>.nil
 |s :: ss,h=>.cons (.str s (h s (Zx ..))) (uC λx a=>h x (Zv _ a))
theorem sM{α β:Type}:∀(l:List α),(l.map λ_=>([]:List β)).flatten=[]
 |[]=>rfl
 |_ :: l=>by simp
theorem vn:∀{d:List V}{l:Ut}{f:Xz}{b:List Tx},RpL G H d l f->strs? l=Y b->∀s∈b,oE s
 |_,_,_,_,.nil,e,s,a=>by cases e;simp at a
 |_,_,_,_,.cons (t:=t) r q,e,s,a=>by
  cases t with
  |str x =>
   obtain⟨g,e1,e2⟩:=Zy.mp e;subst e2;rcases Zj.mp a with rfl | a
   ·exact r.str_inv.2
   ·exact vn q e1 s a
  |_=>cases e
def rL{G:Gx}{Z:Iw}{U:VS.Env}{H0 H:Hp}{ss:List Tx}{Q:VK}(k:∀v f F,aM H f->Rp G f v (.lst ((cU ss).map T.str)) F->Fp Z U H0 .fr F->Q v f)(j:aM H0 H)(h:∀s∈ss,oE s) :
  ∀(l:KM)(d:List Str),H l=O->d.Perm (ss.map sx)->d.Pairwise (λa b=>¬b.cps.toList<a.cps.toList)->Q (.ref l) (upd H l (.lst (d.map V.str))):=λq d g o hw=>by
 rw[AI o hw];have i:aM H (upd H q (.lst (((cU ss).map sx).map V.str))):=bh g;have m:=uC (G:=G) (H:=upd H q (.lst (((cU ss).map sx).map V.str))) λs n=>h s ((eZ ss).mem_iff.mp n);have r:Rp G (upd H q (.lst (((cU ss).map sx).map V.str))) (.ref q) (.lst ((cU ss).map T.str)) (q :: ((cU ss).map λ_=>[]).flatten):=.lst (by rw[aw,Yp];rfl) m;rw[sM]at r;exact k _ _ _ i r (Fp.new (j.free g) (by simp) Fp.nil)
theorem keys_str:∀{a:List Key}{b:List Tx},strs? (a.map aS)=Y b->a=(b.map sx).map Sum.inr
 |[],_,e=>by cases e;rfl
 |.inl i :: a,_,e=>by cases e
 |.inr x :: a,b,e=>by
  obtain⟨d,e1,e2⟩:=Zy.mp (show (strs? (a.map aS)).map (x.cps.toList :: ·)=Y b from e);subst e2;rw[keys_str e1];simp[sx]
def pB:bootBuiltins ("sorted" : Str)=Y (.builtin "sorted"):=by decide +kernel
end
end VS
end
section
namespace ST
open PySem PySem.Spec PyProof.Rows
noncomputable def M5(w:XAB):Bool:=w.params.followText "set-order"
structure Tb(w:XAB)(n:Nat)(t:SetTable):Prop where
 fit:t.fits n=true
 led:t.led=!M5 w
 pl:n≠0->t.plain=false
noncomputable def RL(w:XAB)(l:List (Int×On)):Prop:=∀e∈l,∃x a,e=(hashStr w x,Value.str x a)
noncomputable def nm(l:List (Int×On)):List Str:=l.map λe=>strOf e.2
structure Ts(w:XAB)(h:XAA)(a:KM)(ss:List Str)(es:Array (Int×On))(ep:Nat)(t:SetTable):Prop where
 at_:h.get? a=some { cls:=.type "set",dict:=none,data:=.set es ep t }
 tb:Tb w es.size t
 Nn:RL w es.toList
 pm:(nm es.toList).Perm ss
 nd:ss.Nodup
 Jo:es.size<scanBound
def RL.of(h:RL w l):ElemsOf (strKind prog w) l:=λe he=>by
 obtain⟨x,a,rfl⟩:=h e he;exact⟨⟨x,strKind_is prog w x a,rfl⟩,rfl⟩
def zS(h:RL w l)(he:e∈l):(strKind prog w).is k e.2=L↔strOf e.2=k:=by
 obtain⟨x,b,rfl⟩:=h e he;constructor
 ·intro a;obtain⟨u,e⟩:=V6 (show Value.isStrOf k (.str x b)=L from a);cases e;rfl
 ·intro a;cases a;exact strKind_is prog w _ b
def FG(t:SetTable)(n:Nat):(t.orStandIn n).led=t.led/\(t.plain=B->(t.orStandIn n).plain=B):=by
 unfold SetTable.orStandIn;by_cases a:t.fits n=L
 ·rw[Zo a];exact⟨rfl,λq=>q⟩
 ·rw[Zl a];exact⟨rfl,λ_=>rfl⟩
def Bq(t:SetTable)(a:Array (Int×On))(h:Int)(x:On):(layNew t a h x).2.1.led=t.led/\(t.plain=B->(layNew t a h x).2.1.plain=B):=by
 unfold layNew;split
 ·exact FG _ _
 ·exact⟨rfl,λ_=>rfl⟩
def xk(t:SetTable)(b:Array (Int×On))(n:Nat):(relayAll t b n).2.1.led=t.led/\(t.plain=B->(relayAll t b n).2.1.plain=B):=by
 unfold relayAll;cases a:t.relaid (b.map λy=>y.1) n with
 |none=>exact⟨rfl,λ_=>rfl⟩
 |some p =>
  obtain⟨d,ord⟩:=p;have e:d.led=t.led/\d.plain=t.plain:=by
   unfold SetTable.relaid SetTable.laid at a;cases f:SetTable.layClean (SetTable.sizeAbove n-1) (b.map λy=>y.1) with
   |none=>rw[f]at a;cases a
   |some o =>
    rw[f]at a;cases a;exact⟨rfl,rfl⟩
  dsimp only;split
  ·exact⟨e.1,λq=>by rw[e.2];exact q⟩
  ·exact⟨rfl,λ_=>rfl⟩
def zo{s:IR}(T:Ts w s.heap a i v Z t)(hr:i.length+1<scanBound)(h:∀u IQ KI M0 t' b,Heap.SameBut a s.heap u->Ts w u a IQ KI M0 t'->(∀y,y∈IQ↔y∈i\/y=x)->IQ.length<=i.length+1->Q b { s with heap:=u }) :
  PP `ax A (setAddHashed a (.str x p) (hashStr w x)) Q E s:=by
 have G:=T.Nn.of (prog:=prog);have OR:=strKind_is prog w x p;have hsz:v.size=i.length:=by rw[← T.pm.length_eq];simp[nm]
 unfold setAddHashed setAddHashedIn;refine YE (Zu (Xc T.at_ M T.tb.fit ?_));dsimp only;rw[byScan_of (knd:=strKind prog w) M T.Jo G,Zo M];unfold setAddByScan;refine Zu (Zu (Vy (Zu (wpAny_setScan_of (knd:=strKind prog w) OR T.at_ M T.tb.fit G ?_))));cases X:List.findIdx? (λe=>(strKind prog w).is x e.2) v.toList with
 |some j =>
  obtain⟨hj,hpj,_⟩:=List.findIdx?_eq_some_iff_getElem.mp X;have hx:x∈i:=T.pm.mem_iff.mp (JD.mpr ⟨_,Ys hj,(zS T.Nn (Ys hj)).mp hpj⟩);refine Zn (Zn ?_);exact h s.heap i v Z t _ (Heap.SameBut.refl a s.heap) T (λy=>⟨.inl,λz=>z.elim id λe=>e ▸ hx⟩) (XT _)
 |none =>
  have hx:x∉i:=λF=>by
   obtain⟨e,he,q⟩:=JD.mp (T.pm.mem_iff.mpr F);have:=List.findIdx?_eq_none_iff.mp X e he;rw[(zS T.Nn he).mpr q]at this;cases this
  have J:=layNew_perm t v (hashStr w x) (.str x p);have LV:=layNew_fits t v (hashStr w x) (.str x p);have L9:=Bq t v (hashStr w x) (.str x p);dsimp only;generalize layNew t v (hashStr w x) (.str x p)=L at J LV L9 ⊢;obtain⟨g,t1,wd,gv⟩:=L;dsimp only at J LV L9 ⊢;rw[Wb]at J;have UT:RL w g.toList:=λe he=>by
   rcases Zi.mp (J.mem_iff.mp he) with q | q
   ·exact T.Nn e q
   ·exact⟨x,p,Zk.mp q⟩
  have D:(nm g.toList).Perm (i++[x]):=(J.map _).trans (by
   rw[Yu];exact T.pm.append_right _)
  have ND:(i++[x]).Nodup:=ZG.mpr ⟨T.nd,by simp,λy hy z hz e=>hx (by rw[← Zk.mp hz,← e];exact hy)⟩;have sz1:g.size=i.length+1:=by
   have:=D.length_eq;simpa[nm] using this
  have OZ:g.size<scanBound:=by rw[sz1];exact hr
  have fin:∀(n:Array (Int×On))(Rm:Nat)(d:SetTable)(u:XAA)(b:Bool),n.toList.Perm g.toList->d.fits n.size=true->d.led=t.led->d.plain=B->Heap.SameBut a s.heap u →
    u.get? a=Y { cls:=.type "set",dict:=O,data:=.set n Rm d }->Q b { s with heap:=u }:=λn Rm d u b p2 f2 U S sb H =>
   h u (i++[x]) n Rm d b sb ⟨H,⟨f2,U.trans T.tb.led,λ_=>S⟩,λe he=>UT e (p2.mem_iff.mp he),(p2.map _).trans D,ND,by
    rw[← KL,p2.length_eq,KL];exact OZ⟩ (λy=>by simp) (by simp)
  have rest:∀(d:SetTable),d.fits g.size=true->d.led=t.led->d.plain=B->PP `ax A (do
    storeSet a g d
    if (!wd&&d.tooFull)=true then
     let r:=relayAll d g (SetTable.grown g.size)
     (match r.2.2 with
      |true=>rule "set.scan.the-table-gave-way"
      |false=>pure ())
     storeSet a r.1 r.2.1
     pure (Y true)
    else pure (Y true)) (λo l=>∃b,o=Y b/\Q b l) E s:=λd f2 U S=>by
   refine Zu (wpAny_storeSet_of T.at_ M ?_ (WT OZ));have H:(s.heap.update a (Obj.putSet g d)).get? a=Y { cls:=.type "set",dict:=O,data:=.set g (Z+1) d }:=Ye _ T.at_ M;have C:Heap.SameBut a s.heap (s.heap.update a (Obj.putSet g d)):=XO ..;by_cases hq:(!wd&&d.tooFull)=true
   ·rw[Zo hq];have rp:=relayAll_perm d g (SetTable.grown g.size);have rf:=relayAll_fits d g (SetTable.grown g.size);have P:=xk d g (SetTable.grown g.size);generalize relayAll d g (SetTable.grown g.size)=R at rp rf P ⊢;obtain⟨n,N,gv2⟩:=R;dsimp only at rp rf P ⊢;have UG:n.size<scanBound:=by rw[← KL,rp.length_eq,KL];exact OZ
    have g3:((s.heap.update a (Obj.putSet g d)).update a (Obj.putSet n N)).get? a=Y { cls:=.type "set",dict:=O,data:=.set n (Z+1+1) N }:=Ye _ H M;have st:PP `ax A (storeSet a n N >>= λ_=>pure (Y true)) (λo l=>∃b,o=Y b/\Q b l) E { s with heap:=s.heap.update a (Obj.putSet g d) } :=
     Zu (wpAny_storeSet_of H M (Zn ⟨true,rfl,fin n _ N _ _ rp rf (P.1.trans U) (P.2 S) (C.trans (XO ..)) g3⟩) (WT UG))
    cases gv2 with
    |true=>exact Zu (Vy st)
    |false=>exact Zu (Zn st)
   ·rw[Zl hq];exact Zn ⟨true,rfl,fin g _ d _ _ (Y0 _) f2 U S C H⟩
  have out:∀(m:Sem (Option Bool)),PP `ax A m (λo l=>∃b,o=Y b/\Q b l) E s->PP `ax A m (λo l=>PP `ax A (match o with | some added=>pure added | none=>setAddHashedIn a (.str x p) (hashStr w x) 99999) Q E l) E s:=λm F =>
   Y7 F (λo l ⟨b,e,q⟩=>by subst e;exact Zn q) λ_ _ e=>e
  refine out _ ?_;have mid:∀(m:Sem Unit),(∀(s1:IR)(Q1:Unit->IR->Prop),Q1 () s1->PP `ax A m Q1 E s1)->∀(f:Unit->Sem (Option Bool)),PP `ax A (f ()) (λo l=>∃b,o=Y b/\Q b l) E s->PP `ax A (m>>=f) (λo l=>∃b,o=Y b/\Q b l) E s:=λm F f X=>Zu (F s _ X);refine mid _ (λs1 Q1 q1=>by cases gv<;>first | exact Zn q1 | exact Vy q1) _ ?_;by_cases hp:t1.plain=true
  ·rw[Zo hp];refine Zu (m:=hashByValue 8 (.str x p)) (Zn ?_);simp only[YS,↓reduceIte];exact rest { t1 with plain:=false } (SetTable.fits_plain_off LV) L9.1 rfl
  ·rw[Zl hp];refine Zu (Zn ?_);simp only[↓reduceIte];exact rest t1 LV L9.1 (by simpa using hp)
theorem rh{prog:Re}{w:XAB}{A:SC}{R:Result->IR->Prop}{I S:KM}{fp Q:Wp}{G:Array GenState->Array GenState->Prop}{n:Nat}{P:Nat->On->Prop}{St:Nat->IR->Prop}{q:List Str}(W:WalksS prog w A.in1 I fp Q G n P St)(a:S∉fp)(X:n=q.length)(hP:∀i v,P i v->∃x t,v=.str x t/\q[i]?=Y x)(g:n+1<scanBound) :
  ∀(k i:Nat)(s:IR)(d:List Str)(j:Array (Int×On))(l:Nat)(t:SetTable),i+k=n->St i s->Ts w s.heap S d j l t->(∀y,y∈d↔y∈q.take i)->d.length<=i →
   (∀f p N M r,Moved (S :: Q) G s f->Ts w f.heap S p N M r->(∀y,y∈p↔y∈q)->p.length<=n->R (.ok (.ret .none)) f) →
   codeAny `ax A (.builtin "set.update.loop" ⟨[.ref S,.ref I],[]⟩) R s
 |0,i,s,d,j,l,t,hk,st,T,C,Z,H=>by
  have hi:i=n:=by omega
  subst hi;refine Xp F.entry_set_update_loop ?_;rw[Y1 V4];refine Zu (m:=pyNext (.ref I)) (W.done s _ _ st λf mv=>Zn (H f d j l t (mv.mono λb g=>Zv _ g) ⟨mv.heap S _ (λh=>a (W.sub _ h)) T.at_,T.tb,T.Nn,T.pm,T.nd,T.Jo⟩ (λy=>?_) Z));rw[C y,X,List.take_length]
 |k+1,i,s,d,j,l,t,hk,st,T,C,Z,H=>by
  refine Xp F.entry_set_update_loop ?_;rw[Y1 V4];refine Zu (m:=pyNext (.ref I)) (W.item i s _ _ `am st λv s1 pv Ji mv=>?_);obtain⟨x,U,rfl,hx⟩:=hP i v pv;have T1:Ts w s1.heap S d j l t:=⟨mv.heap S _ (λh=>a (W.sub _ h)) T.at_,T.tb,T.Nn,T.pm,T.nd,T.Jo⟩
  refine Zu (m:=holding [Value.str x U] (setAdd S (.str x U))) (YE ?_);unfold setAdd;refine YE (Zu (wpAny_pyHash_str (zo (s:={ s1 with toks:=s1.toks+1 }) T1 `am λh' p N M r b sb T2 QP J0=>?_)));refine Zn ⟨Wr V4 _,rh W a X hP g k (i+1) _ p N M r `am (W.frame _ s1 _ _ Ji (XT _) λc D o e=>?_) T2 (λy=>?_) `am λs2 u Mb Rm t2 z T3 TU Ks=>?_⟩
  ·rw[sb.2 c λJ=>a (J ▸ D)];exact e
  ·rw[QP y,C y,List.take_add_one,hx,Zi];simp
  ·refine H s2 u Mb Rm t2 (Moved.trans W.gtrans (Moved.then_heap (mv.mono λb g=>Zv _ g) (XT _) λc o D e=>?_) z) T3 TU Ks;rw[sb.2 c λJ=>D (by rw[J];exact Zx)];exact e
abbrev bare(w:XAB):Obj:={ cls:=.type "set",dict:=O,data:=.set #[] 0 (.fresh 0 0 (!M5 w)) }
def CN{s:IR}(v:On){Q:Yx}(h:Q (.ref s.heap.objs.size) { s with heap:=s.heap.push (bare w) }) :
  codeAny `ax A (.call (.builtin "set.__new__") ⟨[.type "set",v],[]⟩) (wants Q E) s:=by
 refine codeAny_of_tree (Zu (m:=checkBuiltinCall "set.__new__" ⟨[.type "set",v],[]⟩) (wpAny_of_eq (F.newCall_set_1 v) (Zn ⟨Wr F.plain_set_new _,Xp F.entry_set_new ?_⟩)));rw[Y1 F.plain_set_new];have own:=sub_set_self;cases s;unfold Builtin.«set.__new__» Builtin.Frozenset.newClass
 wp_walk
 refine WI (Zn ?_);simp only[newObj];exact Zu (wpAny_alloc (Zn (Zn h)))
theorem Ts.bare(h:XAA):Ts w (h.push (ST.bare w)) h.objs.size [] #[] 0 (.fresh 0 0 (!M5 w)) :=
 ⟨ZV _ M,⟨rfl,rfl,λe=>absurd M e⟩,λe he=>by simp at he,Y0 _,Yt,by decide⟩
def AH{A:SC}{s:IR}{xs:List Str}(Z:A.handled=O)(X:s.heap.IsList l j)(S:∀(i:Nat)(v:On),j[i]?=Y v->∃x t,v=.str x t/\xs[i]?=Y x)(P:j.size=xs.length)(hb:xs.length+1<scanBound)(h:∀(u:XAA)(H:Nat) ss es ep t,Ts w u s.heap.objs.size ss es ep t->(∀y,y∈ss↔y∈xs)->(∀b o,s.heap.get? b=Y o->u.get? b=Y o)->Q (.ref s.heap.objs.size) { s with heap:=u,toks:=H }) :
  PP `ax A (call (.type "set") [.ref l]) Q E s:=by
 have f:=F.called_set;obtain⟨c,tl,mro⟩:=f.mro;have made:=f.made;have sub:=f.sub;have nt:=f.notType;have cc:=f.canCreate;have tc:=F.typeCall_set_1 (.ref l);refine wpAny_call (codeAny_of_tree (Zn (show _/\codeAny _ _ (.builtin "type.__call__" _) _ _ from⟨Code.quiet_builtin _ `bd,Xp F.entry_type_call ?_⟩)));rw[Around.under_plain (weight_type_call_type "set" [.ref l] []) M]
 repeat any_goals first | assumption | wp_step
 refine WR (CN (.ref l) (E:=E) (Q:=λv s1=>v=.ref s.heap.objs.size/\s1={ s with heap:=s.heap.push (bare w) }) ⟨rfl,rfl⟩) λr s1 a=>?_
 match r,a with
 |.error e,a=>exact a
 |.ok (.ret v),⟨e1,e2⟩ =>
  subst e1 e2;have g:=Ts.bare (w:=w) s.heap;have ty:Shared.TypeIs { s with heap:=s.heap.push (bare w) } (.ref s.heap.objs.size) "set" := ⟨_,g.at_,rfl⟩
  have il:=f.init.lookup;have ib:=f.init.bind (.ref s.heap.objs.size)
  repeat any_goals first | assumption | wp_step
  refine WR (codeAny_call_builtin (R:=wants (λv C=>v=.none/\Q (.ref s.heap.objs.size) C) E) f.init.plain F.entry_set_init (check_set_init_1 ty ?_)) λr2 C d=>?_
  ·obtain⟨ol,m,D,nl,n⟩:=X;cases ol;dsimp only at D n;subst D n;have G:=ZO m;have O8:=Zm (bare w) m;have lst:(s.heap.push (bare w)).IsList l j:=⟨_,O8,rfl,nl,rfl⟩
   have n1:=F.sub_list_set;have n2:=F.sub_list_frozenset;have n3:(Value.type "list" == Value.type "dict")=B:=rfl;unfold Builtin.«set.__init__» noKeywords Builtin.Frozenset.updateFrom;generalize eP:pyIter=itr
   wp_walk
   subst eP;refine wpAny_pyIter_list lst (Zu (wpAny_runValue ?_));have out:l≠(s.heap.push (bare w)).objs.size:=by rw[YJ];exact Ze (Ym G)
   have off:s.heap.objs.size∉[(s.heap.push (bare w)).objs.size,l]:=by
    rw[YJ];simp only[Zj,XZ,or_false,not_or];exact⟨Ze (Yn _),XS G⟩
   have T1:Ts w ((s.heap.push (bare w)).push { cls:=.type "list_iterator",data:=.fields #[.ref l,.int 0 0] }) s.heap.objs.size [] #[] 0 (.fresh 0 0 (!M5 w)) :=
    ⟨Zm _ g.at_,g.tb,g.Nn,g.pm,g.nd,g.Jo⟩
   refine rh ((Walks.list (by simp[Z]) _ l out j).toS) off P S `am j.size 0 _ [] #[] 0 _ (by exact Xg _) ⟨⟨_,ZV _ M,rfl,rfl⟩,lst.push _⟩ T1 (by simp) (Zp _) λN IQ KI M0 J mv T U _=>?_;obtain⟨u,g',d',ME,Ow⟩:=N;have e1:g'=s.gens:=mv.gens;have e2:d'=s.drawn:=mv.drawn;have e3:Ow=s.os:=mv.os;subst e1 e2 e3;refine Zn (Zn ⟨rfl,h u ME IQ KI M0 J T U λb o e=>mv.heap b o (λz=>?_) (Zm _ (Zm _ e))⟩);have p:=ZO e;rw[YJ]at z;simp only[Zj,XZ,or_false]at z;rcases z with q | q
   ·exact Ze p q
   ·exact Ze (Ym p) q
  ·match r2,d with
   |.error e,d=>exact d
   |.ok (.ret v),⟨e1,e2⟩ =>
    subst e1
    repeat any_goals first | assumption | wp_step
   |.ok .next,d=>exact d.elim
   |.ok .brk,d=>exact d.elim
   |.ok .cont,d=>exact d.elim
 |.ok .next,a=>exact a.elim
 |.ok .brk,a=>exact a.elim
 |.ok .cont,a=>exact a.elim
end ST
end
section
namespace ST
open PySem PySem.Spec PyProof.Rows
def mK:Slot "set_iterator" "__next__" "set_iterator.__next__" := .of (owner := "set_iterator") (n := "__next__") (by rw[VQ,WJ];kernel_rfl) `bd `bd
 `bd (by first | exact .inl `bd | exact .inr `bd) (by rw[VL];kernel_rfl)
def wo:Slot "set_iterator" "__iter__" "set_iterator.__iter__" := .of (owner := "set_iterator") (n := "__iter__") (by rw[VQ,WJ];kernel_rfl) `bd `bd
 `bd (by first | exact .inl `bd | exact .inr `bd) (by rw[VL];kernel_rfl)
def B3:entryFor table "set_iterator.__next__" = Y Builtin.«set_iterator.__next__» := entryFor_of_fast (by kernel_rfl)
def Bz:entryFor table "set_iterator.__iter__" = Y Builtin.«dict_keyiterator.__iter__» := entryFor_alias (id' := "dict_keyiterator.__iter__") (by kernel_rfl) M `bd (by kernel_rfl)
def BC:entryFor table "set.__iter__" = Y Builtin.«frozenset.__iter__» := entryFor_alias (id' := "frozenset.__iter__") (by kernel_rfl) M `bd (by kernel_rfl)
def Bs(v:On):argsOk "set_iterator.__next__" ⟨[v],[]⟩:=by unfold argsOk;kernel_rfl
def Cw(v:On):argsOk "set_iterator.__iter__" ⟨[v],[]⟩:=by unfold argsOk;kernel_rfl
def wp_choose(b:n≠0)(h:∀i d,i<n->Q i { s with drawn:=d }):PP `ax A (choose a n) Q E s:=λΓ p _=>by
 show n≠0/\_;exact⟨b,h _ _ (Nat.mod_lt _ (KR b))⟩
theorem qh{α:Type}:∀(l:List α){i:Nat}(h:i<l.length),(l[i] :: l.eraseIdx i).Perm l
 |a :: l,0,_=>Y0 _
 |a :: l,i+1,h=>((List.Perm.swap _ _ _).trans ((qh l (by simpa using h)).cons a))
def Bg{α:Type}:∀(n:Nat)(a:List α)(s:IR)(Q:List α->IR->Prop),n=a.length->(∀b d,b.Perm a->Q b { s with drawn:=d })->PP `ax A (drawOrder n a) Q E s:=by
 intro n
 induction n with
 |zero =>
  intro a s Q e h;cases a with
  |nil=>exact Zn (h [] s.drawn (Y0 _))
  |cons x a=>exact absurd e (by simp)
 |succ n g =>
  intro a s Q e h;cases a with
  |nil=>exact absurd e (by simp)
  |cons x a =>
   unfold drawOrder;refine Zu (wp_choose (by simp) λi d f=>?_);rw[Zq f];refine Zu (g _ _ _ (by rw[List.length_eraseIdx,Zo f];simp at e ⊢;omega) λb l j=>Zn (h _ l ?_));exact(List.Perm.cons _ j).trans (qh _ f)
noncomputable abbrev Ng(first:On)(i:Nat)(a:KM)(n b:Nat):Obj:={ cls:=.type "set_iterator",data:=.fields #[first,.int i 0,.ref a,.int n 0,.int b 0] }
def Au{t:SetTable}(h:t.fits n=L):¬((t.place.size != n||decide (t.fill > t.mask))=L):=by
 unfold SetTable.fits at h;simp at h;simp[h.1];exact h.2
def yj{A:SC}{s:IR}(g:A.handled=O)(h:∀(d:XAA)(x:KM),(∀b o,s.heap.get? b=Y o->d.get? b=Y o)->(∃o,d.get? x=Y o/\o.cls=.type "StopIteration")->f (.ref x) { s with heap:=d }) :
  PP `ax A (newExc (.type "StopIteration") [] >>= λe=>raiseNew e) Q f s:=by
 simp only[newExc,newTuple];refine Zu (Zu (Xb (Zu (m:=firstArgMember _ _) (wpAny_of_eq (a:=Value.none) (by first | rfl | (simp only[firstArgMember];rfl)) (Xb ?_ (by size_fits)))) (by size_fits)));unfold raiseNew;dsimp only;refine Zu (wpAny_handled ?_);rw[g];exact Zu (Zn (wpAny_throw (h _ _ (λb o e=>Zm _ (Zm _ e)) ⟨_,ZV _ M,rfl⟩)))
def we{A:SC}{s:IR}(j:s.heap.get? I=Y { cls:=.type "set_iterator",data:=.fields l })(h:PP `ax A.in1 (Builtin.«set_iterator.__next__» ⟨[.ref I],[]⟩) (λf a=>∃v,f=.done (.ret v)/\Q (Y v) a) (λe a=>∃x,e=.ref x/\(∃o,a.heap.get? x=Y o/\o.cls=.type "StopIteration")/\Q O a) s) :
  PP `ax A (pyNext (.ref I)) Q E s:=by
 unfold pyNext;have ty:s.TypeIs (.ref I) "set_iterator" := ⟨_,j,rfl⟩
 refine Zu (wpAny_attempt (wpAny_callSpecial?_slot (name:=Str.ofString "__next__") ty mK (Xv mK ty B3 (Y7 h (λf a g=>?_) λe a he=>?_) (Bs _))))
 ·obtain⟨v,rfl,q⟩:=g;exact⟨v,rfl,Zn q⟩
 ·obtain⟨x,rfl,⟨o,d,i⟩,q⟩:=he;exact Zu (Vh (T := "StopIteration") (b:=L) ⟨o,d,i⟩ isSubtype_stop (Zn q))
noncomputable abbrev oN(a:Array (Int×On))(b:Nat)(t:SetTable):Obj:={ cls:=.type "set",dict:=O,data:=.set a b t }
def nA{A:SC}{s:IR}{q:Vu}(C:A.handled=O)(v:s.heap.get? a=Y (oN f m t))(r:t.fits f.size=L)(l:s.heap.get? I=Y (Ng (.ref p) i a f.size m))(y:s.heap.get? p=Y n)(D:n.data=.seq (q.map λ(k:Nat)=>rawInt k).toArray u)(H:∀j x,q[i]?=Y j->f[j]?=Y x->∀d,Heap.SameBut I s.heap d->d.get? I=Y (Ng (.ref p) (i+1) a f.size m)->Q (Y x.2) { s with heap:=d })(G:∀j,q[i]?=Y j->j<f.size)(F:q[i]?=O->∀d,(∀b o,b≠I->s.heap.get? b=Y o->d.get? b=Y o)->Q O { s with heap:=d }) :
  PP `ax A (pyNext (.ref I)) Q E s:=by
 refine we l ?_;unfold Builtin.«set_iterator.__next__»
 wp_walk
 rw[Zl (Au r)];refine Zn (Zn ?_);dsimp only;rw[Zl (by simp)];refine Zu (wpAny_seqItems y D ?_);dsimp only;rw[Yl];cases g:q[i]? with
 |some j =>
  have e1:(q.map λ(k:Nat)=>rawInt k).toArray[i]?=Y (rawInt j):=by simp[g]
  rw[e1];have z:=G j g;unfold setNextDrawn;refine Zu (Zu (Xc v M r ?_));dsimp only;rw[Yl,Zl (by simp)];show PP _ _ (match f[(j:Int).toNat]? with | some (_,x)=>pure x | _=>unsupported "internal:set_iterator") _ _ _;rw[Yl];cases h:f[j]? with
  |none=>rw[Y6 z]at h;cases h
  |some x =>
   refine Zn (Zu (XM l M (by show 1<5;decide) (Zn ⟨_,rfl,H j x g h _ (XO ..) ?_⟩)));exact Ye _ l M
 |none =>
  have e1:(q.map λ(k:Nat)=>rawInt k).toArray[i]?=O:=by simp at g ⊢;exact g
  rw[e1];dsimp only;have J:=Ye (Obj.mapFields (·.setIfInBounds 0 (rawInt 0))) l M;refine Zu (XM l M (by show 0<5;decide) (Zu (XM J M (by show 2<5;decide) (yj C λd x kp h=>⟨x,rfl,h,F g d λb o hb e=>kp b o ?_⟩))));exact(YI _ _ (YH hb)).trans ((YI _ _ (YH hb)).trans e)
def ic{prog:Re}{w:XAB}{A:SC}{s:IR}{I a:KM}{i h m:Nat}{g:Array (Int×On)}{t:SetTable}{r:Option (On×Nat)}{Q:Vv->IR->Prop}(u:A.handled=O)(z:s.heap.get? a=Y (oN g h t))(v:t.fits g.size=L)(f:s.heap.get? I=Y (Ng (.int m 0) i a g.size h))(q:∀(Q:Option (On×Nat)->IR->Prop)(E:Yx),Q r s->PP `ax A.in1 (setNext a m i h) Q E s)(l:∀x nx,r=Y (x,nx)->∀d,Heap.SameBut I s.heap d->d.get? I=Y (Ng (.int nx 0) (i+1) a g.size h)->Q (Y x) { s with heap:=d })(j:r=O->∀d,(∀b o,b≠I->s.heap.get? b=Y o->d.get? b=Y o)->Q O { s with heap:=d }) :
  PP `ax A (pyNext (.ref I)) Q E s:=by
 refine we f ?_;unfold Builtin.«set_iterator.__next__»
 wp_walk
 rw[Zl (Au v)];refine Zn (Zn ?_);dsimp only;rw[Zl (by simp)];simp only[Yl];refine Zu (q _ _ ?_)
 match r,l,j with
 |some (x,nx),l,_ =>
  have n:=Ye (Obj.mapFields (·.setIfInBounds 0 (rawInt nx))) f M;have y:=Ye (Obj.mapFields (·.setIfInBounds 1 (rawInt ((i:Int)+1)))) n M;exact Zu (XM f M (by show 0<5;decide) (Zu (XM n M (by show 1<5;decide) (Zn ⟨x,rfl,l x nx M _ (Heap.SameBut.trans (XO ..) (XO ..)) y⟩))))
 |none,_,j =>
  refine Zu (XM f M (by show 2<5;decide) (yj u λd x kp p=>⟨x,rfl,p,j M d λb o hb e=>kp b o ?_⟩));exact(YI _ _ (YH hb)).trans e
theorem vb{α:Type}(f:Nat->Nat):∀(n k:Nat)(l:List α)(out:Array α),l.length=n->(pickOrder.go f n k l out).toList.Perm (out.toList++l)
 |0,k,l,out,h=>by
  cases l with
  |nil=>unfold pickOrder.go;simp
  |cons a l=>simp at h
 |n+1,k,l,out,h=>by
  have b:f k%l.length<l.length:=Nat.mod_lt _ `am;unfold pickOrder.go;rw[Zq b];dsimp only;refine(vb f n (k+1) _ _ (by rw[List.length_eraseIdx,Zo b];lia)).trans ?_;rw[Wb,Zf];exact List.Perm.append_left _ (qh l b)
def k5{α:Type}(f:Nat->Nat)(a:Array α):(pickOrder f a).toList.Perm a.toList:=by
 unfold pickOrder;simpa using vb f a.size 0 a.toList #[] M
def uV{s:IR}(l:M5 w=L)(g:s.heap.get? a=Y (oN b d t))(j:t.fits b.size=L)(Q:Option (On×Nat)->IR->Prop)(E:Yx)(h:Q (((pickOrder (w.params.setOrder a d) b)[i]?).map λe=>(e.2,f)) s):PP `ax A (setNext a f i d) Q E s:=by
 have sb:∀(Q:Bool->IR->Prop),Q L s->PP `ax A setsByText Q E s:=λQ q=>Zu (WI (Zn (by show Q (M5 w) s;rw[l];exact q)));unfold setNext;refine Zu (Xc g M j (Zu (sb _ ?_)));dsimp only;rw[Zo M,Zl (by simp)];unfold setWalk;refine Zu (Zu (Xc g M j (Zu (sb _ ?_))));rw[Zo M];exact Zu (WI (Zn (Zn h)))
def zb{s:IR}(n:M5 w=B)(g:s.heap.get? a=Y (oN d f t))(m:t.fits d.size=L)(l:t.led=L)(p:d.size<=1)(Q:Option (On×Nat)->IR->Prop)(E:Yx)(h:Q (match d[SetTable.below t.place e]?,t.place[SetTable.below t.place e]? with | some (_,x),some j=>some (x,j+1) | _,_=>none) s):PP `ax A (setNext a e i f) Q E s:=by
 have sb:∀(Q:Bool->IR->Prop),Q B s->PP `ax A setsByText Q E s:=λQ q=>Zu (WI (Zn (by show Q (M5 w) s;rw[n];exact q)));unfold setNext;refine Zu (Xc g M m (Zu (sb _ ?_)));dsimp only;rw[Zl Zd];have o:∀b:Bool,¬((b&&decide (d.size > 1))=L):=λb=>by cases b<;>simp<;>omega
 refine(show PP _ _ (if (!t.plain&&decide (d.size > 1))=L then _ else _) _ _ _ from ?_);rw[Zl (o _)];refine Zu (show PP _ _ (if (!t.led && !d.isEmpty)=L then _ else _) _ _ _ from ?_);rw[Zl (by rw[l];simp)];exact Zn (Zn h)
end ST
end
section
namespace ST
open PySem PySem.Spec PyProof.Rows
def zB{α:Type}{a:Array α}(h:a.size=1):∃x,a=#[x]:=by
 obtain⟨l⟩:=a
 match l,h with
 |[x],_=>exact⟨x,rfl⟩
noncomputable abbrev Gs:Array GenState->Array GenState->Prop:=λa b=>b=a
def jl{n:Wp}{j:Array (Int×On)}{ep:Nat}{t:SetTable}{l:W7}(first:Nat->On)(d:XAA->Prop)(u:I∈n)(z:a∈n)(C:a≠I)(r:∀h f:XAA,d h->(∀b∈n,b≠I->∀o,h.get? b=Y o->f.get? b=Y o)->d f)(step:∀(i:Nat)(s:IR)(Q:Vv->IR->Prop)(E:Yx),i<j.size->s.heap.get? a=Y (oN j ep t)->s.heap.get? I=Y (Ng (first i) i a j.size ep)->d s.heap →
   (∀v f,l[i]?=Y v->Heap.SameBut I s.heap f->f.get? I=Y (Ng (first (i+1)) (i+1) a j.size ep)->Q (Y v) { s with heap:=f })->PP `ax A (pyNext (.ref I)) Q E s)(stop:∀(s:IR)(Q:Vv->IR->Prop)(E:Yx),s.heap.get? a=Y (oN j ep t)->s.heap.get? I=Y (Ng (first j.size) j.size a j.size ep)->d s.heap →
   (∀f,(∀b o,b≠I->s.heap.get? b=Y o->f.get? b=Y o)->Q O { s with heap:=f })->PP `ax A (pyNext (.ref I)) Q E s) :
  WalksS prog w A I n [I] Gs j.size (λi v=>l[i]?=Y v) (λi s=>s.heap.get? a=Y (oN j ep t)/\s.heap.get? I=Y (Ng (first i) i a j.size ep)/\d s.heap) where
 sub:=λb hb=>by rw[Zk.mp hb];exact u
 grefl:=λ_=>rfl
 gtrans:=λ_ _ _ p q=>q.trans p
 frame:=λi s f D st _ kp=>⟨kp a z _ st.1,kp I u _ st.2.1,r _ _ st.2.2 λb hb _ o e=>kp b hb o e⟩
 item:=λi s Q E y st m=>step i s Q E y st.1 st.2.1 st.2.2 λv f x sb g=>m v _ x ⟨(sb.2 a C).trans st.1,g,r _ _ st.2.2 λb _ hb o e=>(sb.2 b hb).trans e⟩ ⟨λb o hb e=>(sb.2 b λq=>hb (by rw[q];exact Zk.mpr M)).trans e,rfl,rfl,rfl,Zp _⟩
 done:=λs Q E st m=>stop s Q E st.1 st.2.1 st.2.2 λf kp=>m _ ⟨λb o hb e=>kp b o (λq=>hb (by rw[q];exact Zk.mpr M)) e,rfl,rfl,rfl,Zp _⟩
 self:=λi s Q E st m=>Vn ⟨_,st.2.1,rfl⟩ wo (Xv wo ⟨_,st.2.1,rfl⟩ Bz (show PP _ _ (ret (.ref I)) _ _ _ from Zn ⟨_,rfl, "set_iterator",_,⟨_,st.2.1,rfl⟩,mK.lookup,m⟩) (Cw _))
def Ready(b:Re)(w:XAB)(d:Nat)(a:KM)(e:Array (Int×On))(I:KM)(s:IR):Prop :=
 ∃(ord:W7)(p:KM),ord.Perm (e.toList.map (·.2))/\d<=I/\d<=p/\∃St:Nat->IR->Prop,(∀A:SC,A.handled=O->WalksS b w A I [I,a,p] [I] Gs e.size (λi v=>ord[i]?=Y v) St)/\St 0 s
def yk{s:IR}(T:Ts w s.heap a ss l ep t)(h:∀(I:KM)(p:XAA) d,(∀b o,s.heap.get? b=Y o->p.get? b=Y o)->Ready prog w s.heap.objs.size a l I { s with heap:=p,drawn:=d }->I<p.objs.size->Q (.ref I) { s with heap:=p,drawn:=d }) :
  PP `ax A (pyIter (.ref a)) Q E s:=by
 have H:s.heap.get? a=Y (oN l ep t):=T.at_;have IS:=ZO H;have ty:s.TypeIs (.ref a) "set" := ⟨_,H,rfl⟩
 refine Vn ty F.slot_set_iter (Xv F.slot_set_iter ty BC ?_ (F.args_set_iter_1 _));unfold Builtin.«frozenset.__iter__» Builtin.Frozenset.slot0 Builtin.Frozenset.sizeOf setEntries;refine Zu (m:=(do Builtin.Frozenset.addrOf (← slotArgs "__iter__" 0 ⟨[.ref a],[]⟩).1)) (Zn ?_);refine Zu (Zu (Zu (Xc H M T.tb.fit (Zn (Zn ?_)))));unfold setDrawn;have sb:∀(Q:Bool->IR->Prop)(E:Yx),Q (M5 w) s->PP `ax A.in1 setsByText Q E s:=λQ E q=>Zu (WI (Zn q));refine Zu (Zu (Xc H M T.tb.fit (Zu (sb _ _ (Zn ?_)))));refine(show PP _ _ (if (!M5 w&&(!t.plain&&decide (l.size > 1)))=L then _ else _) _ _ _ from ?_);dsimp only;have fin:∀(first:On)(n:XAA)(d:_),(∀b o,s.heap.get? b=Y o->n.get? b=Y o)->Ready prog w s.heap.objs.size a l n.objs.size { s with heap:=n.push (Ng first 0 a l.size ep),drawn:=d } →
   PP `ax A.in1 (do
    let e ← setEpoch a
    let v ← newFields "set_iterator" [first,rawInt 0,Value.ref a,rawInt l.size,rawInt e]
    ret v) (λf s'=>∃v,f=.done (.ret v)/\∃T' r,s'.TypeIs v T'/\typeLookup (Value.type T') (Str.ofString "__next__")=pure (Y r)/\Q v s') E { s with heap:=n,drawn:=d }:=λfirst n d kp rd=>by
  refine Zu (wpAny_setEpoch_of (s:={ s with heap:=n,drawn:=d }) (kp _ _ H) rfl T.tb.fit (Zu (Xb (Zn ⟨_,rfl, "set_iterator",_,⟨_,ZV _ M,rfl⟩,mK.lookup,?_⟩))));exact h n.objs.size _ d (λb o e=>Zm _ (kp b o e)) rd (by rw[YJ];exact Yn _)
 have Js:a≠s.heap.objs.size:=Ze IS;cases hb:M5 w with
 |true =>
  rw[Zl (by simp)];refine Zu (Zn (fin (rawInt 0) s.heap s.drawn (λb o e=>e) ⟨(pickOrder (w.params.setOrder a ep) l).toList.map (·.2),s.heap.objs.size,(k5 _ _).map _,Zp _,Zp _,_,λP D =>
   jl (ep:=ep) (t:=t) (λ_=>rawInt 0) (λ_=>True) (by simp) (by simp) Js (λ_ _ _ _=>trivial) ?step ?stop,⟨Zm _ H,ZV _ M,trivial⟩⟩))
  case step =>
   intro i s1 J N C n h2 _ q;have hl:(pickOrder (w.params.setOrder a ep) l).size=l.size:=by rw[← KL,(k5 _ l).length_eq,KL]
   refine ic D n T.tb.fit h2 (λQ E z=>uV hb n T.tb.fit Q E z) (λx nx e p sb g=>?_) λe=>?_
   ·rw[Y6 `am]at e;cases e;exact q _ p (by rw[ZP,Lj,Y6 `am];rfl) sb g
   ·rw[Y6 `am]at e;cases e
  case stop =>
   intro s1 J N n h2 _ q;have hl:(pickOrder (w.params.setOrder a ep) l).size=l.size:=by rw[← KL,(k5 _ l).length_eq,KL]
   refine ic D n T.tb.fit h2 (λQ E z=>uV hb n T.tb.fit Q E z) (λx nx e p sb g=>?_) λe=>q;rw[Wa (by exact X2 hl)]at e;cases e
 |false =>
  by_cases n:l.size > 1
  ·rw[Zo (by rw[T.tb.pl (by exact Nat.ne_zero_of_lt n)];simp[n])];refine Zu (Bg _ _ _ _ (by simp) λq d z=>Zu (Xb (fin _ _ d (λb o e=>Zm _ e) ?_) ?_))
   ·have S:q.length=l.size:=by rw[z.length_eq,ZC]
    have R:∀j∈q,j<l.size:=λj hj=>YV.mp (z.mem_iff.mp hj);refine⟨q.map λj=>((l[j]?).map (·.2)).getD .none,s.heap.objs.size,?_,by rw[YJ];exact XT _,Zp _,_,λP D =>
     jl (ep:=ep) (t:=t) (λ_=>.ref s.heap.objs.size) (λh=>h.get? s.heap.objs.size=Y { cls:=.type "tuple",data:=.seq (q.map λ(k:Nat)=>rawInt k).toArray }) (by simp) (by simp)
      (by rw[YJ];exact Ze (Ym IS)) (λx y e k=>k _ (by simp) (by rw[YJ];exact Ze (Yn _)) _ e) ?step ?stop,⟨Zm _ (Zm _ H),ZV _ M,Zm _ (ZV _ M)⟩⟩
    case step =>
     intro i s1 J N C u G U q1;refine nA D u T.tb.fit G U M (λj x e1 e2 p sb g=>q1 _ p ?_ sb g) (λj e=>R j (YU e)) λe=>?_
     ·rw[ZP,e1];simp[e2]
     ·rw[Zq `am]at e;cases e
    case stop =>
     intro s1 J N u G U q1;refine nA D u T.tb.fit G U M (λj x e1 e2 p sb g=>?_) (λj e=>R j (YU e)) λe=>q1;rw[Yy (by exact X2 S)]at e1;cases e1
    refine(z.map _).trans (List.Perm.of_eq ?_);apply Wf;intro i;rw[ZP,ZP];by_cases C:i<l.size
    ·rw[List.getElem?_range C,Lj,Y6 C];simp[C]
    ·rw[Yy (by rw[ZC];exact ZK C),Lj,Wa (by exact ZK C)];rfl
   ·show _<=KF;have S:q.length=l.size:=by rw[z.length_eq,ZC]
    have:=WT T.Jo;simp;lia
  ·rw[Zl (by simp[n])];have L9:t.led=L:=by rw[T.tb.led,hb];rfl
   have QI:t.place.size=l.size:=by
    have:=T.tb.fit;unfold SetTable.fits at this;simp at this;exact this.1
   have Ug:∀(i X:Nat)(s1:IR),s1.heap.get? a=Y (oN l ep t)->∀(P:SC)(Q:Option (On×Nat)->IR->Prop)(E:Yx),Q (match l[SetTable.below t.place X]?,t.place[SetTable.below t.place X]? with | some (_,x),some j=>some (x,j+1) | _,_=>none) s1 →
     PP `ax P (setNext a X i ep) Q E s1:=λi X s1 g P Q E z=>zb hb g T.tb.fit L9 (by exact ZK n) Q E z
   by_cases h0:l.size=0
   ·have he:l=#[]:=Array.eq_empty_of_size_eq_zero h0;refine Zu (Zn (fin (rawInt 0) s.heap s.drawn (λb o e=>e) ⟨[],s.heap.objs.size,by rw[he];exact Y0 _,Zp _,Zp _,_,λP D =>
     jl (ep:=ep) (t:=t) (λ_=>rawInt 0) (λ_=>True) (by simp) (by simp) Js (λ_ _ _ _=>trivial) ?step ?stop,⟨Zm _ H,ZV _ M,trivial⟩⟩))
    case step=>exact λi s1 J N C=>absurd C `am
    case stop =>
     intro s1 J N u G _ q;refine ic D u T.tb.fit G (Ug l.size 0 s1 u _) (λx nx e p sb g=>?_) λe=>q;rw[Wa `am]at e;cases e
   ·have OL:l.size=1:=by lia
    obtain⟨x0,Pj⟩:∃x,l=#[x]:=zB OL;obtain⟨Z,Sh⟩:∃j,t.place=#[j]:=zB (by exact Eq.trans QI OL);have b0:SetTable.below t.place 0=0:=by rw[Sh];simp[SetTable.below,SetTable.below.go]
    have b1:SetTable.below t.place (Z+1)=1:=by rw[Sh];simp[SetTable.below,SetTable.below.go]
    refine Zu (Zn (fin (rawInt 0) s.heap s.drawn (λb o e=>e) ⟨[x0.2],s.heap.objs.size,by rw[Pj];exact Y0 _,Zp _,Zp _,_,λP D =>
     jl (ep:=ep) (t:=t) (λi=>.int ((if i=0 then 0 else Z+1:Nat):Int) 0) (λ_=>True) (by simp) (by simp) Js (λ_ _ _ _=>trivial) ?step ?stop,⟨Zm _ H,ZV _ M,trivial⟩⟩))
    case step =>
     intro i s1 J N C u G _ q;have T7:i=0:=by lia
     subst T7;refine ic D u T.tb.fit G (Ug 0 0 s1 u _) (λx nx e p sb g=>?_) λe=>?_
     ·rw[b0,Pj,Sh]at e;cases e;exact q x0.2 p M sb g
     ·rw[b0,Pj,Sh]at e;cases e
    case stop =>
     intro s1 J N u G _ q;rw[OL]at G;have U:s1.heap.get? s.heap.objs.size=Y (Ng (.int ((Z+1:Nat):Int) 0) 1 a l.size ep):=by rw[OL];exact G
     refine ic D u T.tb.fit U (Ug 1 (Z+1) s1 u _) (λx nx e p sb g=>?_) λe=>q;rw[b1,Wa (by exact ZK n)]at e;cases e
def zz{s:IR}(f:s.TypeIs (.ref a) "set")(h:Q B s):PP `ax A (Builtin.List.listLengthHint (.ref a)) Q E s:=by
 unfold Builtin.List.listLengthHint;refine Zu (wpAny_specialOf f PySem.F.slot_set_len.lookup ?_);generalize d:("set.__len__" : String)=nm
 wp_delta
 rw[show splitId nm=Y ("set", "__len__") from by subst d;decide +kernel];subst d;exact Zu (Vh (T := "set") (b:=L) f sub_set_self (wpAny_ite_split (λe=>absurd e `ao) λ_=>wpAny_ite_split (λ_=>Zu (wpAny_typeOf f (Zn h))) λe=>absurd `bd e))
def CA{A:SC}{s:IR}{ss:List Str}(hh:A.handled=O)(T:Ts w s.heap a ss n S t)(h:∀(h':XAA) d (tk:Nat) (C:W7),(∀b o,s.heap.get? b=Y o->h'.get? b=Y o)->(∀v∈C,∃x u,v=Value.str x u)->(C.map strOf).Perm ss->R C { s with heap:=h',drawn:=d,toks:=tk }) :
  PP `ax A (collect (.ref a)) R E s:=by
 have ht:s.heap.get? a=Y (oN n S t):=T.at_;have IS:=ZO ht;have hz:=WT T.Jo;unfold collect;refine Zu (wpAny_runValue (Xp entry_proto_collect' ?_));rw[Y1 PySem.F.plain_proto_collect];refine Zu (m:=newList []) (Xb (Zn ⟨Wr PySem.F.plain_list_iadd _,Xp entry_list_iadd' ?_⟩));rw[Y1 PySem.F.plain_list_iadd];refine(show PP _ A.in1 (Builtin.List.listExtendWith (.ref s.heap.objs.size) (.ref a) (.ref s.heap.objs.size)) _ _ _ from ?_);have L0:(s.heap.push { cls:=.type "list",data:=.seq ([]:W7).toArray }).get? s.heap.objs.size=Y { cls:=.type "list",data:=.seq #[] }:=ZV _ M;have U:Ts w (s.heap.push { cls:=.type "list",data:=.seq ([]:W7).toArray }) a ss n S t:=⟨Zm _ ht,T.tb,T.Nn,T.pm,T.nd,T.Jo⟩
 unfold Builtin.List.listExtendWith;have ty:Shared.TypeIs { s with heap:=s.heap.push { cls:=.type "list",data:=.seq ([]:W7).toArray } } (.ref a) "set" := ⟨_,U.at_,rfl⟩
 refine Zu (wpAny_typeOf (T := "set") ty ?_);rw[Zl (by
  have:Builtin.List.listSameRef (.ref s.heap.objs.size) (.ref a)=B:=by simp[Builtin.List.listSameRef];exact XS IS
  rw[this];decide)]
 refine Zu (yk U λI N d kp rd hI=>?_);obtain⟨ord,p,X,J,Ni,St,W,st⟩:=rd;have D:Shared.TypeIs { s with heap:=N,drawn:=d } (.ref a) "set" := ⟨_,kp _ _ U.at_,rfl⟩
 refine Zu (YE (zz D ?_));have l:s.heap.objs.size<I:=ZZ (by rw[YJ];exact Yn _) J;have QI:s.heap.objs.size<p:=ZZ (by rw[YJ];exact Yn _) Ni;have off:s.heap.objs.size∉[I,a,p]:=by
  simp only[Zj,XZ,or_false,not_or];exact⟨Ze l,XS IS,Ze QI⟩
 have W1:=W A.in1 hh;have loop:∀(f:XAA)(c:Nat),(∀b o,b≠s.heap.objs.size->N.get? b=Y o->f.get? b=Y o)->f.get? s.heap.objs.size=Y { cls:=.type "list",data:=.seq #[] c } →
   codeAny `ax A (.builtin "list.extend.loop" ⟨[.ref s.heap.objs.size,.ref I,.ref s.heap.objs.size],[]⟩) (λr g=>∃acc z,r=.ok (.ret (.ref s.heap.objs.size))/\g.heap.get? s.heap.objs.size=Y { cls:=.type "list",data:=.seq acc z }/\R acc.toList g) { s with heap:=f,drawn:=d }:=λf c y j=>by
  refine codeAny_extend_loopS W1 hz s.heap.objs.size off _ n.size 0 _ #[] c M (ZD _) (W1.frame 0 _ f s.toks st (Zp _) λb hb o e=>y b o (λq=>off (q ▸ hb)) e) j (ItemsOf.nil _) λg acc z mv Q ha=>⟨acc,z,rfl,Q,?_⟩
  obtain⟨h3,P,d3,G,H⟩:=g;have e1:P=s.gens:=mv.gens;have e2:d3=d:=mv.drawn;have e3:H=s.os:=mv.os;subst e1 e2 e3;have Rq:acc.toList=ord:=by
   apply Wf;intro i;rw[Lj];cases e:acc[i]? with
   |some v=>exact(ha.2 i v e).symm
   |none =>
    have h4:acc.size<=i:=Array.getElem?_eq_none_iff.mp e;have h5:ord.length=n.size:=by rw[X.length_eq];simp
    exact(Yy (by rw[h5,← ha.1];exact h4)).symm
  refine h h3 d3 G acc.toList (λb o e=>?_) (λv Z=>?_) ?_
  ·have hb:=ZO e;refine mv.heap b o (λJG=>?_) (y b o (Ze hb) (kp b o (Zm _ e)));simp only[Zj,XZ,or_false]at JG;rcases JG with q | q
   ·exact Ze hb q
   ·exact Ze (WD hb l) q
  ·rw[Rq]at Z;obtain⟨e,he,rfl⟩:=JD.mp (X.mem_iff.mp Z);obtain⟨x,u,rfl⟩:=T.Nn e he;exact⟨x,u,rfl⟩
  ·rw[Rq];refine(X.map strOf).trans (List.Perm.trans (List.Perm.of_eq ?_) T.pm);rw[Yp];rfl
 have gL:=kp _ _ L0;have end_:∀(f:XAA)(c:Nat),(∀b o,b≠s.heap.objs.size->N.get? b=Y o->f.get? b=Y o)->f.get? s.heap.objs.size=Y { cls:=.type "list",data:=.seq #[] c }->_:=λf c y j =>
  WR (loop f c y j) (R':=λr g=>match r with | .ok (.ret v)=>PP `ax A (match v with | .ref a=>load a >>= λo=>(match o.data with | .seq xs _=>pure xs.toList | _=>unsupported "internal:collect") | _=>unsupported "internal:collect") R E g | .ok _=>False | .error e=>E e g) λr g hq=>by
   obtain⟨acc,z,e,Q,q⟩:=hq;subst e;exact Zu (wpAny_load Q (Zn q))
 rw[Zo `ao];have j:=Ye (Obj.mapSeq (·.push Value.none)) gL M;have P:=Ye (Obj.mapSeq (·.pop)) j M;refine Zu (Vy (Zu ?_));refine(show PP _ _ (updateSeq s.heap.objs.size (·.push .none) >>= λ_=>updateSeq s.heap.objs.size (·.pop)) _ _ _ from ?_);refine Zu (wpAny_updateSeq gL M (wpAny_updateSeq (hz:=by seq_fits) j M (Zn ⟨Wr PySem.F.plain_extend_loop _,end_ _ _ (λb o hb e=>?_) P⟩)));exact(YI _ _ (YH hb)).trans ((YI _ _ (YH hb)).trans e)
end ST
end
section
namespace L2
open PySem PySem.Spec PyProof.Rows TS
section
def CY(w:XAB)(a:KM)(b:List Str):HO:=.ext λ_ h=>∃ss d e t,ST.Ts w h a ss d e t/\∀y,y∈ss↔y∈b
def Inv.drew{s:IR}(I:Inv X a J H s)(d:Drawn):Inv X a J H { s with drawn:=d } :=
 ⟨I.ok,I.os,I.bare,I.base,I.loc,I.cell,I.free,I.Jm,I.pin,I.Ip,I.len⟩
def w6{X:Cx}(z:X.calm=L):dm X (.type "set") (λxs H Q=>∃p,∃a:List Str,xs=[.ref p]/\IF X.K H p (a.map V.str)/\a.length+1<scanBound/\∀l,H l=O->Q (.ref l) (upd H l (CY X.w l a))):=by
 intro f s J H xs S Q I g h;obtain⟨p,a,rfl,o,hb,q⟩:=h;obtain⟨u,rfl,j⟩:=g.one;cases j;obtain⟨m,e,pl,Z⟩:=I.list o;obtain⟨n,C⟩:=rP e;have y:m.length=a.length:=by have:=e.length;simpa using this.symm
 refine ST.AH (I.ok.hd z) pl.isList (xs:=a) (λi v d=>?_) (by simpa using y) hb λA U R P D t T r kp=>?_
 ·rw[List.getElem?_toArray]at d;obtain⟨x,t,rfl⟩:=n v (YU d);refine⟨x,t,rfl,?_⟩;rw[← C,ZP,d];rfl
 ·refine⟨.ref s.heap.objs.size,_,I.laid kp (Zp _) (show bX X.prog X.w _ A _ (CY X.w s.heap.objs.size a) from⟨⟨R,P,D,t,T,r⟩,⟨_,T.at_⟩,λh1 h2 ⟨N,M,G,F,b,E⟩ k=>⟨N,M,G,F,⟨k _ b.at_,b.tb,b.Nn,b.pm,b.nd,b.Jo⟩,E⟩⟩),rfl,q _ (I.Ip.fresh (Zp _))⟩
def md{X:Cx}(E:X.calm=L):dm X (.builtin "sorted") (λi H Q=>∃p,∃ss:List Str,i=[.ref p]/\H p=Y (CY X.w p ss) ∧
  ∀(l:KM)(e:List Str),H l=O->e.Nodup->(∀y,y∈e↔y∈ss)->e.Pairwise (λa b=>¬b.cps.toList<a.cps.toList)->Q (.ref l) (upd H l (.lst (e.map V.str)))):=by
 intro f s J H i S Q I v h;obtain⟨p,ss,rfl,A,q⟩:=h;obtain⟨u,rfl,x⟩:=v.one;cases x;obtain⟨⟨r,Z,ep,t,T,C⟩,_,_⟩:=I.Ip p _ A;refine uN λA' E' F=>ST.CA (F.trans (I.ok.hd E)) T λP d o n kp z g=>?_;have R:Inv X f J H { s with heap:=P,drawn:=d,toks:=o }:=(I.kept kp).drew d;refine Ca (s:=s) (ss:=n.map strOf) R z M ?_ λl e D j m=>q l e D (((j.trans g).nodup_iff).mpr T.nd) (λy=>((j.trans g).mem_iff).trans (C y)) m;have U:=WT T.Jo;have N:=g.length_eq;have G:=T.pm.length_eq;simp[ST.nm]at N G;lia
end
end L2
namespace VS
open PySem PySem.Spec PyProof.Rows L2
section
theorem hJ:∀(l:List Tx)(x:Tx),x∈dedup l↔x∈l
 |[],x=>by simp[dedup]
 |a :: l,x=>by
  simp only[dedup,Zj,Y4,hJ l x,ne_eq,decide_not,Bool.not_eq_eq_eq_not,Bool.not_true,decide_eq_false_iff_not];by_cases h:x=a
  ·simp[h]
  ·simp[h]
theorem jd:∀(l:List Tx),(dedup l).Nodup
 |[]=>by simp[dedup]
 |a :: l=>by
  simp only[dedup,ZY];exact⟨by simp,(jd l).filter _⟩
def ny:Uv->Uu
 |[(_,.lst l)]=>(strs? l).bind λd=>if d.length+1<4096 then Y (.fr,.lst ((cU (dedup d)).map .str)) else O
 |_=>O
def Fg:bootBuiltins ("set" : Str)=Y (.type "set"):=by decide +kernel
def Dy{a b:Tx}(h:sx a=sx b):a=b:=by
 have:=congrArg (λs:Str=>s.cps.toList) h;simpa[sx] using this
def tJ{X:Cx}(P:X.mg "sorted" = O)(QP:X.mg "set" = O)(S:Jz G X [e] cs)(R:{`q1,Gl X "sorted"})(i:{`q1,Gl X "set"})(hK:{`q1,X.K=G.K})(r:{`q1,X.calm=L})(he:{`q1,K1 e [] X})(u:{`q1,Pv [.Call (.Name "set" p2) [e] [] pos'] X.env=(B,eval (.Call (.Name "set" p2) [e] [] pos') X.env) :: Pv [] X.env}) :
  PV G X (.Call (.Name "sorted" p) [.Call (.Name "set" p2) [e] [] pos'] [] pos) (eN ny cs):=by
 refine PE.weak (rj (md r) R P pB (df (lO (w6 r) i QP Fg S (he:=he) (hpl:=rfl)) ft u) (he:=u) (hpl:=rfl)) λJ H Q ⟨Z,U,m,t,s,d,k⟩=>?_;unfold eN at d;obtain⟨l,el,d⟩:=Zz.mp d;refine⟨Z,U,l,s,el,λj f C s1 r1 f1=>?_⟩;have A:Args G Z U H f l j C:=⟨s1,r1,f1⟩
 unfold ny at d;split at d
 ·rename_i mx x;obtain⟨ss,e1,e2⟩:=Zz.mp d;split at e2
  ·rename_i hb;cases e2;obtain⟨v,F,rfl,rfl,D⟩:=(show RpL G f j [.lst x] C from A.rp).one;obtain⟨a,ys,Gs,rfl,rfl,LC,o⟩:=D.lst_inv;refine⟨a,ss.map sx,rfl,?_,by rw[Zt];exact hb,λq N=>⟨q,ss.map sx,rfl,aw,λE IQ J0 TM TR h=>?_⟩⟩
   ·rw[Yp,hK];have:=mF o e1;rw[show (V.str ∘ sx)=λs=>V.str (sx s) from rfl,← this];exact IF.of LC
   ·have n:aM f (upd f q (CY X.w q (ss.map sx))):=bh N;refine rL (G:=G) (Z:=Z) (U:=U) (H0:=H) (ss:=dedup ss) (λv H' F e2 r2 f2=>k v H' F ((A.same.trans n).trans e2) r2 f2) (A.same.trans n) (λs M=>vn o e1 s ((hJ ss s).mp M)) E IQ J0 ?_ h;have Qt:((dedup ss).map sx).Nodup:=(jd ss).map _ λa b Pm e=>Pm (Dy e);refine(List.perm_ext_iff_of_nodup TM Qt).mpr λy=>?_;rw[TR y,JD,JD];exact⟨λ⟨z,g,e⟩=>⟨z,(hJ ss z).mpr g,e⟩,λ⟨z,g,e⟩=>⟨z,(hJ ss z).mp g,e⟩⟩
  ·cases e2
 ·cases d
end
inductive JS(G:Gx)(H:Hp):List Ky->V->V->Prop
 |nil (v:V):JS G H [] v v
 |fld {c k:Nat} {a dx:KM} {fs:List (Str×V)} {u w:V} {ks:List Ky}:H a=some (.ins (G.ct (c+1)).1 dx fs)->fs.lookup ((G.ct (c+1)).2 k)=some u->JS G H ks u w->JS G H (.fld k :: ks) (.ref a) w
 |ix {a:KM} {vs:List V} {i:Int} {j:Nat} {u w:V} {ks:List Ky}:H a=some (.lst vs)->Jx vs.length i=some j->vs[j]?=some u->JS G H ks u w->JS G H (.at (.int i) :: ks) (.ref a) w
 |key {a:KM} {gV:List (Key×V)} {k:Key} {u w:V} {ks:List Ky}:H a=some (.dK gV)->fZ gV k=some u->JS G H ks u w->JS G H (.at (aS k) :: ks) (.ref a) w
 |un {v w:V} {ks:List Ky}:JS G H ks v w->JS G H (.un :: ks) v w
section
def qO{f:Xz}{i j:Nat}{F h:Wp}(d:f.flatten.Nodup)(b:f[i]?=Y F)(e:f[j]?=Y h)(n:i≠j){a:KM}(g:a∈F):a∉h:=by
 intro hb
 induction f generalizing i j with
 |nil=>simp at b
 |cons G Gs l =>
  rw[ZI,ZG]at d;cases i with
  |zero =>
   simp at b;subst b;cases j with
   |zero=>exact n M
   |succ j=>exact d.2.2 a g a (cW (by simpa using e) hb) M
  |succ i =>
   cases j with
   |zero =>
    simp at e;subst e;exact d.2.2 a hb a (cW (by simpa using b) g) M
   |succ j=>exact l d.2.1 (by simpa using b) (by simpa using e) `am
def cG{d:Xz}(h:a∈(d.set j g).flatten):a∈g\/∃i F,i≠j/\d[i]?=Y F/\a∈F:=by
 obtain⟨i,F,b,f⟩:=fY h;by_cases e:i=j
 ·subst e;rw[List.getElem?_set_self' ]at b;cases q:d[i]? with
  |none=>rw[q]at b;cases b
  |some _=>rw[q]at b;cases b;exact .inl f
 ·rw[YT (YH e)]at b;exact .inr ⟨i,F,e,b,f⟩
theorem dW:∀{p:Xz}{j:Nat}{f:Wp},p.flatten.Nodup->f.Nodup->(∀i F,i≠j->p[i]?=Y F->∀a∈F,a∉f)->(p.set j f).flatten.Nodup
 |[],_,_,h,_,_=>by simpa using h
 |G :: Gs,0,f,h,o,d=>by
  rw[ZI,ZG]at h;rw[List.set_cons_zero,ZI,ZG];refine⟨o,h.2.1,λa g b hb e=>?_⟩;subst e;obtain⟨i,F,m,l⟩:=fY hb;exact d (i+1) F `am (by simpa using m) a l g
 |G :: Gs,j+1,f,h,o,d=>by
  rw[ZI,ZG]at h;rw[List.set_cons_succ,ZI,ZG];refine⟨h.1,dW h.2.1 o λi F n q=>d (i+1) F `am (by simpa using q),λa g b hb e=>?_⟩;subst e;rcases cG hb with z | ⟨i,F,n,m,l⟩
  ·exact d 0 G `am M a g z
  ·exact h.2.2 a g a (cW m l) M
def RpL.each:∀{f:List V}{e:Ut}{g:Xz},RpL G H f e g->(∀(i:Nat) v t F,f[i]?=Y v->e[i]?=Y t->g[i]?=Y F->Rp G H v t F->Rp G h v t F)->RpL G h f e g:=by
 intro f e
 induction e generalizing f with
 |nil=>intro g r k;cases r;exact .nil
 |cons t e j =>
  intro g r k;cases r with
  |cons r q=>exact .cons (k 0 _ _ _ M M M r) (j q λi v t F a b c d=>k (i+1) v t F a b c d)
theorem RpL.setAt:∀{e:List V}{f:Ut}{m:Xz}{j:Nat}{u:V}{o:T}{p:Wp},RpL G H e f m->e[j]?=Y u->Rp G l u o p->(∀(i:Nat) v t F,i≠j->e[i]?=Y v->f[i]?=Y t->m[i]?=Y F->Rp G H v t F->Rp G l v t F)->RpL G l e (f.set j o) (m.set j p)
 |_,_,_,_,_,_,_,.nil,h,_,_=>by simp at h
 |_,_,_,0,_,_,_,.cons r q,h,g,k=>by
  simp at h;subst h;exact .cons g (RpL.each q λi v t F a b c d=>k (i+1) v t F `am (by simpa using a) (by simpa using b) (by simpa using c) d)
 |_,_,_,j+1,_,_,_,.cons r q,h,g,k=>.cons (k 0 _ _ _ `am M M M r) (RpL.setAt q (by simpa using h) g λi v t F n a b c d=>k (i+1) v t F `am (by simpa using a) (by simpa using b) (by simpa using c) d)
def pV(P:H a=Y o)(M:RpL G H s J d)(e:(a :: d.flatten).Nodup)(Q:s[j]?=Y u)(A:d[j]?=Y D)(g:Chg G H u D E q f):q a=Y o/\RpL G q s (J.set j E) (d.set j f)/\(a :: (d.set j f).flatten).Nodup/\(∀b∈a :: (d.set j f).flatten,b∈a :: d.flatten\/H b=O)/\∀b o,b∉a :: d.flatten->H b=Y o->q b=Y o:=by
 rw[ZY]at e;have p:∀b∈D,b∈d.flatten:=λb hb=>cW A hb;have C:∀i F,i≠j->d[i]?=Y F->∀b∈F,b∉f:=λi F n N b hb y=>by
  rcases g.sub b y with z | z
  ·exact qO e.2 N A n hb z
  ·exact Iy.oe (M.IH b (cW N hb)) z
 refine⟨g.keep a o (λz=>e.1 (p a z)) P,M.setAt Q g.rp (λi v t F n m l R r=>r.keep g.kept λb hb w x=>g.keep b w (qO e.2 R A n hb) x),?_,λb hb=>?_,λb w hb x=>g.keep b w (λz=>hb (Zv _ (p b z))) x⟩
 ·rw[ZY];refine⟨λh=>?_,dW e.2 g.nd C⟩;rcases cG h with z | ⟨i,F,n,m,l⟩
  ·rcases g.sub a z with z | z
   ·exact e.1 (p a z)
   ·rw[P]at z;cases z
  ·exact e.1 (cW m l)
 ·rcases Zj.mp hb with rfl | hb
  ·exact .inl Zx
  ·rcases cG hb with z | ⟨i,F,n,m,l⟩
   ·rcases g.sub b z with z | z
    ·exact .inl (Zv _ (p b z))
    ·exact .inr z
   ·exact .inl (Zv _ (cW m l))
theorem qD{α β:Type}:∀(d:List α)(bs:List β)(i:Nat)(a:α)(y:β),d[i]?=Y a->(d.zip bs).set i (a,y)=d.zip (bs.set i y)
 |[],_,_,_,_,h=>by simp at h
 |a :: d,[],i,_,_,_=>by cases i<;>simp
 |a :: d,b :: bs,0,_,y,h=>by simp at h;subst h;rfl
 |a :: d,b :: bs,i+1,_,y,h=>by
  have:=qD d bs i _ y (by simpa using h);simp[this]
theorem kS{α β:Type}(p:α->Bool):∀{e:List α}{bs:List β}{i:Nat},e.length=bs.length->(e.zip bs).findIdx? (λq=>p q.1)=Y i->∃a b,e[i]?=Y a/\bs[i]?=Y b/\p a=L/\(e.zip bs).find? (λq=>p q.1)=Y (a,b)
 |[],[],_,_,h=>by simp at h
 |a :: e,b :: bs,i,f,h=>by
  rw[ZF,VM]at h;by_cases d:p a=L
  ·rw[Zo d]at h;cases h;exact⟨a,b,rfl,rfl,d,by simp[d]⟩
  ·rw[Zl d]at h;obtain⟨j,g,rfl⟩:=Zy.mp h;obtain⟨s,r,o,n,m,l⟩:=kS p (by simpa using f) g;exact⟨s,r,by simpa using o,by simpa using n,m,by simp[d,l]⟩
def ko(k a:Key):eqT (aS a) (aS k)=L↔a=k:=by
 cases k with
 |inl i=>cases a<;>simp[aS]
 |inr x =>
  obtain⟨⟨x⟩⟩:=x;cases a with
  |inl j=>simp[aS]
  |inr y=>obtain⟨⟨y⟩⟩:=y;simp[aS]
theorem vq:∀{ns:List Key}{d:Ut}{a:List V}{i:Nat},ns.length=d.length->ns.length=a.length->((ns.map aS).zip d).findIdx? (λq=>eqT q.1 (aS k))=Y i->a[i]?=Y u->fZ (ns.zip a) k=Y u
 |[],_,_,_,_,_,h,_=>by simp at h
 |n :: ns,t :: d,v :: a,i,m,l,h,e=>by
  rw[Zc,ZF,VM]at h;by_cases b:eqT (aS n) (aS k)=L
  ·rw[Zo b]at h;cases h;simp at e;subst e;exact iV ((ko k n).mp b)
  ·rw[Zl b]at h;obtain⟨j,g,rfl⟩:=Zy.mp h;have f:n≠k:=λz=>b ((ko k n).mpr z);have:fZ ((n :: ns).zip (v :: a)) k=fZ (ns.zip a) k:=by simp[fZ,f]
   rw[this];exact vq (by simpa using m) (by simpa using l) g (by simpa using e)
 |_ :: _,[],_,_,h,_,_,_=>by simp at h
 |_ :: _,_ :: _,[],_,_,h,_,_=>by simp at h
def gC(r:Rp G H v (.obj (c+1) (e :: g)) F):∃(i:Nat)(a p:KM)(b:Bool)(f:Vu)(d:List V)(j:Ut)(o:Xz),c+1=i+1/\v=.ref a/\e=(0,.bl b)/\g=f.zip j/\F=a :: o.flatten ∧
  H a=Y (.ins (G.ct (i+1)).1 p ((f.map (G.ct (i+1)).2).zip d))/\f.length=d.length/\(b=L->G.me 0=Y (.ref a))/\RpL G H d j o:=by
 generalize n:T.obj (c+1) (e :: g)=z at r;cases r with
 |ins h l m q =>
  cases n;exact⟨_,_,_,_,_,_,_,_,rfl,rfl,rfl,rfl,rfl,h,l,m,q⟩
 |_=>cases n
def mY(r:Rp G H v (.obj 0 [(0,.bl L),(m,t)]) F):∃a,v=.ref a/\G.me m=Y (.ref a)/\Rp G H (.ref a) t F:=by
 generalize b:T.obj 0 [(0,.bl L),(m,t)]=z at r;cases r with
 |mk h q =>
  cases b;exact⟨_,rfl,h,q⟩
 |_=>cases b
def sE{G:Gx}{c a:Nat}(h:∀c k m:Nat,(G.ct c).2 k=(G.ct c).2 m->k=m){e:Vu}{d:List V}{f:Ut}{u:V}{i:Nat}(n:e.length=d.length)(b:(e.zip f).findIdx? (λq=>q.1==a)=Y i)(o:e[i]?=Y a)(g:d[i]?=Y u):((e.map (G.ct c).2).zip d).lookup ((G.ct c).2 a)=Y u:=by
 induction e generalizing d f i with
 |nil=>simp at o
 |cons l v p =>
  cases d with
  |nil=>simp at n
  |cons t bs =>
   cases f with
   |nil=>simp at b
   |cons s f =>
    rw[Zc,ZF,YO];rw[ZF,VM]at b;by_cases q:(l==a)=L
    ·rw[Zo q]at b;cases b;have:l=a:=by simpa using q
     subst this;simp at g;simp[g]
    ·rw[Zl q]at b;obtain⟨j,r,rfl⟩:=Zy.mp b;have:((G.ct c).2 a==(G.ct c).2 l)=B:=by
      rw[KS];intro z;exact q (by simpa using(h c _ _ z).symm)
     rw[this];exact p (by simpa using n) r (by simpa using o) (by simpa using g)
def G6{α:Type}{f:T->Option (T×α)}{y:α}(e:pm f (.un :: d) t=Y (a,y)):∃m x z,t=.obj 0 [(0,.bl L),(m,x)]/\pm f d x=Y (z,y)/\a=.obj 0 [(0,.bl L),(m,z)]:=by
 cases t with
 |obj c fs =>
  cases c with
  |succ c=>cases e
  |zero =>
   cases fs with
   |nil=>cases e
   |cons q fs =>
    obtain⟨n,v⟩:=q;cases n with
    |succ n=>cases e
    |zero =>
     cases v with
     |bl b =>
      cases b with
      |false=>cases e
      |true =>
       cases fs with
       |nil=>cases e
       |cons g fs =>
        obtain⟨m,x⟩:=g;cases fs with
        |cons _ _=>cases e
        |nil =>
         obtain⟨⟨z,h⟩,e1,e2⟩:=Zy.mp e;cases e2;exact⟨_,_,_,rfl,e1,rfl⟩
     |_=>cases e
 |_=>cases e
def nF{G:Gx}{α:Type}{f:T->Option (T×α)}:∀(ks:List Ky){v:V}{t t':T}{F:Wp}{y:α},(∀c k k':Nat,(G.ct c).2 k=(G.ct c).2 k'->k=k')->Rp G H v t F->F.Nodup->pm f ks t=Y (t',y) →
  ∃w x A C,JS G H ks v w/\Rp G H w x A/\A.Nodup/\f x=Y (C,y)/\∀q o,Chg G H w A C q o->∃F',Chg G H v F t' q F':=by
 intro ks
 induction ks with
 |nil=>intro v t t' F y _ r nd e;exact⟨v,t,F,t',.nil v,r,nd,e,λq o g=>⟨o,g⟩⟩
 |cons ky ks ih =>
 intro v t t' F y inj r nd e;cases ky with
 |fld k =>
  cases t with
  |obj c fs0 =>
   cases c with
   |zero=>cases e
   |succ c =>
   cases fs0 with
   |nil=>cases e
   |cons q0 fs =>
   obtain⟨i,h1,e⟩:=Zz.mp e;obtain⟨p,h2,e⟩:=Zz.mp e;obtain⟨⟨z,y'⟩,e1,e2⟩:=Zy.mp e;cases e2;obtain⟨c',a,dx,b,ns,vs,X,Fs,ec,rfl,rfl,rfl,rfl,N,Z,hb,d⟩:=gC r;cases ec;have MO:ns.length=X.length:=Z.trans d.len.1;obtain⟨M,D,g1,g2,g3,g4⟩:=kS (λn=>n==k) MO h1;have ek:M=k:=by simpa using g3
   subst ek;have ep:p=(M,D):=by
    have:(ns.zip X)[i]?=Y (M,D):=by rw[Xi];exact⟨g1,g2⟩
    rw[this]at h2;exact(Zh h2).symm
   subst ep;obtain⟨u,Fi,J,E,u3⟩:=d.get i g2;obtain⟨w,x,A,C,U,S,R,Q,P⟩:=ih inj u3 (((ZY.mp nd).2).sublist (cn E)) e1;refine⟨w,x,A,C,.fld (c:=c) N (sE inj Z h1 g1 J) U,S,R,Q,λq o g=>?_⟩;obtain⟨Fi',h⟩:=P q o g;obtain⟨s1,s2,s3,s4,s5⟩:=pV N d nd J E h;refine⟨_,h.kept,s5,h.IH,?_,s3,s4⟩;rw[qD ns X i M z g1];exact .ins s1 Z hb s2
  |_=>cases e
 |un =>
  obtain⟨m,x,z,rfl,e1,rfl⟩:=G6 e;obtain⟨a,rfl,hm,rx⟩:=mY r;obtain⟨w,D,A,C,U,S,R,Q,P⟩:=ih inj rx nd e1;refine⟨w,D,A,C,.un U,S,R,Q,λq o g=>?_⟩;obtain⟨F',g'⟩:=P q o g;exact⟨F',g'.kept,g'.keep,g'.IH,.mk hm g'.rp,g'.nd,g'.sub⟩
 | «at» k =>
  cases t with
  |lst l =>
   cases k with
   |int i =>
    obtain⟨j,h1,e⟩:=Zz.mp e;obtain⟨D,h2,e⟩:=Zz.mp e;obtain⟨⟨z,y'⟩,e1,e2⟩:=Zy.mp e;cases e2;obtain⟨a,vs,Fs,rfl,rfl,N,d⟩:=r.lst_inv;obtain⟨u,Fi,J,E,u3⟩:=d.get j h2;obtain⟨w,x,A,C,U,S,R,Q,P⟩:=ih inj u3 (((ZY.mp nd).2).sublist (cn E)) e1;refine⟨w,x,A,C,.ix N (by rw[d.len.1];exact h1) J U,S,R,Q,λq o g=>?_⟩;obtain⟨Fi',h⟩:=P q o g;obtain⟨s1,s2,s3,s4,s5⟩:=pV N d nd J E h;exact⟨_,h.kept,s5,h.IH,.lst s1 s2,s3,s4⟩
   |_=>cases e
  |dct kd l =>
   cases kd with
   |zero =>
    have hk:iM k=L/\((l.findIdx? λp=>eqT p.1 k).bind λi=>(l[i]?).bind λp=>(pm f ks p.2).map λz=>(T.dct 0 (l.set i (p.1,z.1)),z.2))=Y (t',y):=by
     cases k with
     |int i=>exact⟨rfl,e⟩
     |str s=>exact⟨rfl,e⟩
     |_=>cases e
    obtain⟨hk,e⟩:=hk;obtain⟨i,h1,e⟩:=Zz.mp e;obtain⟨p,h2,e⟩:=Zz.mp e;obtain⟨⟨z,y'⟩,e1,e2⟩:=Zy.mp e;cases e2;obtain⟨a,ns,vs,X,Fs,rfl,rfl,N,Z,rfl,d⟩:=eR r;have MO:(ns.map aS).length=X.length:=by rw[Zt];exact Z.trans d.len.1
    obtain⟨M,D,g1,g2,g3,g4⟩:=kS (λn=>eqT n k) MO h1;have ep:p=(M,D):=by
     have:((ns.map aS).zip X)[i]?=Y (M,D):=by rw[Xi];exact⟨g1,g2⟩
     rw[this]at h2;exact(Zh h2).symm
    subst ep;obtain⟨kk,NN⟩:∃kk:Key,k=aS kk:=by
     cases k with
     |int i=>exact⟨.inl i,rfl⟩
     |str s=>exact⟨.inr (sx s),by simp[aS,sx]⟩
     |_=>cases hk
    subst NN;obtain⟨u,Fi,J,E,u3⟩:=d.get i g2;obtain⟨w,x,A,C,U,S,R,Q,P⟩:=ih inj u3 (((ZY.mp nd).2).sublist (cn E)) e1;refine⟨w,x,A,C,.key N ?_ U,S,R,Q,λq o g=>?_⟩
    ·exact vq (by simpa using MO) Z h1 J
    ·obtain⟨Fi',h⟩:=P q o g;obtain⟨s1,s2,s3,s4,s5⟩:=pV N d nd J E h;refine⟨_,h.kept,s5,h.IH,?_,s3,s4⟩;rw[qD (ns.map aS) X i M z g1];exact .dct s1 Z s2
   |succ kd=>cases e
  |_=>cases e
end
section
def JS.same(e:aM H d)(p:JS G H b v w):JS G d b v w:=by
 induction p with
 |nil v=>exact .nil v
 |fld h l _ a=>exact .fld (e _ _ h) l a
 |ix h l m _ a=>exact .ix (e _ _ h) l m a
 |key h l _ a=>exact .key (e _ _ h) l a
 |un _ a=>exact .un a
theorem JS.split:∀{ks:List Ky}{v:V},JS G H (ks++[k]) v w->∃u,JS G H ks v u/\JS G H [k] u w
 |[],v,p=>⟨v,.nil v,p⟩
 |_ :: ks,_,.fld h l p=>let ⟨u,a,b⟩:=JS.split (ks:=ks) p;⟨u,.fld h l a,b⟩
 |_ :: ks,_,.ix h l m p=>let ⟨u,a,b⟩:=JS.split (ks:=ks) p;⟨u,.ix h l m a,b⟩
 |_ :: ks,_,.key h l p=>let ⟨u,a,b⟩:=JS.split (ks:=ks) p;⟨u,.key h l a,b⟩
 |_ :: ks,_,.un p=>let ⟨u,a,b⟩:=JS.split (ks:=ks) p;⟨u,.un a,b⟩
theorem fH:∀{way:List Ll}{f:List Ky},keys (way++[s]) U=Y f->∃g k,keys way U=Y g/\keys [s] U=Y [k]/\f=g++[k]
 |[],f,e=>by
  cases s with
  |fld k=>cases e;exact⟨[],.fld k,rfl,rfl,rfl⟩
  |un=>cases e;exact⟨[],.un,rfl,rfl,rfl⟩
  |ix c =>
   obtain⟨x,j,i⟩:=Zz.mp (show (c U).bind (λx=>(keys [] U).map (Ky.at x.2 :: ·))=Y f from e);cases i;exact⟨[],.at x.2,rfl,by show ((_:Option _).bind _)=_;rw[j];rfl,rfl⟩
 |.fld k :: way,f,e=>by
  obtain⟨l,j,i⟩:=Zy.mp (show (keys (way++[s]) U).map (Ky.fld k :: ·)=Y f from e);obtain⟨g,m,a,b,c⟩:=fH j;exact⟨.fld k :: g,m,by show ((keys _ _).map _)=_;rw[a];rfl,b,by rw[← i,c];rfl⟩
 |.un :: way,f,e=>by
  obtain⟨l,j,i⟩:=Zy.mp (show (keys (way++[s]) U).map (Ky.un :: ·)=Y f from e);obtain⟨g,m,a,b,c⟩:=fH j;exact⟨.un :: g,m,by show ((keys _ _).map _)=_;rw[a];rfl,b,by rw[← i,c];rfl⟩
 |.ix c :: way,f,e=>by
  obtain⟨x,n,h⟩:=Zz.mp (show (c U).bind (λx=>(keys (way++[s]) U).map (Ky.at x.2 :: ·))=Y f from e);obtain⟨l,j,i⟩:=Zy.mp h;obtain⟨g,m,a,b,d⟩:=fH j;exact⟨.at x.2 :: g,m,by show ((_:Option _).bind _)=_;rw[n];show ((keys _ _).map _)=_;rw[a];rfl,b,by rw[← i,d];rfl⟩
def RS(G:Gx)(i:Nat)(a:List Ll):TE:=λJ H Q=>∃Z U t b v w,SR G Z U J H/\U[i]?=Y (Y (.ow t))/\J[i]?=Y (Y v)/\keys a U=Y b/\JS G H b v w/\∀d,aM H d->Q w d
def LJ(G:Gx)(X:Cx)(e:Expr)(i:Nat)(a:List Ll):Prop:=PE X e (RS G i a)
def PE.LL(h:PE X e t)(w:∀J H Q,RS G i a J H Q->t J H Q):LJ G X e i a:=λb s J H Q I q=>h b s J H Q I (w J H Q q)
def cj{X:Cx}(i:Nat)(j:{`q7,X.N[i]?=Y x})(f:Kf X.env.scope x:=by exact .inl M)(h:{`q7,K3 x})(a:{`q7,K4 x}):LJ G X (.Name x pos) i [] :=
 PE.LL (d8 j f h a) λJ H Q g=>by
  obtain⟨Z,U,t,d,v,w,s,p,o,n,m,l⟩:=g;cases (show Y ([]:List Ky)=Y d from n);cases m;exact⟨v,o,l H (aM.refl _)⟩
def GJ(h:LJ G X e i way):LJ G X e i (way++[.un]) :=
 PE.LL h λJ H Q g=>by
  obtain⟨Z,U,t,r,v,w,s,o,n,m,l,j⟩:=g;obtain⟨p,f,a,b,rfl⟩:=fH m;cases (show Y [Ky.un]=Y [f] from b);obtain⟨u,p1,d⟩:=l.split;cases d with
  |un q =>
   cases q;exact⟨Z,U,t,p,v,w,s,o,n,a,p1,j⟩
structure Kb(G:Gx)(K:X0)(k:Nat)(f:Str):Prop where
 nm:∀c,(G.ct (c+1)).2 k=f
 cl:∀c,Kh K (G.ct (c+1)).1
 no:∀c,cZ K (G.ct (c+1)).1 f
def ke{X:Cx}(k:Nat)(F:Kb G X.K k f)(h:LJ G X e i way)(n:{`q7,XAC e f X.env (eval e X.env)=eval e X.env}):LJ G X (.Attribute e f pos) i (way++[.fld k]) :=
 PE.LL (zO h n) λJ H Q m=>by
  obtain⟨Z,U,t,M,v,w,s,z,y,x,r,p⟩:=m;obtain⟨C,l,a,b,rfl⟩:=fH x;cases (show Y [Ky.fld k]=Y [l] from b);obtain⟨u,p1,j⟩:=r.split;refine⟨Z,U,t,C,v,u,s,z,y,a,p1,λD d=>?_⟩;cases j with
  |@fld c _ a A fs E _ _ o g q =>
   cases q;rw[F.nm c]at g;exact⟨a,_,A,fs,w,rfl,d a _ o,F.cl c,F.no c,g,p D d⟩
def Dw{X:Cx}(hr:Im F X.A)(h:LJ G X e i way)(hb:PV G X b c)(S:gz b)(hK:X.K=G.K):LJ G X (.Subscript e b pos) i (way++[.ix c]) :=
 PE.LL (n9 (JX.or jP (p8 (kM hr))) h hb S) λJ H Q hq=>by
  obtain⟨Z,U,t,ks,v,w,s,h1,h2,h3,h4,h5⟩:=hq;obtain⟨LQ,M,a,b',rfl⟩:=fH h3;obtain⟨⟨E,x⟩,ec,e2⟩:=Zz.mp (show (c U).bind (λx=>(keys [] U).map (Ky.at x.2 :: ·))=Y [M] from b');cases e2;obtain⟨u,p1,D⟩:=h4.split;refine⟨Z,U,t,LQ,v,u,s,h1,h2,a,p1,λH1 d=>⟨Z,U,E,x,s.same d,ec,λy H2 F2 o r2 f2=>?_⟩⟩;have C:=(D.same d).same o;have q:=h5 H2 (d.trans o);cases C with
  |@ix a p N j r _ _ l g R f =>
   cases f;refine .inl (.inl ⟨a,p,N,w,rfl,r2.int_inv,IF.of l,jY g R,q⟩)
  |@key a gV m r _ _ l g f =>
   cases f;refine .inr ⟨a,w,rfl,?_,q⟩;have P:y=kV m:=by
    cases m with
    |inl n=>exact r2.int_inv
    |inr z =>
     have:=r2.str_inv.1;rw[this];simp[kV,sx]
   rw[P,← g];exact gR.k l
@[simp] def lT(i:Nat)(a:List Ll)(f:T->Uv->Option (T×Val))(h:IZ)(U:VS.Env):Option (Val×VS.Env):=match U[i]? with
 |some (some (.ow t))=>(keys a U).bind λg=>(h U).bind λd=>(pm (λx=>f x d) g t).map λz=>(z.2,U.set i (Y (.ow z.1)))
 |_=>O
noncomputable def lh(G:Gx):Prop:=∀c k a:Nat,(G.ct c).2 k=(G.ct c).2 a->k=a
def zh{pos apos:Pos}(Jq:lh G)(pa:PlainAttrs p)(d:Slot p a m)(OJ:typeOf (.builtin m)=pure (.type "method_descriptor"))(hm:O9 X m r)(ok:vU G r f)(hT:∀H v t F l z,Rp G H v t F->f t l=Y z->Nu G.K p v H)(ho:LJ G X o i way)(ha:Jz G X (e :: es) cs)(hK:X.K=G.K)(IA:XAC o a X.env (eval o X.env)=eval o X.env)(IK:((backTo jj (Pv (e :: es) X.env)).all (λx=>!x.1)&&(backToKw jj (SZ [] X.env)).all (λx=>x.1.isSome)
   && decide ((e :: es).length+([]:List Keyword).length+(if ([]:List Keyword).isEmpty then 0 else 1)<30))=L)(Iv:(apos.endLine==jj.line)=L)(hs:K1 e es X)(Iu:K2 jj es X)(Kk:swapsWith (.Call (.Attribute o a apos) (e :: es) [] jj) O pos.line X.env=pure B) :
  PSV G X (.Expr (.Call (.Attribute o a apos) (e :: es) [] jj) pos) (sX (lT i way f cs)) :=
 PS.weak (ku (o6 pa d OJ hm ho ha IA IK Iv hs Iu) Kk) λD J H hq=>by
  obtain⟨Z,U,out,s,e,k⟩:=hq;refine L2.jG λP_ k_=>?_;unfold sX lT at e;obtain⟨⟨x',U'⟩,e1,e2⟩:=Zy.mp e;split at e1
  ·rename_i t h;obtain⟨E,ek,e3⟩:=Zz.mp e1;obtain⟨l,el,e4⟩:=Zz.mp e3;obtain⟨⟨t',x2⟩,e5,e6⟩:=Zy.mp e4;cases e6;cases e2;obtain⟨v,M,h2⟩:=s.rp _ _ h;obtain⟨w,x,F1,R,w1,A,w3,y,S⟩:=nF E Jq h2 (s.nd i t h) e5;refine k_ ?_;refine⟨Z,U,t,E,v,w,s,h,M,ek,w1,λH0 j=>⟨by rw[hK];exact hT H0 w x _ l _ (A.same j) y,Z,U,l,s.same j,el,λvs H' Fs q1 q2 C=>?_⟩⟩;refine ok Z U H H' w x R F1 l vs Fs x2 _ A w3 ⟨j.trans q1,q2,⟨λn v' q a1 a2=>(C.each n v' q a1 a2).back j,C.nd⟩⟩ y λu N q g=>?_;obtain⟨F2,g2⟩:=S N q g;obtain⟨Q,P⟩:=s.mut h M g2;exact k _ J N Q P
  ·cases e1
end
section
def qY(k v:Val):T->Option (T×Unit)
 |.lst l=>match k.2 with
  |.int n=>(fit v).bind λt=>(Jx l.length n).map λj=>(.lst (l.set j t),())
  |_=>O
 |.dct 0 l=>if iM k.2/\Ir v.2/\l.length<dZ then Y (.dct 0 (dput l k.2 v.2),()) else O
 |_=>O
def fM(i:Nat)(a:List Ll)(k e:Ex)(U:VS.Env):Option Out:=(e U).bind λv=>match U[i]? with
 |some (some (.ow t))=>(keys a U).bind λf=>(k U).bind λd=>(pm (qY d v) f t).map λz=>.nx (U.set i (Y (.ow z.1)))
 |_=>O
theorem RpL.putAt:∀{d:List V}{f:Ut}{g:Xz}(j:Nat){u:V}{x:T}{F:Wp},RpL G H d f g->Rp G H u x F->RpL G H (d.set j u) (f.set j x) (g.set j F)
 |_,_,_,_,_,_,_,.nil,_=>.nil
 |_,_,_,0,_,_,_,.cons r q,a=>.cons a q
 |_,_,_,j+1,_,_,_,.cons r q,a=>.cons r (RpL.putAt j q a)
theorem vA{kk:Key}(n:Rp G H l t []):∀{a:List Key}{h:List V}{ts:Ut}{Fs:Xz},a.length=h.length->RpL G H h ts Fs →
  ∃d f g,(a.zip h).map (λm=>if m.1=kk then (m.1,l) else m)=a.zip d/\a.length=d.length/\((a.map aS).zip ts).map (λp=>if eqT p.1 (aS kk) then (p.1,t) else p)=(a.map aS).zip f/\RpL G H d f g/\g.flatten.Sublist Fs.flatten
 |[],[],_,_,_,.nil=>⟨[],[],[],rfl,rfl,rfl,.nil,Wc _⟩
 |k :: a,v :: h,_,_,C,.cons (t:=A) (F:=F) (ts:=ts) (Fs:=Fs) r q=>by
  obtain⟨d,f,g,y,x,w,u,s⟩:=vA n (by simpa using C) q;by_cases j:k=kk
  ·have e:eqT (aS k) (aS kk)=L:=(ko kk k).mpr j;refine⟨l :: d,t :: f,[] :: g,?_,by simp[x],?_,.cons n u,?_⟩
   ·rw[ZF,Zc,y,ZF];simp[j]
   ·rw[Zc,ZF,Zc,w,ZF];simp[e]
   ·rw[ZI,ZI];exact s.trans (Xj _ _)
  ·have e:¬eqT (aS k) (aS kk)=L:=λz=>j ((ko kk k).mp z);refine⟨v :: d,A :: f,F :: g,?_,by simp[x],?_,.cons r u,?_⟩
   ·rw[ZF,Zc,y,ZF];simp[j]
   ·rw[Zc,ZF,Zc,w,ZF];simp[e]
   ·rw[ZI,ZI];exact List.Sublist.append (Wc _) s
theorem rn{kk:Key}:∀{a:List Key}{d:List V}{f:Ut},a.length=d.length->a.length=f.length->((a.zip d).any λg=>decide (g.1=kk))=(((a.map aS).zip f).any λp=>eqT p.1 (aS kk))
 |[],_,_,_,_=>by simp
 |k :: a,v :: d,t :: f,l,j=>by
  rw[Zc,ZF,ZF,Xy,Xy,rn (by simpa using l) (by simpa using j)];have:decide (k=kk)=eqT (aS k) (aS kk):=by rw[YF,decide_eq_true_eq];exact(ko kk k).symm
  rw[this]
 |_ :: _,[],_,h,_=>by simp at h
 |_ :: _,_ :: _,[],_,h=>by simp at h
def qH{kk:Key}(u:Rp G H q t []){a:List Key}{g:List V}(d:a.length=g.length)(l:RpL G H g j s) :
  ∃(r:List Key)(f:List V)(m:Ut)(n:Xz),putK (a.zip g) kk q=r.zip f/\r.length=f.length/\dput ((a.map aS).zip j) (aS kk) t=(r.map aS).zip m/\RpL G H f m n/\n.flatten.Sublist s.flatten:=by
 have an:=rn (kk:=kk) d (d.trans l.len.1);unfold putK dput;rw[an];by_cases h:(((a.map aS).zip j).any λp=>eqT p.1 (aS kk))=L
 ·rw[Zo h,Zo h];obtain⟨f,m,n,z,y,x,w,v⟩:=vA (kk:=kk) u d l;exact⟨a,f,m,n,z,y,x,w,v⟩
 ·rw[Zl h,Zl h];refine⟨a++[kk],g++[q],j++[t],s++[[]],?_,by simp[d],?_,l.append (.cons u .nil),by simp⟩
  ·rw[List.zip_append d];rfl
  ·rw[Yu,List.zip_append (by rw[Zt];exact d.trans l.len.1)];rfl
def Dc:Be:=λo i v H Q=>De o i v H Q\/∃a d,o=.ref a/\uK H a i v d/\Q d
def yI{X:Cx}(m:X.A.units+1<cLine):D7 X Dc:=by
 intro d s J H o i v ov iv u Q I j l f h;rcases h with h | ⟨a,p,rfl,g,q⟩
 ·exact set_list d s J H o i v ov iv u Q I j l f h
 ·cases j;exact xF m I g l f λr n=>⟨p,n,q⟩
def kB{X:Cx}{pos:Pos}(Jq:lh G)(hr:Im kr X.A)(ho:LJ G X o i way)(hk:PV G X b ck)(he:PV G X e ce)(ha:∀v,assign (.Subscript o b pos') X.env v=(do
   let ov ← holding [v] (eval o X.env)
   let iv ← holding [v,ov] (eval b X.env)
   standAt pos'
   holding [v,ov,iv] (setItem ov iv v)
   release [v,ov,iv] []):=by exact λ_=>rfl)(hs:{`q7,swapsWithSole [.Subscript o b pos'] e pos.line X.env=pure B})(hw:{`q7,swappedStores [.Subscript o b pos'] e X.env=pure O})(P:{`q7,(assignEach [.Subscript o b pos'] X.env).map (·.2)=[assign (.Subscript o b pos') X.env]}):PSV G X (.Assign [.Subscript o b pos'] e pos) (fM i way ck ce) :=
 PS.weak (uM he (uS ho hk (yI (kM hr)) ha) hs hw P) λD J H hq=>by
  obtain⟨Z,U,out,s,e,k⟩:=hq;refine L2.jG λP_ k_=>?_;unfold fM at e;obtain⟨⟨mv,m⟩,ev,e⟩:=Zz.mp e;split at e
  ·rename_i t ht;obtain⟨ks,ek,e⟩:=Zz.mp e;obtain⟨⟨mk,q⟩,NN,e⟩:=Zz.mp e;obtain⟨⟨t',y'⟩,e5,e6⟩:=Zy.mp e;cases e6;obtain⟨v,g1,g2⟩:=s.rp _ _ ht;obtain⟨w,x,F1,x3,w1,w2,w3,N,w5⟩:=nF ks Jq g2 (s.nd i t ht) e5;refine k_ ?_;refine⟨Z,U,mv,m,s,ev,λxv H1 Fv JV rv fv=>?_⟩;refine⟨Z,U,t,ks,v,w,s.same JV,ht,g1,ek,w1.same JV,λH2 JN=>⟨Z,U,mk,q,(s.same JV).same JN,NN,λkv f Fk K7 rk fk=>?_⟩⟩;have y:aM H f:=(JV.trans JN).trans K7;have Na:Rp G f xv m Fv:=(rv.same JN).same K7;have fin:∀S M,Chg G H w F1 x3 S M->D.nx J S:=λS M g=>by
    obtain⟨F2,Pr⟩:=w5 S M g;obtain⟨z1,z2⟩:=s.mut ht g1 Pr;exact k _ J S z1 z2
   refine L2.jG λP_ k_=>?_;cases x with
   |lst l =>
    cases q with
    |int n =>
     obtain⟨tt,et,e7⟩:=Zz.mp (show ((fit (mv,m)).bind λt=>(Jx l.length n).map λj=>(T.lst (l.set j t),()))=Y (x3,y') from N);obtain⟨j,ej,e8⟩:=Zy.mp e7;cases e8;have em:=kD et;cases em;obtain⟨a,p,Fs,rfl,rfl,R,C⟩:=w2.lst_inv;have Q:f a=Y (.lst p):=y a _ R;have nd:=ZY.mp w3;have na:a∉Fv:=λz=>by rw[fv.2 a z]at R;cases R
     have E:Iy (f a):=by rw[Q];exact True.intro
     have off:∀d∈Fs.flatten,d∉Fv:=λd hb hv=>Iy.oe (C.IH d hb) (fv.2 d hv);refine k_ ?_;refine .inl ⟨a,p,n,j,rfl,rk.int_inv,Q,by rw[← uG,C.len.1];exact ej,fin _ (a :: (Fs.set j Fv).flatten) ?_⟩;have keep:∀{u:V}{x:T}{F:Wp},Rp G f u x F->a∉F->Rp G (upd f a (.lst (p.set j xv))) u x F:=λr hn=>r.keep (Kept.upd (.inl E)) λd hb o' Le=>by rw[aE (λz=>hn (by rw[← z];exact hb))];exact Le
     refine Chg.upd y Zx E (.lst aw ((((C.same y).off E nd.1)).putAt j (keep Na na))) ?_ ?_
     ·rw[ZY];refine⟨λh=>?_,dW nd.2 fv.1 λi' M _ hi d hb=>off d (cW hi hb)⟩;rcases cG h with z | ⟨i',M,_,P,h2⟩
      ·exact na z
      ·exact nd.1 (cW P h2)
     ·intro d hb;rcases Zj.mp hb with rfl | hb
      ·exact .inl Zx
      ·rcases cG hb with z | ⟨i',M,_,P,h2⟩
       ·exact .inr (fv.2 d z)
       ·exact .inl (Zv _ (cW P h2))
    |_=>cases N
   |dct kd l =>
    cases kd with
    |zero =>
     have hc:(iM q=L/\Ir m=L/\l.length<dZ)/\x3=.dct 0 (dput l q m):=by
      have Oq:(if iM q/\Ir m/\l.length<dZ then Y (T.dct 0 (dput l q m),()) else O)=Y (x3,y'):=N;split at Oq
      ·rename_i hc;cases Oq;exact⟨hc,rfl⟩
      ·cases Oq
     obtain⟨⟨c1,c2,c3⟩,rfl⟩:=hc;have eF:=Na.Ir c2;subst eF;obtain⟨a,ns,p,ts,Fs,rfl,rfl,R,hl,rfl,C⟩:=eR w2;obtain⟨kk,rfl,M3⟩:=dG rk c1;subst M3;have Q:f a=Y (.dK (ns.zip p)):=y a _ R;have E:Iy (f a):=by rw[Q];exact True.intro
     have nd:=ZY.mp w3;obtain⟨OA,Kc,Jv,JU,q1,q2,q3,q4,q5⟩:=qH (kk:=kk) Na hl (C.same y);have ln:(ns.zip p).length<sizeLine:=by
      have:((ns.map aS).zip ts).length<16777216:=c3;rw[YQ,Zt]at this;rw[YQ];have:=C.len.1;have:(KF:Nat)=16777216:=rfl;lia
     refine k_ ?_;refine .inr ⟨a,_,rfl,uK.k Q ln,fin _ (a :: JU.flatten) ?_⟩;rw[q1,q3];refine Chg.upd y Zx E (.dct aw q2 (q4.off E λz=>nd.1 (q5.subset z))) ?_ ?_
     ·exact ZY.mpr ⟨λz=>nd.1 (q5.subset z),nd.2.sublist q5⟩
     ·intro d hb;rcases Zj.mp hb with rfl | hb
      ·exact .inl Zx
      ·exact .inl (Zv _ (q5.subset hb))
    |succ n=>cases N
   |_=>cases N
  ·cases e
end
def FQ{K:X0}{b:Vg}(e:AJ H)(d:IF K H a (b.map V.int)):l7 K H a b:=by
 rcases d with h | h
 ·rcases h with h | h
  ·rcases e a with z | ⟨o,f,z⟩
   ·rw[z]at h;cases h
   ·rw[z]at h;cases h
  ·exact .inl h
 ·exact .inr h
def D5{G:Gx}(d:g [.scr b]=Y (.fr,.bl L))(f:AJ H)(e:IF G.K H a (b.map V.int)):KO G g [.ref a] H (λv _=>v=.bl L) E :=
 ⟨[.scr b],[[]],.fr,.bl L,.cons (.scr (FQ f e)) .nil,d,λv h F _ r _=>r.JL⟩
def Rf(K:X0):Gx:=⟨K,λ_=>(0,λk=>⟨#[k]⟩),λ_=>O⟩
end VS
end
section
namespace L2
open PySem PySem.Spec PyProof.Rows
section
def ug{X:Cx}(z:X.calm=L):dm X (.type "list") (λf H Q=>∃x:Str,f=[.str x]/\x.cps.size<=KF/\∀l,H l=O->Q (.ref l) (upd H l (.lst (x.cps.toList.map λc=>V.str ⟨#[c]⟩)))):=by
 intro j s J H f C Q I p h;obtain⟨x,rfl,m,q⟩:=h;obtain⟨u,rfl,t,rfl⟩:=vals1 p;refine call_list_str (I.ok.hd z) x t (λA D acc c kp g o=>?_) m;have y:aQ (x.cps.toList.map λc=>V.str ⟨#[c]⟩) acc.toList:=by
  have key:∀(b:Vu)(a:W7),b.length=a.length->(∀(i:Nat)(v:On),a[i]?=Y v->∃c u,b[i]?=Y c/\v=.str ⟨#[c]⟩ u)->aQ (b.map λc=>V.str ⟨#[c]⟩) a:=by
   intro b
   induction b with
   |nil =>
    intro a e _;cases a with
    |nil=>exact .nil
    |cons v a=>simp at e
   |cons c b r =>
    intro a e hg;cases a with
    |nil=>simp at e
    |cons v a =>
     obtain⟨d,u,e1,e2⟩:=hg 0 v M;cases e1;exact .cons ⟨u,e2⟩ (r a (by simpa using e) λi w hw=>by simpa using hg (i+1) w (by simpa using hw))
  refine key _ _ (by rw[KL,KL,o.1]) λi v n=>?_;rw[Lj]at n;obtain⟨d,u,e1,e2⟩:=o.2 i v n;exact⟨d,u,by rw[Lj];exact e1,e2⟩
 refine⟨.ref s.heap.objs.size,_,I.laid kp (Zp _) (show bX X.prog X.w _ A _ (.lst (x.cps.toList.map λc=>V.str ⟨#[c]⟩)) from⟨by rw[Zt,KL];exact m,acc.toList,c,y,g⟩),rfl,q _ (I.Ip.fresh (Zp _))⟩
end
end L2
namespace VS
open PySem PySem.Spec PyProof.Rows L2
section
def jN:Uv->Uu
 |[(m,.lst l)]=>K9 m l
 |[(m,.tup l)]=>K9 m l
 |[(_,.str s)]=>K9 .fr (s.map λc=>.str [c])
 |_=>O
def yE:fK G (λg H Q=>Dt G.K g H Q\/∃x:Str,g=[.str x]/\x.cps.size<=KF/\∀l,H l=O->Q (.ref l) (upd H l (.lst (x.cps.toList.map λc=>V.str ⟨#[c]⟩)))) jN:=by
 intro Z U j H l d f m t Q A e k;unfold jN at e;split at e
 ·exact .inl (u0 Z U j H _ d f m t Q A e k)
 ·exact .inl (u0 Z U j H _ d f m t Q A e k)
 ·rename_i D x;obtain⟨v,F,rfl,rfl,i⟩:=(show RpL G H d [.str x] f from A.rp).one;have h:=i.str_inv.2;refine .inr ⟨sx x,by rw[i.str_inv.1],?_,λq u=>?_⟩
  ·have:=h.1;simp only[sx,ZJ];exact this
  ·have C:(sx x).cps.toList.map (λc=>V.str ⟨#[c]⟩)=(x.map λc=>[c]).map λs=>V.str (sx s):=by
    simp[sx]
   have z:(x.map λc=>T.str [c])=(x.map λc=>[c]).map T.str:=by simp
   rw[C];rw[z]at e;have n:=uC (G:=G) (H:=H) (ss:=x.map λc=>[c]) λs r=>by
    obtain⟨c,w,rfl⟩:=JD.mp r;exact⟨by show 1<=dZ;decide,λy o=>by rw[Zk.mp o];exact h.2 c w⟩
   refine jo A.same e n ?_ k q u;rw[sM];exact Fp.nil
 ·cases e
def CM{X:Cx}(d:X.mg "list" = O)(h:Jz G X [e] cs)(f:{`q1,Gl X "list"})(i:{`q1,X.K=G.K})(g:{`q1,X.calm=L})(he:{`q1,K1 e [] X}):PV G X (.Call (.Name "list" p) [e] [] pos) (eN jN cs) :=
 js (qS.or (ug g)) (i ▸ yE) f d Cd h (he:=he) (hpl:=rfl)
end
end VS
end
section
open PySem PyProof.Rows
namespace TS
noncomputable abbrev Ky:=Sum Int Str
noncomputable def Pf:Ky->Ky->Bool
 |.inl i,.inl j=>decide (i<j)
 |.inr x,.inr y=>decide (x.cps.toList<y.cps.toList)
 |_,_=>B
def oF:List Ky->List Ky->Bool
 |[],[]=>B
 |[],_ :: _=>L
 |_ :: _,[]=>B
 |a :: d,b :: bs=>if a=b then oF d bs else Pf a b
noncomputable def kind(k:Ky):Bool:=k.isLeft
def Bj{x y:Str}(h:x.cps.toList=y.cps.toList):x=y:=by
 cases x;cases y;simp only[Str.mk.injEq];exact Array.toList_inj.mp h
noncomputable def RH:Ky->On->Prop
 |.inl i,v=>∃t,v=.int i t
 |.inr x,v=>∃t,v=.str x t
inductive Lm:List Ky->W7->Prop where
 |nil:Lm [] []
 |cons {k:Ky} {v:On} {ks:List Ky} {vs:W7}:RH k v->Lm ks vs->Lm (k :: ks) (v :: vs)
noncomputable def xT(h:XAA)(v:On)(a:List Ky):Prop:=∃b o items n,v=.ref b/\h.get? b=Y o/\o.cls=.type "tuple" ∧ o.data=.seq items n/\Lm a items.toList
def Hz(d:kind k=kind a)(h:RH k v)(f:RH a b)(q:Q (decide (k=a)) s):PP `ax A (eqBool v b) Q E s:=by
 cases k<;>cases a<;>simp only[kind,Sum.isLeft,Bool.true_eq_false,YS]at d<;>obtain⟨t,rfl⟩:=h<;>obtain⟨g,rfl⟩:=f
 ·exact wpAny_eqBool_int (by have e:∀i j:Int,(i==j)=decide (Sum.inl (β:=Str) i=.inl j):=λi j=>by by_cases z:i=j<;>simp[z]
                             rw[e];exact q)
 ·exact wpAny_eqBool_str (by simpa using q)
def jw(a b:Ky)(l m:List Ky):oF (a :: l) (b :: m)=if a=b then oF l m else Pf a b:=rfl
end TS
end
section
namespace ST
open PySem PySem.Spec PyProof.Rows
noncomputable abbrev dO(a:Array DictEntry)(b:Nat):Obj:={ cls:=.type "dict",data:=.dict a b }
noncomputable abbrev kO(d:KM)(i n a:Nat):Obj:={ cls:=.type "dict_keyiterator",data:=.fields #[.ref d,.int i 0,.int n 0,.int a 0] }
def Ab{s:IR}(f:(d==sysModules)=B)(a:s.heap.get? d=Y (dO b e))(q:Q (.ref s.heap.objs.size) { s with heap:=s.heap.push (kO d 0 b.size e) }) :
  PP `ax A (pyIter (.ref d)) Q E s:=by
 have ty:s.TypeIs (.ref d) "dict" := ⟨_,a,rfl⟩
 refine Vn ty F.slot_dict_iter (Xv F.slot_dict_iter ty F.entry_dict_iter (show PP _ _ (Builtin.«dict.__iter__» _) _ _ _ from ?_) (F.args_dict_iter_1 _));unfold Builtin.«dict.__iter__» Builtin.Dict.dictSlotNone Builtin.Dict.showsAll;refine Zu (Zu (wpAny_notOrdered_dict ty (show PP _ _ (pure (Value.ref d)) _ _ s from Zn (Zu (m:=Builtin.Dict.addrOf (.ref d)) (Zn ?_)))));rw[Zl (by rw[f];exact Zd)];exact Zu (Zn (Zu (wpAny_dictEntries a M (Zu (wpAny_dictEpoch a M (Zu (Xb (Zn ⟨_,rfl, "dict_keyiterator",_,⟨_,ZV _ M,rfl⟩,XB.lookup,q⟩))))))))
def sV{A:SC}{s:IR}{h:Array DictEntry}(t:A.handled=O)(l:s.heap.get? I=Y (kO d i h.size m))(n:s.heap.get? d=Y (dO h m))(y:∀e,h[i]?=Y e->∀a,Heap.SameBut I s.heap a->a.get? I=Y (kO d (i+1) h.size m)->Q (Y e.key) { s with heap:=a })(u:h[i]?=O->∀a,(∀b o,b≠I->s.heap.get? b=Y o->a.get? b=Y o)->Q O { s with heap:=a }):PP `ax A (pyNext (.ref I)) Q E s:=by
 have ty:s.TypeIs (.ref I) "dict_keyiterator" := ⟨_,l,rfl⟩
 unfold pyNext;refine Zu (wpAny_attempt (wpAny_callSpecial?_slot (name:=Str.ofString "__next__") ty XB (Xv XB ty F.entry_dict_keyiterator_next (Y7
  (Q:=λf j=>∃v,f=.done (.ret v)/\Q (Y v) j) (E:=λe j=>∃x,e=.ref x/\(∃o,j.heap.get? x=Y o/\o.cls=.type "StopIteration")/\Q O j) ?_ (λf j ⟨v,e,q⟩=>⟨v,e,Zn q⟩) λe j ⟨x,e1,⟨o,g,c⟩,q⟩=>?_) (F.args_dict_keyiterator_next_1 _))))
 ·refine Zu (Zn (Zu (Zu (Zu (WB ty (Zn (Zu (wpAny_fieldsOf l M ?_))))))));have own:Builtin.Dict_items.ownsTuple "dict_keyiterator" = B:=rfl;simp only[own,YS,↓reduceIte];refine(show PP _ _ (if (Value.ref d==Value.none)=L then _ else _) _ _ s from ?_);rw[Zl (λe:(Value.ref d==Value.none)=true=>Zd e)];refine Zu (Zn (Zu (wpAny_dictEntries n M ?_)));rw[Zl (by simp)];refine Zu (Zn (Zu (wpAny_dictEpoch n M ?_)));rw[Zl (by simp)];refine Zn ?_;simp only[show ¬((i:Int)<0) from by lia,↓reduceIte,Yl];cases he:h[i]? with
  |some e =>
   dsimp only;have p:(s.heap.update I (Obj.mapFields (·.setIfInBounds 1 (rawInt ((i:Int)+1))))).get? I=Y (kO d (i+1) h.size m):=Ye _ l M;refine Zu (Zu (WB ty (Zn (Zu (wpAny_isOneOf_keyiter ty ?_)))));refine(show PP _ _ (setField (.ref I) 1 (rawInt ((i:Int)+1))>>=_) _ _ s from Zu (XM l M (by show 1<4;decide) (Zu (YE ?_))));refine Zu (wpAny_isOneOf_keyiter (s:={ s with heap:=s.heap.update I (Obj.mapFields (·.setIfInBounds 1 (rawInt ((i:Int)+1)))) }) ⟨_,p,rfl⟩ ?_);refine(show PP _ _ (pure e.key) _ _ _ from Zn (Zn ⟨_,rfl,y e he _ (XO ..) p⟩))
  |none =>
   dsimp only;refine Zu (Zu (WB ty (Zn ?_)));refine(show PP _ _ (setField (.ref I) 0 .none>>=_) _ _ s from Zu (XM l M (by show 0<4;decide) (yj t λa x kp r=>⟨x,rfl,r,u he a λb o hb e=>kp b o ?_⟩)));rw[YI _ _ (YH hb)];exact e
 ·subst e1;exact Zu (Vh (T := "StopIteration") (b:=L) ⟨o,g,c⟩ isSubtype_stop (Zn q))
end ST
end
section
namespace L2
open PySem PySem.Spec PyProof.Rows TS
section
theorem AL:∀{b:List Key}{a:W7},aQ (b.map kV) a->Lm b a
 |[],[],_=>.nil
 |k :: b,v :: a,h=>by
  cases h with
  |cons r q =>
   refine .cons ?_ (AL q);cases k with
   |inl i=>exact r
   |inr x=>exact r
def wj{ks:List Key}(d:Ju P w H h)(e:H a=Y (.tup (ks.map kV))):xT h (.ref a) ks:=by
 obtain⟨_,b,r,_,o,i,g,n,f⟩:=(show bX P w H h a (.tup (ks.map kV)) from d a _ e)
 exact⟨a,o,b.toArray,n,rfl,i,g,f,AL r⟩
end
end L2
end
section
namespace VS
open PySem PySem.Spec PyProof.Rows L2
def Hr{i:Int}:PV G X (.UnaryOp .USub (.Constant (.int i) j p) a) (Q3 (-i)) :=
 PE.weak (Gk Fz pO) λJ H Q b=>by
  obtain⟨Z,U,m,t,s,e,k⟩:=b;cases (show Y (Md.fr,T.int (-i))=Y (m,t) from e);exact⟨i,rfl,k _ H [] (aM.refl _) (.int _) Fp.nil⟩
end VS
end
section
namespace VS
open PySem PySem.Spec PyProof.Rows L2
section
def Rp.K5{ts:Ut}(r:Rp G H v (.tup ts) F):∃b vs Fs,v=.ref b/\H b=Y (.tup vs)/\RpL G H vs ts Fs:=by
 cases r with
 |tup h q=>exact⟨_,_,_,rfl,h,q⟩
end
end VS
end
section
namespace L2
open PySem PySem.Spec PyProof.Rows
section
def yX{o:Obj}(h:o.ExactDict)(e:o.data=.dict g i):o=ST.dO g i:=by
 obtain⟨c,d,l,j⟩:=o;obtain⟨f,b,a⟩:=h;simp only at f b a e;subst f b a e;rfl
end
end L2
end
section
namespace VS
open PySem PySem.Spec PyProof.Rows L2
section
def Em{j pos'}(g:PV G X a ca):Kg G X (.Compare a [.Is] [.Constant .none j pos'] pos) (CJ ca) :=
 PT.weak (yq (D4 g)) λJ H Q h=>DG h (λU m r e=>by
  unfold CJ at e;obtain⟨x,_,e⟩:=Zz.mp e;cases e;exact⟨_,rfl⟩) λQ f=>by
   obtain⟨Z,U,m,r,s,e,q⟩:=f;unfold CJ at e;obtain⟨⟨n,x⟩,i,e⟩:=Zz.mp e;cases e;refine⟨Z,U,n,x,s,i,λv d F e1 r1 f1=>?_⟩;show Q (.bl (decide (v=.non))) d;rw[vD r1];exact q _ d _ e1 (.bl _) Fp.nil
def pZ{j pos'}(g:PV G X a ca):Kg G X (.Compare a [.IsNot] [.Constant .none j pos'] pos) (gP ca) :=
 PT.weak (yq (Bm g)) λJ H Q h=>DG h (λU m r e=>by
  unfold gP at e;obtain⟨x,_,e⟩:=Zz.mp e;cases e;exact⟨_,rfl⟩) λQ f=>by
   obtain⟨Z,U,m,r,s,e,q⟩:=f;unfold gP at e;obtain⟨⟨n,x⟩,i,e⟩:=Zz.mp e;cases e;refine⟨Z,U,n,x,s,i,λv d F e1 r1 f1=>?_⟩;show Q (.bl (!decide (v=.non))) d;rw[vD r1];exact q _ d _ e1 (.bl _) Fp.nil
def tf(i:Nat)(k e:Ex)(U:VS.Env):Option Out:=(e U).bind λv=>match U[i]? with
 |some (some (.ow (.dct 0 l)))=>(k U).bind λd=>if iM d.2/\Ir v.2/\l.length<dZ then Y (.nx (U.set i (Y (.ow (.dct 0 (dput l d.2 v.2)))))) else O
 |_=>O
def EX{X:Cx}{pos:Pos}(i:Nat)(hr:Im kr X.A)(hk:PV G X b ck)(he:PV G X e ce)(hN:X.N[i]?=Y x)(hv:Kf X.env.scope x)(hd:K3 x)(p:K4 x)(ha:∀v,assign (.Subscript (.Name x p1) b pos') X.env v=(do
   let ov ← holding [v] (eval (.Name x p1) X.env)
   let iv ← holding [v,ov] (eval b X.env)
   standAt pos'
   holding [v,ov,iv] (setItem ov iv v)
   release [v,ov,iv] []))(hs:swapsWithSole [.Subscript (.Name x p1) b pos'] e pos.line X.env=pure B)(hw:swappedStores [.Subscript (.Name x p1) b pos'] e X.env=pure O)(h1:(assignEach [.Subscript (.Name x p1) b pos'] X.env).map (·.2)=[assign (.Subscript (.Name x p1) b pos') X.env]):PSV G X (.Assign [.Subscript (.Name x p1) b pos'] e pos) (tf i ck ce) :=
 PS.weak (uM he (uS (d8 hN hv hd p) hk (yI (kM hr)) ha) hs hw h1) λD J H hq=>by
  obtain⟨Z,U,out,s,e,k⟩:=hq;unfold tf at e;obtain⟨⟨mv,m⟩,ev,e⟩:=Zz.mp e;split at e
  ·rename_i l o;obtain⟨⟨mk,S⟩,NN,e⟩:=Zz.mp e;split at e
   ·rename_i hc;obtain⟨c1,c2,c3⟩:=hc;cases e;obtain⟨w,y,R⟩:=s.rp _ _ o;have q:=s.nd i _ o;refine⟨Z,U,mv,m,s,ev,λxv H1 Fv M rv fv=>⟨w,y,Z,U,mk,S,s.same M,NN,λkv f Fk F rk fk=>?_⟩⟩;have n:aM H f:=M.trans F;have C:Rp G f xv m Fv:=rv.same F;have eF:=C.Ir c2;subst eF;obtain⟨a,ns,j,r,Fs,rfl,d,IC,hl,rfl,t⟩:=eR R;rw[d]at q;obtain⟨kk,rfl,M3⟩:=dG rk c1;subst M3;have E:f a=Y (.dK (ns.zip j)):=n a _ IC;have u:Iy (f a):=by rw[E];exact True.intro
    have nd:=ZY.mp q;obtain⟨OA,Kc,Jv,JU,q1,q2,q3,q4,h⟩:=qH (kk:=kk) C hl (t.same n);have ln:(ns.zip j).length<sizeLine:=by
     have:((ns.map aS).zip r).length<16777216:=c3;rw[YQ,Zt]at this;rw[YQ];have:=t.len.1;have:(KF:Nat)=16777216:=rfl;lia
    refine .inr ⟨a,_,rfl,uK.k E ln,?_⟩;have g:Chg G H (.ref a) (Z i) (.dct 0 (dput ((ns.map aS).zip r) (aS kk) m)) (upd f a (.dK (putK (ns.zip j) kk xv))) (a :: JU.flatten):=by
     rw[d,q1,q3];refine Chg.upd n Zx u (.dct aw q2 (q4.off u λz=>nd.1 (h.subset z))) ?_ ?_
     ·exact ZY.mpr ⟨λz=>nd.1 (h.subset z),nd.2.sublist h⟩
     ·intro bb hb;rcases Zj.mp hb with rfl | hb
      ·exact .inl Zx
      ·exact .inl (Zv _ (h.subset hb))
    obtain⟨Q,P⟩:=s.mut o y g;exact k _ J _ Q P
   ·cases e
  ·cases e
end
end VS
end
section
namespace DP
open PySem PySem.Spec PyProof.Rows
def Bi:typeLookup (.type "tuple") "keys" = pure O:=by rw[VQ,WJ];kernel_rfl
def C3{A:SC}{h:XAA}{os}(l:h.get? a=Y { cls:=.type "tuple",dict:=O,data:=.seq i k,slots:=j })(q:A.handled=O)(p:∀f b e,Heap.NewExcOf h f e "AttributeError" → E (.ref e) ⟨f,g,d,b,os⟩):PP `ax A (getAttrBy (.ref a) (.str "keys" u) B) Q E ⟨h,g,d,o,os⟩:=by
 have m:∀b,(⟨h,g,d,b,os⟩:IR).TypeIs (.ref a) "tuple" := λ_=>⟨_,l,rfl⟩
 have f1:=sub_AttributeError;have x:=Vo.lookup;have v:=Vo.bind (.ref a);have t:=am_tuple_getattr_none;unfold getAttrBy
 repeat (any_goals (first | assumption | exact m _ | ((with_reducible show PP _ _ (call (Value.builtin "tuple.__getattribute__") _ _) _ _ _);refine call_meets Vo (m _) am_entry_tuple_getattribute (F.args_tuple_getattribute_2 _ _) (meets_getattribute_miss_tuple a i k j "keys" _ Bi `bd) ⟨l,q,λf b e n=>?_⟩) | wp_step))
 obtain⟨s,r,he⟩:=n.there;show PP _ _ (getattributeRaised _ _ _ _ _ _ _) _ _ _;unfold getattributeRaised
 repeat (any_goals (first | assumption | wp_step))
 exact p _ _ _ n.of
end DP
end
section
namespace DP
open PySem PySem.Spec PyProof.Rows L2
def wA{A:SC}{h:XAA}{os}(o:h.get? a=Y { cls:=.type "tuple",dict:=O,data:=.seq j k,slots:=m })(s:A.handled=O)(p:∀b i e,Heap.NewExcOf h b e "AttributeError" → Q O ⟨b,g,d,i,os⟩):PP `ax A (getAttr? (.ref a) "keys") Q E ⟨h,g,d,l,os⟩:=by
 have f1:=sub_AttributeError;unfold getAttr? getAttrBy?
 repeat (any_goals (first | assumption | (with_reducible refine C3 o (by assumption) λb i e f=>?_) | wp_step))
 obtain⟨⟨oc,r,n,t⟩,q,ge,ce,_,_⟩:=f.there;dsimp only at ce;subst ce
 repeat (any_goals (first | assumption | wp_step))
 exact p _ _ _ f
def nQ:entryFor table "dict.update.loop" = Y Builtin.«dict.update.loop» := entryFor_of_tree (by kernel_rfl)
def iu:plainId "dict.update.loop" = L:=by decide +kernel
section
theorem loop{prog:Re}{w:XAB}{A:SC}{R:Result->IR->Prop}{I:KM}{fp wr:Wp}{G:Array GenState->Array GenState->Prop}{n:Nat}{P:Nat->On->Prop}{St:Nat->IR->Prop}(W:WalksS prog w A.in1 I fp wr G n P St)(d:KM)(Oc:d∉fp)(Z:XAA)(a:Nat->Key×On)(hP:∀i v,P i v->∃p m x l,v=.ref p/\Z.get? p=Y { cls:=.type "tuple",dict:=O,data:=.seq #[l,(a i).2] m,slots:=x }/\(aR prog w).is (a i).1 l=L/\p∉d :: wr)(g:n<=KF) :
  ∀(k i:Nat)(s:IR),n-i=k->i<=n->St i s->(∀b o,b∉d :: wr->Z.get? b=Y o->s.heap.get? b=Y o)->s.heap.DictOf (aR prog w) d (merged [] ((List.range i).map a)) →
   (∀f,Moved (d :: wr) G s f->f.heap.DictOf (aR prog w) d (merged [] ((List.range n).map a))->R (.ok (.ret .none)) f) →
   codeAny `ax A (.builtin "dict.update.loop" ⟨[.ref d,.ref I,rawInt i,.none],[]⟩) R s:=by
 have t:d∉wr:=λh=>Oc (W.sub _ h);have u:∀b∈wr,b∈d :: wr:=λb g=>Zv _ g;intro k
 induction k with
 |zero =>
  intro i s hk hi X F J M;have JG:i=n:=by lia
  subst JG;refine Xp nQ ?_;rw[Y1 iu _];show PP _ A.in1 (pyNext (.ref I)>>=_) _ _ s;refine Zu (W.done s _ _ X λf j=>?_);show PP _ A.in1 (Builtin.Dict.addKeywords d [] >>= λ_=>ret Value.none) _ _ f;refine Zu (Zn ?_);exact Zn (M f (j.mono u) (by
   obtain⟨o,S,U,C,rest⟩:=J;exact⟨o,S,U,j.heap d _ t C,rest⟩))
 |succ k ih =>
  intro i s hk hi X F J M;have IS:i<n:=by omega
  refine Xp nQ ?_;rw[Y1 iu _];show PP _ A.in1 (pyNext (.ref I)>>=_) _ _ s;refine Zu (W.item i s _ _ IS X λv f N TF j=>?_);obtain⟨p,m,x,l,rfl,hp,D,q⟩:=hP i v N;have QK:f.heap.get? p=Y { cls:=.type "tuple",dict:=O,data:=.seq #[l,(a i).2] m,slots:=x }:=j.heap p _ (λz=>q (u p z)) (F p _ q hp);have H:f.heap.DictOf (aR prog w) d (merged [] ((List.range i).map a)):=by
   obtain⟨o,S,U,C,rest⟩:=J;exact⟨o,S,U,j.heap d _ t C,rest⟩
  show PP _ A.in1 (holding [Value.ref p] _>>=_) _ _ f;refine Zu (YE ?_);have ty:f.TypeIs (.ref p) "tuple" := ⟨_,QK,rfl⟩
  refine Zu (thn (Q:=λr y=>r=[l,(a i).2]/\y=f) ?pair λr y hr=>?rest)
  case pair =>
   refine wpAny_tryCatch ?_;unfold Builtin.Dict.pairItems
   repeat (any_goals (first | assumption | wp_step))
   exact⟨rfl,rfl⟩
  case rest =>
   obtain⟨rfl,rfl⟩:=hr;dsimp only;refine YE ?_;refine wpAny_dictSet_pairs D H (λh' dd sb=>?_) (by have:=merged_length_le (K:=Key) [] ((List.range i).map a);simp at this;lia);have e1:((i:Int)+1)=((i+1:Nat):Int):=by lia
   rw[e1];have M4:h'.DictOf (aR prog w) d (merged [] ((List.range (i+1)).map a)):=by
    rw[List.range_succ,Yu,show merged ([]:List (Key×On)) ((List.range i).map a++[i].map a)=stored (merged [] ((List.range i).map a)) (a i).1 (a i).2 by unfold merged;rw[List.foldl_append];rfl];exact dd
   refine Zn ⟨Wr iu _,ih (i+1) _ (by omega) IS (W.frame _ y _ _ TF (XT _) λb g o e=>?_) (λb o g e=>?_) M4 λPR TV Up=>?_⟩
   ·rw[sb.2 b (λh:b=d=>Oc (by rw[← h];exact g))];exact e
   ·rw[sb.2 b (λh:b=d=>g (by rw[h];exact Zx))];exact j.heap b _ (λz=>g (u b z)) (F b o g e)
   ·refine M PR (Moved.trans W.gtrans ((j.mono u).then_heap (XT _) λb o g e=>?_) TV) Up;rw[sb.2 b (λh:b=d=>g (by rw[h];exact Zx))];exact e
end
end DP
end
section
namespace DP
open PySem PySem.Spec PyProof.Rows L2
def mU:mroOf (.type "dict")=pure [.type "dict",.type "object"]:=by rw[mroOf_type];kernel_rfl
def mq:typeLookup (.type "dict") "__new__" = pure (Y (.builtin "dict.__new__")):=by rw[VQ,WJ];kernel_rfl
def sQ:TypeCalled "dict" "dict.__new__" "dict.__init__" :=
 ⟨by decide +kernel,by decide +kernel,⟨_,_,mU⟩,madeBy_type mU mq `bd,by decide +kernel,by rw[VL];kernel_rfl,F.slot_dict_init⟩
def mh(a:On):checkTypeCall "dict" ⟨[a],[]⟩=pure ():=by kernel_rfl
def nk(a:On):checkBuiltinCall "dict.__new__" ⟨[.type "dict",a],[]⟩=pure ():=by kernel_rfl
def nJ:entryFor table "dict.__new__" = Y Builtin.«dict.__new__» := entryFor_of_tree (by kernel_rfl)
def iT:plainId "dict.__new__" = L:=by decide +kernel
def oO:isSubtype (.type "dict") (.type "dict")=pure L:=by rw[VL];kernel_rfl
def oG{s:IR}(a:On)(h:b (.ref s.heap.objs.size) { s with heap:=s.heap.push { cls:=.type "dict",data:=.dict #[] } }) :
  codeAny `ax A (.call (.builtin "dict.__new__") ⟨[.type "dict",a],[]⟩) (wants b E) s:=by
 refine codeAny_of_tree (Zu (m:=checkBuiltinCall "dict.__new__" ⟨[.type "dict",a],[]⟩) (wpAny_of_eq (nk a) (Zn ⟨Wr iT _,Xp nJ ?_⟩)));rw[Y1 iT];have own:=oO;have mro:=mU;cases s;unfold Builtin.«dict.__new__»
 wp_walk
 exact h
def xH{A:SC}{s:IR}{kv:Nat->Key×On}(J:A.handled=O)(H:s.heap.get? a=Y { cls:=.type "tuple",dict:=O,data:=.seq j G,slots:=x })(X:j.size<=KF)(hp:∀(i:Nat)(v:On),j[i]?=Y v->∃p m y r,v=.ref p/\s.heap.get? p=Y { cls:=.type "tuple",dict:=O,data:=.seq #[r,(kv i).2] m,slots:=y }/\(aR prog w).is (kv i).1 r=L)(h:∀(n:XAA)(C:Nat),n.DictOf (aR prog w) s.heap.objs.size (merged [] ((List.range j.size).map kv))->(∀b o,s.heap.get? b=Y o->n.get? b=Y o)->Q (.ref s.heap.objs.size) { s with heap:=n,toks:=C }) :
  PP `ax A (call (.type "dict") [.ref a]) Q E s:=by
 refine callType_codes (Q₁:=λobj D=>obj=.ref s.heap.objs.size/\D={ s with heap:=s.heap.push { cls:=.type "dict",data:=.dict #[] } }) sQ (mh _) F.entry_dict_init (oG _ ⟨rfl,rfl⟩) λobj D hq=>?_;obtain⟨rfl,rfl⟩:=hq;have ty:Shared.TypeIs { s with heap:=s.heap.push { cls:=.type "dict",data:=.dict #[] } } (.ref s.heap.objs.size) "dict" := ⟨_,ZV _ M,rfl⟩
 refine⟨ty,F.args_dict_init_2 _ _,?_⟩;obtain⟨f,g,d,C,os⟩:=s;have P:=Zm { cls:=.type "dict",data:=.dict #[] } H;unfold Builtin.«dict.__init__» Builtin.Dict.updateCommon Builtin.Dict.updateFrom;generalize eP:pyIter=itr;generalize eG:getAttr?=ga
 repeat (any_goals (first | assumption | wp_step))
 subst eG;dsimp only at *;refine wA P (by simp[J]) λt S e ne=>?_;simp only[Option.isNone_none,if_true];refine Zu (Vy ?_);subst eP;have at2:=ne.keeps _ _ P;have dat:=ne.keeps f.objs.size { cls:=.type "dict",data:=.dict #[] } (ZV _ M);have u:=ZO dat;have z:∀{b:KM}{o:Obj},f.get? b=Y o->b<f.objs.size:=λe=>ZO e;have l:∀b o,f.get? b=Y o->t.get? b=Y o:=λb o e=>ne.keeps _ _ (Zm _ e);have tup:t.IsTuple a j:=⟨_,at2,rfl,G,rfl⟩
 refine Zu (wpAny_pyIter_tuple tup (Zn ⟨Wr iu _,?_⟩));have alt:=z H;have D0:(t.push { cls:=.type "tuple_iterator",data:=.fields #[.ref a,.int 0 0] }).DictOf (aR prog w) f.objs.size (merged [] ((List.range 0).map kv)):=by
  obtain⟨o,es,ep,ho,rest⟩:=(Heap.DictOf.new (knd:=aR prog w) f)
  exact⟨o,es,ep,Zm _ (ne.keeps _ _ ho),rest⟩
 refine loop (A:=A.in1) ((Walks.tuple (by simp[J]) t.objs.size a (Ze (WD alt u)) j).toS) f.objs.size (by simp only[Zj,XZ,or_false,not_or];exact⟨Ze u,XS alt⟩) f kv (λi v Z=>?_) X j.size 0 _ `am (ZD _) ?_ (λb o hb e=>Zm _ (l b o e)) D0 λU mv dd=>?_
 ·obtain⟨p,m,y,r,rfl,N,g2⟩:=hp i v Z;have:=z N;exact⟨p,m,y,r,rfl,N,g2,by simp only[Zj,XZ,or_false,not_or];exact⟨Ze this,Ze (WD this u)⟩⟩
 ·exact⟨⟨_,ZV _ M,rfl,rfl⟩,tup.push _⟩
 ·obtain⟨n,g',d',ME,Ow⟩:=U;have e1:g'=g:=mv.gens;have e2:d'=d:=mv.drawn;have e3:Ow=os:=mv.os;subst e1 e2 e3;refine⟨rfl,h n ME dd λb o e=>mv.heap b o (λR=>?_) (Zm _ (l b o e))⟩;have:=z e;simp only[Zj,XZ,or_false]at R;rcases R with q | q
  ·exact Ze this q
  ·exact Ze (WD this u) q
end DP
end
section
namespace L2
open PySem PySem.Spec PyProof.Rows
section
abbrev Mw:=KM×Key×V
def CP(I:Inv X a J H s){q:Mw}(h:H q.1=Y (.tup [kV q.2.1,q.2.2])):∃b m i d,RelV q.2.2 b/\s.heap.get? q.1=Y { cls:=.type "tuple",dict:=O,data:=.seq #[d,b] m,slots:=i }/\(aR X.prog X.w).is q.2.1 d=L:=by
 obtain⟨_,p,j,nd,⟨oc,r,l,o⟩,g,f,n,e⟩:=(show bX X.prog X.w H s.heap q.1 (.tup [kV q.2.1,q.2.2]) from I.Ip _ _ h)
 have hd:=nd _ g;dsimp only at f e hd;subst f e hd;obtain⟨d,b,rfl,r1,r2⟩:=vals2 j;exact⟨b,n,o,d,r2,g,lR r1⟩
theorem rB(I:Inv X a J H s):∀(ps:List Mw),(∀q∈ps,H q.1=Y (.tup [kV q.2.1,q.2.2])) →
  ∃f:List (Key×On),Paired (λ(q:Mw) (d:Key×On)=>q.2.1=d.1/\RelV q.2.2 d.2/\∃m e b,s.heap.get? q.1=Y { cls:=.type "tuple",dict:=O,data:=.seq #[b,d.2] m,slots:=e }/\(aR X.prog X.w).is d.1 b=L) ps f
 |[],_=>⟨[],.nil⟩
 |q :: ps,h=>by
  obtain⟨i,m,e,b,r,g,k⟩:=CP I (h q Zx);obtain⟨f,p⟩:=rB I ps λx j=>h x (Zv _ j);exact⟨(q.2.1,i) :: f,.cons ⟨rfl,r,m,e,b,g,k⟩ p⟩
theorem pI(e:∀q d,R q d->q.2.1=d.1/\RelV q.2.2 d.2):∀{ps:List Mw}{f:List (Key×On)},Paired R ps f->∀{a:List (Key×V)}{b:List (Key×On)},KV a b->KV (ps.foldl (λacc q=>putK acc q.2.1 q.2.2) a) (merged b f)
 |_,_,.nil,_,_,r=>r
 |_,_,.cons (a:=q) (b:=d) h t,a,b,r=>by
  obtain⟨e1,e2⟩:=e _ _ h;have:=pI e t (r.put d.1 e2);simp only[Xq,merged];rw[e1];exact this
theorem sZ:∀(ps:List Mw)(a:List (Key×V)),(ps.foldl (λacc q=>putK acc q.2.1 q.2.2) a).length<=a.length+ps.length
 |[],a=>Zp _
 |q :: ps,a=>by
  have d:=sZ ps (putK a q.2.1 q.2.2);have b:=gy a q.2.1 q.2.2;simp only[Xq,Zg];lia
def Paired.at_{α β:Type}{R:α->β->Prop}:∀{l:List α}{m:List β},Paired R l m->∀(i:Nat){a:α},l[i]?=Y a->∃b,m[i]?=Y b/\R a b:=by
 intro l m p
 induction p with
 |nil=>intro i a h;cases h
 |cons r t d =>
  intro i a h;cases i with
  |zero=>cases h;exact⟨_,rfl,r⟩
  |succ i=>exact d i h
def uD{X:Cx}(R:X.calm=L):dm X (.type "dict") (λj H Q=>∃(p:KM)(ps:List Mw),j=[.ref p]/\H p=Y (.tup (ps.map λq=>V.ref q.1))/\(∀q∈ps,H q.1=Y (.tup [kV q.2.1,q.2.2])) ∧
  ∀l,H l=O->Q (.ref l) (upd H l (.dK (ps.foldl (λacc q=>putK acc q.2.1 q.2.2) [])))):=by
 intro r s J H j Z Q I E h;obtain⟨p,ps,rfl,P,N,q⟩:=h;obtain⟨u,rfl,F⟩:=E.one;cases F;obtain⟨x,t,o,nd,⟨oc,od,G,Ml⟩,g,z,n,y⟩:=(show bX X.prog X.w H s.heap p (.tup (ps.map λq=>V.ref q.1)) from I.Ip _ _ P)
 have hd:=nd _ g;dsimp only at z y hd;subst z y hd;obtain⟨d,pr⟩:=rB I ps N;have l1:t.length=ps.length:=by have:=o.length;simpa using this.symm
 have l2:d.length=ps.length:=pr.length.symm;rw[Zt]at x;have f:(List.range t.toArray.size).map (λi=>(d[i]?).getD (.inl 0,.none))=d:=by
  apply Wf;intro i;rw[ZP];by_cases b:i<d.length
  ·rw[List.getElem?_range (by simp;lia),Zq b];simp[b]
  ·rw[Yy (by simp;lia),Yy (by exact ZK b)];rfl
 refine DP.xH (kv:=λi=>(d[i]?).getD (.inl 0,.none)) (I.ok.hd R) g (by simp;lia) (λi v e=>?_) λh' C A kp=>?_
 ·rw[List.getElem?_toArray]at e;have b:i<ps.length:=by have:=(ZW.mp e).1;lia
  obtain⟨w,e1,e2⟩:=Paired.at_ o i (a:=V.ref ps[i].1) (by rw[ZP,Zq b];rfl);rw[e]at e1;cases e1;obtain⟨kv,e3,e4,_,m,D,M,U,S⟩:=Paired.at_ pr i (Zq b);rw[e3];exact⟨ps[i].1,m,D,M,e2,U,S⟩
 ·rw[f]at A;have rel:=pI (λ_ _ h=>⟨h.1,h.2.1⟩) pr (.nil:KV [] []);have ln:=sZ ps [];exact⟨.ref s.heap.objs.size,_,I.laid (t':=C) kp (Zp _) (pM (by simp at ln;exact ZL ln x) (KS.mpr (YH (Ze I.big))) rel A),rfl,q _ (I.Ip.fresh (Zp _))⟩
end
end L2
end
section
namespace VS
open PySem PySem.Spec PyProof.Rows L2
def pU:Ut->Option (List (T×T))
 |[]=>Y []
 |.tup [k,v] :: r=>if iM k/\Ir v then (pU r).map ((k,v) :: ·) else O
 |_=>O
def lr:Uv->Uu
 |[(_,.tup l)]=>(pU l).map λps=>(.fr,.dct 0 (ps.foldl (λd q=>dput d q.1 q.2) []))
 |_=>O
section
def Cm(h:pU (t :: l)=Y d):∃k v a,t=.tup [k,v]/\iM k=L/\Ir v=L/\pU l=Y a/\d=(k,v) :: a:=by
 unfold pU at h;split at h
 ·rename_i b;cases b
 ·rename_i k v r b;cases b;split at h
  ·rename_i c;obtain⟨a,e1,e2⟩:=Zy.mp h;exact⟨k,v,a,rfl,c.1,c.2,e1,e2.symm⟩
  ·cases h
 ·cases h
theorem tH:∀{ts:Ut}{ws:List V}{Gs:Xz}{a:List (T×T)},RpL G H ws ts Gs->pU ts=Y a →
  ∃ps:List Mw,ws=ps.map (λq=>V.ref q.1)/\(∀q∈ps,H q.1=Y (.tup [kV q.2.1,q.2.2]))/\Paired (λ(q:Mw) (x:T×T)=>x.1=aS q.2.1/\Rp G H q.2.2 x.2 []) ps a
 |[],_,_,a,r,h=>by
  cases r;cases (show Y ([]:List (T×T))=Y a from h);exact⟨[],rfl,λq m=>by simp at m,.nil⟩
 |t :: ts,_,_,a,r,h=>by
  obtain⟨k,v,i,rfl,n,l,o,rfl⟩:=Cm h;cases r with
  |cons r1 r2 =>
   obtain⟨ps,e1,e2,e3⟩:=tH r2 o;obtain⟨b,vs,Fs,rfl,hb,q⟩:=Rp.K5 r1;cases q with
   |cons g q =>
    cases q with
    |cons f q =>
     cases q;obtain⟨j,rfl,s⟩:=dG g n;have u:=f.Ir l;subst u;refine⟨(b,j,_) :: ps,by rw[e1];rfl,λx d=>?_,.cons ⟨s,f⟩ e3⟩;rcases Zj.mp d with rfl | d
     ·exact hb
     ·exact e2 x d
theorem sT:∀{ps:List Mw}{o:List (T×T)},Paired (λ(q:Mw) (x:T×T)=>x.1=aS q.2.1/\Rp G H q.2.2 x.2 []) ps o->∀{ns:List Key}{vs:List V}{ts:Ut}{Fs:Xz},ns.length=vs.length->RpL G H vs ts Fs->Fs.flatten=[] →
  ∃(m:List Key)(f:List V)(n:Ut)(g:Xz),ps.foldl (λacc q=>putK acc q.2.1 q.2.2) (ns.zip vs)=m.zip f/\o.foldl (λd q=>dput d q.1 q.2) ((ns.map aS).zip ts)=(m.map aS).zip n/\m.length=f.length/\RpL G H f n g/\g.flatten=[]
 |_,_,.nil,ns,vs,ts,Fs,i,r,l=>⟨ns,vs,ts,Fs,rfl,rfl,i,r,l⟩
 |_,_,.cons (a:=q) (b:=x) h t,ns,vs,ts,Fs,i,r,l=>by
  obtain⟨P,f,n,g,A,z,y,w,s⟩:=qH (kk:=q.2.1) h.2 i r;rw[l]at s;have j:g.flatten=[]:=V9.mp s;obtain⟨C,u,v,N,M,J,F,E,D⟩:=sT t z w j;refine⟨C,u,v,N,?_,?_,F,E,D⟩
  ·rw[Xq,A];exact M
  ·rw[Xq,h.1,y];exact J
def AB:fK G (λj H Q=>∃(p:KM)(ps:List Mw),j=[.ref p]/\H p=Y (.tup (ps.map λq=>V.ref q.1))/\(∀q∈ps,H q.1=Y (.tup [kV q.2.1,q.2.2])) ∧
  ∀l,H l=O->Q (.ref l) (upd H l (.dK (ps.foldl (λacc q=>putK acc q.2.1 q.2.2) [])))) lr:=by
 intro Z U E H l vs Fs m t Q A e k;unfold lr at e;split at e
 ·rename_i D ts;obtain⟨n,e1,e2⟩:=Zy.mp e;cases e2;obtain⟨v,F,rfl,rfl,r⟩:=(show RpL G H vs [.tup ts] Fs from A.rp).one;obtain⟨b,ws,Gs,rfl,hb,q⟩:=Rp.K5 r;obtain⟨ps,rfl,y,pr⟩:=tH q e1;refine⟨b,ps,rfl,hb,y,λl i=>?_⟩;obtain⟨ns,g,z,C,x,w,u,s,o⟩:=sT pr (ns:=[]) (vs:=[]) (ts:=[]) (Fs:=[]) M .nil M;have f:ps.foldl (λacc q=>putK acc q.2.1 q.2.2) []=ns.zip g:=x;have a:n.foldl (λd q=>dput d q.1 q.2) []=(ns.map aS).zip z:=w;rw[f];have h:aM H (upd H l (.dK (ns.zip g))):=bh i;refine k _ _ (l :: C.flatten) h (by rw[a];exact .dct aw u (s.same h)) ?_;rw[o];exact Fp.new (A.same.free i) (by simp) Fp.nil
 ·cases e
def vm:bootBuiltins ("dict" : Str)=Y (.type "dict"):=by decide +kernel
def C4{X:Cx}(a:X.mg "dict" = O)(f:Jz G X [e] cs)(b:{`q1,Gl X "dict"})(d:{`q1,X.calm=L})(he:{`q1,K1 e [] X}):PV G X (.Call (.Name "dict" p) [e] [] pos) (eN lr cs) :=
 js (uD d) AB b a vm f (he:=he) (hpl:=rfl)
def EO:bootBuiltins ("int" : Str)=Y (.type "int"):=by decide +kernel
end
end VS
end
section
namespace L2
open PySem PySem.Spec PyProof.Rows
section
def qx(I:`a_)(e:H d=Y (.dK a))(g:s.heap.get? d=Y o):Inv X pins J (upd H d (.frz o (.dK a))) s :=
 mw (t':=s.toks) I (by rw[e];exact True.intro) ⟨rfl,λ_ _=>rfl⟩ ⟨o,g⟩ ⟨g,I.Ip d _ e⟩
end
def WH(d:KM)(o:Obj)(a:List (Key×V)):It :=
 ⟨λi H=>H d=Y (.frz o (.dK a))/\i<a.length,λi H x b=>b=H/\∃p,a[i]?=Y p/\x=kV p.1,λi H=>H d=Y (.frz o (.dK a))/\a.length<=i⟩
def B7(h:lU k v=L):RelV (kV k) v:=by
 rcases bM h with⟨i,t,rfl,rfl⟩ | ⟨x,t,rfl,rfl⟩
 ·exact⟨t,rfl⟩
 ·exact⟨t,rfl⟩
def pE{P:Re}{w:XAB}{a:List DictEntry}{m:List (Key×On)}(r:Pairs (aR P w) a m){i:Nat}{e:DictEntry}(h:a[i]?=Y e):∃q,m[i]?=Y q/\lU q.1 e.key=L:=by
 induction r generalizing i with
 |nil=>simp at h
 |@cons l b a j f g _ d =>
  cases i with
  |zero =>
   simp at h;subst h;exact⟨b,rfl,f⟩
  |succ i=>simpa using d (by simpa using h)
def DU{l:List (Key×V)}{m:List (Key×On)}(r:KV l m){i:Nat}{q:Key×On}(h:m[i]?=Y q):∃p,l[i]?=Y p/\p.1=q.1:=by
 induction r generalizing i with
 |nil=>simp at h
 |@cons a f ps e d t b =>
  cases i with
  |zero=>simp at h;subst h;exact⟨a,rfl,d.1⟩
  |succ i=>simpa using b (by simpa using h)
section
def D1{K:X0}(d j:KM){n:Array DictEntry}(f:KV S N)(he:Pairs (aR P w) n.toList N) :
  Turn P w K tg (WH d (ST.dO n t) S) [j] j (λi h=>h.get? j=Y (ST.kO d i n.size t)) where
 mem:=by simp
 obj:=λi h st b hb=>by
  rw[Zk.mp hb];exact⟨_,st,λv z=>by cases z⟩
 keep:=λi h m st k=>k j (by simp) _ st
 item:=by
  intro X y hw A x i a s J H E I r st hg;subst y hw A;obtain⟨M,f1,f2,G,D,C⟩:=r j (by simp);refine ST.sV (I.ok.hd x) st (show s.heap.get? d=Y (ST.dO n t) from(I.Ip d _ hg.1).1) (λe l m sb g=>?_) λQ=>?_
  ·have I1:Inv X a J H { s with heap:=m }:=I.turned (t':=s.toks) (λb o hb e=>(sb.2 b hb).trans e) M f1 G D C;rw[← Lj]at l;obtain⟨q,u,R⟩:=pE he l;obtain⟨p,U,hb⟩:=DU f u;exact⟨_,rfl,rA (s:={ s with heap:=m }) g rfl rfl rfl ⟨kV p.1,H,I1,by rw[hb];exact B7 R,⟨rfl,p,U,rfl⟩,g,λb hb=>(r b hb).1⟩⟩
  ·exfalso;rw[← Lj,YL,he.length,← Wm f]at Q;exact absurd hg.2 `am
 done:=by
  intro X y hw A x i a s J H E I r st hg;subst y hw A;obtain⟨M,f1,f2,G,D,C⟩:=r j (by simp);refine ST.sV (I.ok.hd x) st (show s.heap.get? d=Y (ST.dO n t) from(I.Ip d _ hg.1).1) (λe l m sb g=>?_) λQ m kp=>⟨rfl,I.turned (t':=s.toks) (λb o hb e=>kp b o hb e) M f1 G D C⟩
  exfalso;rw[← Lj]at l;obtain⟨q,u,R⟩:=pE he l;have:=(ZW.mp u).1;have h2:=hg.2;rw[Wm f]at h2;lia
 self:=λ_ _ _ _ _ st Z=>Vn ⟨_,st,rfl⟩ F.slot_dict_keyiterator_iter (Xv F.slot_dict_keyiterator_iter ⟨_,st,rfl⟩ F.entry_dict_keyiterator_iter (show PP _ _ (ret (.ref j)) _ _ _ from Zn ⟨_,rfl, "dict_keyiterator",_,⟨_,st,rfl⟩,XB.lookup,Z⟩) (F.args_dict_keyiterator_iter_1 _))
def iDk(e:TE):TI:=λJ H R=>e J H λx b=>∃d a,x=.ref d/\b d=Y (.dK a)/\∀o,R (WH d o a) (upd b d (.frz o (.dK a)))
def G3(m:PE X l i):PI X tg l (iDk i):=by
 intro a s J H R I h;refine thn (m a s J H _ I h) λv s1 ⟨x,A,f,r1,j⟩=>?_;obtain⟨d,t,ex,e,q⟩:=j;subst ex;cases r1;obtain⟨z,y,p,rel,o,u,w,g,ex,hd,_,he,r⟩:=tD f.Ip e;have eo:=yX ex hd;subst eo;refine ST.Ab y g ?_;refine⟨s1.heap.objs.size,[s1.heap.objs.size],_,_,_,rfl,(qx f e g).kept (t':=s1.toks) λb o e=>Zm _ e,D1 d _ rel he,ZV _ M,λb hb=>?_,q _⟩;have n:b=s1.heap.objs.size:=by simpa using hb
 subst n;exact(qx f e g).MZ (Zp _) ((qx f e g).Ip.fresh (Zp _))
end
end L2
end
section
namespace L2
def Ed{α:Type}{b:List α}(d:b.length=n+1):∃a t,b=a :: t/\t.length=n:=by
 obtain⟨a,t,e⟩:=List.exists_cons_of_length_eq_add_one d;subst e;exact⟨a,t,rfl,VI d⟩
def xu{α:Type}{b:List α}(d:b.length=1):∃a,b=[a]:=List.length_eq_one_iff.mp d
def d5{α:Type}{d:List α}(f:d.length=2):∃a b,d=[a,b]:=by
 obtain⟨a,t,rfl,e⟩:=Ed f;obtain⟨b,rfl⟩:=xu e;exact⟨a,b,rfl⟩
def uc{α:Type}{d:List α}(f:d.length=3):∃a b c,d=[a,b,c]:=by
 obtain⟨a,t,rfl,e⟩:=Ed f;obtain⟨b,c,rfl⟩:=d5 e;exact⟨a,b,c,rfl⟩
def HZ{α:Type}{e:List α}(g:e.length=4):∃a b c d,e=[a,b,c,d]:=by
 obtain⟨a,t,rfl,f⟩:=Ed g;obtain⟨b,c,d,rfl⟩:=uc f;exact⟨a,b,c,d,rfl⟩
end L2
end
section
namespace VS
open PySem PySem.Spec PyProof.Rows L2
inductive Res where | ok (v:Val) | ex (x:Str)
inductive U8 where | ok (o:Out) | ex (x:Str) (U:VS.Env)
abbrev ExX:=VS.Env->Option Res
abbrev SxX:=VS.Env->Option U8
end VS
end
section
namespace VS
open PySem PySem.Spec PyProof.Rows L2
section
def jF:Val->Val->Uu
 | (_,.str x),(_,.str y)=>Y (.fr,.bl (!Txt.contains (sx y) (sx x)))
 |_,_=>O
noncomputable def GO(n:Bool):V->V->Hp->VK->Prop:=λx y H Q=>∃u w,x=.str u/\y=.str w/\Q (.bl (n != Txt.contains w u)) H
def qP:OpR X (UV .NotIn) (GO L):=by
 intro d s J H x y v u Q I f e h;obtain⟨z,g,rfl,rfl,q⟩:=h;obtain⟨t,rfl⟩:=f;obtain⟨i,rfl⟩:=e;exact SB.notContains (show EP X d J Q _ s from⟨.bl _,H,I,rfl,by simpa using q⟩)
def pP:d6 G (GO L) jF:=by
 intro Z U h H x y u w j i m t Q d e k;obtain⟨g,x⟩:=x;obtain⟨f,y⟩:=y;obtain⟨same,r1,r2,f1,f2,nd⟩:=d;unfold jF at e;split at e
 ·rename_i e1 e2;cases e1;cases e2;cases e;exact⟨_,_,r1.str_inv.1,r2.str_inv.1,by rw[Bool.true_bne];exact bp k (.bl _)⟩
 ·cases e
def jV:Tells jF:=by
 intro x y m t e;unfold jF at e;split at e
 ·cases e;exact⟨_,rfl⟩
 ·cases e
end
end VS
end
section
namespace TS
open PySem PySem.Spec PyProof.Rows
def wR(o:∀v∈f,∃x t,v=Value.str x t){d:Array Pi}(g:d.Perm (pairsOf f))(p:SortedToK strKind d (pairsOf f).size):((d.map (·.2)).toList.map strOf).Pairwise (λa b=>¬b.cps.toList<a.cps.toList):=by
 obtain⟨n,m⟩:=lK g;rw[Vz,Y5];intro i j r l u;have key:∀i (h:i<(d.map (·.2)).toList.length),KK strKind d i=(strOf (d.map (·.2)).toList[i]).cps.toList:=λi h=>by
  have e:d[i]?=Y ((d.map (·.2)).toList[i],(d.map (·.2)).toList[i]):=by
   rw[← Lj,← m,ZP,Zq h];rfl
  obtain⟨x,t,ex⟩:=o _ (n.mem_iff.mp (Ys h));unfold KK;rw[e];rw[ex];rfl
 have q:=p i j (ZS u) (by rw[← g.size_eq];simpa using l);rw[key i r,key j l]at q;exact of_decide_eq_false q
def qc{A:SC}(y:∀(r:SC)(z:Yx),r.handled=A.handled->PP `ax r (collect x) (λf s1=>(∀v∈f,∃x t,v=Value.str x t)/\f.length<64/\∀(out:W7)(j:XAA)(e:Nat),out.Perm f->(out.map strOf).Pairwise (λa b=>¬b.cps.toList<a.cps.toList)->(∀b o,s1.heap.get? b=Y o->j.get? b=Y o)->j.get? s1.heap.objs.size=Y (seqObj "list" out.toArray e)->Q (.ref s1.heap.objs.size) { s1 with heap:=j }) z s) :
  PP `ax A (call (.builtin "sorted") [x]) Q E s:=by
 refine Calls.call_function_entry kind_sorted plain_sorted entry_sorted (args_sorted1 _) (show PP _ _ (Builtin.«sorted» _) _ _ _ from ?_);unfold Builtin.«sorted»;refine Zu (m:=checkCount "sorted" 1 1 _) (Zn (Zu (Y7 (y A.in1 (λ_ _=>False) M) ?_ λ_ _ e=>e.elim)));rintro d s1 ⟨g,i,h⟩;refine Zu (wpAny_newList ?_ (by show d.length<=KF;rw[WY];omega));have n:(s1.heap.push (seqObj "list" d.toArray 0)).get? s1.heap.objs.size=Y (seqObj "list" d.toArray 0):=ZV _ M;show PP _ _ _ _ _ { s1 with heap:=s1.heap.push (seqObj "list" d.toArray 0) };refine Zu (YE (Xv slot_list_sort ⟨_,n,rfl⟩ entry_list_sort (list_sort_treeK strKind_oneLt n (strsAre_map _ g).keysOf (λD C rest e=>keyKind_strs (by rw[← e];exact strsAre_map _ g)) i λl q u=>⟨_,rfl,?_⟩) (args_list_sort _)));obtain⟨e,he⟩:=sortedHeap_at (out:=(arrOf l).map (·.2)) n;exact Zn ⟨_,rfl,h ((arrOf l).map (·.2)).toList _ e (lK q).1 (wR g q u) (λb o p=>by
  have hb:=ZO p;show (sortedHeap (s1.heap.push (seqObj "list" d.toArray 0)) s1.heap.objs.size d ((arrOf l).map (·.2))).get? b=Y o;rw[sortedHeap_old (Ze hb) (by rw[size_push'];exact Ym hb),XW _ _ _ (Ze hb)];exact p) he⟩
end TS
namespace L2
open PySem PySem.Spec PyProof.Rows TS
section
def jR{X:Cx}(hc:X.calm=L):dm X (.builtin "sorted") (λG H Q=>∃p,∃(d:List Str)(j:List V),G=[.ref p]/\d.length<64/\d.length=j.length/\H p=Y (.dK ((d.map Sum.inr).zip j)) ∧
  ∀(l:KM)(F:List Str),H l=O->F.Perm d->F.Pairwise (λa b=>¬b.cps.toList<a.cps.toList)->Q (.ref l) (upd H l (.lst (F.map V.str)))):=by
 intro f s J H G us Q I U h;obtain⟨p,d,j,rfl,h64,hl,hq,q⟩:=h;obtain⟨u,rfl,Z⟩:=U.one;cases Z;obtain⟨hz,hS,C,rel,E⟩:=tD I.Ip hq;obtain⟨ep,E⟩:=E.dictAt;have z:C.length=d.length:=by
  have:=rel.length;rw[YQ,Zt]at this;lia
 have r:∀i:Nat,(C[i]?).map (λx=>x.1)=(d[i]?).map (Sum.inr:Str->Key):=λi=>by
  have N:((C.map (·.1)))[i]?=(d.map (Sum.inr:Str->Key))[i]?:=by
   rw[← rel.keys];rw[Ux (by rw[Zt];exact X2 hl)]
  rw[ZP,ZP]at N;exact N
 refine TS.qc λA' E' hA=>PySem.W.kdu_collect (PySem.W.kdl_dict hS) (hA.trans (I.ok.hd hc)) E (by rw[YQ,Zt]at hz;lia) λP M acc kp R=>?_;have S:Inv X f J H { s with heap:=P,toks:=M }:=I.kept kp;have A:acc.toList.length=d.length:=by rw[KL,R.1,z]
 have each:∀i v,acc.toList[i]?=Y v->∃x t,v=Value.str x t/\d[i]?=Y x:=λi v g=>by
  rw[Lj]at g;obtain⟨k,x,e1,e2⟩:=R.2 i v g;have e3:=r i;rw[e1]at e3;cases D:d[i]? with
  |none=>rw[D]at e3;cases e3
  |some y =>
   rw[D]at e3;have e5:k=Sum.inr y:=Zh e3;subst e5;obtain⟨t,rfl⟩:=V6 (show Value.isStrOf y v=L from e2);exact⟨y,t,rfl,D⟩
 have g:∀v∈acc.toList,∃x t,v=Value.str x t:=λv o=>by
  obtain⟨i,hi,e⟩:=Ya o;obtain⟨x,t,e1,_⟩:=each i v (by rw[Zq hi,e]);exact⟨x,t,e1⟩
 have es:acc.toList.map strOf=d:=by
  apply Wf;intro i;rw[ZP];cases e:acc.toList[i]? with
  |none =>
   have:acc.toList.length<=i:=YL.mp e;rw[YL.mpr `am];rfl
  |some v =>
   obtain⟨x,t,rfl,e1⟩:=each i v e;rw[e1];rfl
 refine⟨g,by omega,λout h2 e m o2 II he=>?_⟩;have OI:∀v∈out,∃x t,v=Value.str x t:=λv o=>g v (m.mem_iff.mp o);have n:((out.map strOf).map V.str).length<=sizeLine:=by rw[Zt,Zt,m.length_eq,A,WY];omega
 exact⟨.ref P.objs.size,_,S.laid (t':=M) II (Zp _) (show bX X.prog X.w _ h2 _ (.lst ((out.map strOf).map V.str)) from⟨n,out,e,ou OI,he⟩),rfl,q _ _ (S.Ip.fresh (Zp _)) (by rw[← es];exact m.map _) o2⟩
end
end L2
namespace VS
open PySem PySem.Spec PyProof.Rows L2
section
def gI:Uv->Uu
 |[(_,.dct 0 l)]=>(strs? (l.map (·.1))).bind λa=>if a.length<64/\a.all Pb=L then Y (.fr,.lst ((cU a).map .str)) else O
 |_=>O
def yM:fK G (λq H Q=>∃p,∃(d:List Str)(f:List V),q=[.ref p]/\d.length<64/\d.length=f.length/\H p=Y (.dK ((d.map Sum.inr).zip f)) ∧
  ∀(l:KM)(h:List Str),H l=O->h.Perm d->h.Pairwise (λa b=>¬b.cps.toList<a.cps.toList)->Q (.ref l) (upd H l (.lst (h.map V.str)))) gI:=by
 intro Z U E H l f C m t Q A e k;unfold gI at e;split at e
 ·rename_i D x;obtain⟨d,e1,e2⟩:=Zz.mp e;split at e2
  ·rename_i hb;cases e2;obtain⟨v,F,rfl,rfl,r⟩:=(show RpL G H f [.dct 0 x] C from A.rp).one;obtain⟨a,g,o,i,Gs,rfl,rfl,y,j,rfl,u⟩:=eR r;have z:g.length=i.length:=by rw[j,u.len.1]
   have e3:((g.map aS).zip i).map (·.1)=g.map aS:=Ux (by rw[Zt];exact X2 z);rw[e3]at e1;have n:=keys_str e1;refine⟨a,d.map sx,o,rfl,by rw[Zt];exact hb.1,?_,by rw[← n];exact y,rL k A.same λs w=>E2 (Yr.mp hb.2 s w)⟩;rw[← j,n,Zt,Zt,Zt]
  ·cases e2
 ·cases e
def va{X:Cx}(a:X.mg "sorted" = O)(f:Jz G X [e] cs)(b:{`q1,Gl X "sorted"})(g:{`q1,X.K=G.K})(d:{`q1,X.calm=L})(he:{`q1,K1 e [] X}):PV G X (.Call (.Name "sorted" p) [e] [] pos) (eN gI cs) :=
 nr (jR d) yM b a pB f (he:=he) (hpl:=rfl)
end
noncomputable def Pg:T->Bool
 |.bl true=>L
 |_=>B
mutual
def fW:T->Bool
 |.tup l=>cq l
 |.lst l=>cq l
 |.dct _ l=>si l
 |.obj _ l=>hZ l
 |_=>L
def cq:Ut->Bool
 |[]=>L
 |t :: r=>fW t&&cq r
def si:List (T×T)->Bool
 |[]=>L
 | (_,v) :: r=>fW v&&si r
def hZ:List (Nat×T)->Bool
 |[]=>L
 | (n,v) :: r=>(fW v && !(n==0&&Pg v))&&hZ r
end
theorem g7:∀{b:Ut}{a:Ut},b.length=a.length->si (b.zip a)=L->cq a=L
 |[],[],_,_=>rfl
 |_ :: _,[],h,_=>nomatch h
 |[],_ :: _,h,_=>nomatch h
 |k :: b,t :: a,h,e=>by
  have e:=ZU.mp (show (fW t&&si (b.zip a))=L from e);exact ZU.mpr ⟨e.1,g7 (VI h) e.2⟩
theorem hV:∀{b:Vu}{a:Ut},b.length=a.length->hZ (b.zip a)=L->cq a=L
 |[],[],_,_=>rfl
 |_ :: _,[],h,_=>nomatch h
 |[],_ :: _,h,_=>nomatch h
 |k :: b,t :: a,h,e=>by
  have e:=ZU.mp (show ((fW t && !(k==0&&Pg t))&&hZ (b.zip a))=L from e);exact ZU.mpr ⟨(ZU.mp e.1).1,hV (VI h) e.2⟩
section
theorem Rp.at{v:V}(m:Me)(r:Rp G H v t F):fW t=L->Rp (G.at m) H v t F :=
 Rp.rec (G:=G) (H:=H) (motive_1:=λv t F _=>fW t=L->Rp (G.at m) H v t F) (motive_2:=λvs e Fs _=>cq e=L->RpL (G.at m) H vs e Fs)
  (λ_=>.non) (λb _=>.bl b) (λi _=>.int i) (λs h _=>.str s h) (λh _=>.scr h) (λh _ d f=>.tup h (d f)) (λh _ d f=>.lst h (d f))
  (λh l q d f=>.dct h l (d (g7 (by rw[Zt,l];exact q.len.1) f))) (λh l q d f=>.dctT h l (d (g7 (by rw[Zt,l];exact q.len.1) f)))
  (λh l n q d f=>.dctN h l n (d (g7 (by rw[Zt,l];exact q.len.1) f))) (λh l q d f=>.dctZ h l (d (g7 (by rw[Zt,l];exact q.len.1) f))) (λh p _=>.exc h p)
  (λ{c a w b g vs e Fs} h l u q d f=>by
   have f:=ZU.mp (show ((fW (.bl b) && !((0:Nat)==0&&Pg (.bl b)))&&hZ (g.zip e))=L from f);have hb:b=B:=by
    cases b with
    |false=>rfl
    |true=>exact nomatch f.1
   refine .ins h l (λz=>?_) (d (hV (by rw[l];exact q.len.1) f.2));rw[hb]at z;cases z)
  (λ_ _ _ f=>nomatch f)
  (λ_=>.nil) (λ_ _ o j f=>by
   have f:=ZU.mp f;exact .cons (o f.1) (j f.2)) r
theorem RpL.at(m:Me):∀{vs:List V}{a:Ut}{Fs:Xz},RpL G H vs a Fs->cq a=L->RpL (G.at m) H vs a Fs:=by
 intro vs a
 induction a generalizing vs with
 |nil=>intro Fs r f;cases r;exact .nil
 |cons t a b =>
  intro Fs r f;cases r with
  |cons r q=>exact .cons (r.at m (ZU.mp f).1) (b q (ZU.mp f).2)
mutual
theorem nW:∀t:T,Ir t=L->fW t=L
 |.non,_=>rfl
 |.bl _,_=>rfl
 |.int _,_=>rfl
 |.str _,_=>rfl
 |.scr _,_=>rfl
 |.tup l,h=>uX l h
 |.lst _,h=>by cases h
 |.dct _ _,h=>by cases h
 |.obj _ _,h=>by cases h
theorem uX:∀l:Ut,dJ l=L->cq l=L
 |[],_=>rfl
 |t :: l,h=>by
  have h:=ZU.mp h;exact ZU.mpr ⟨nW t h.1,uX l h.2⟩
end
end
def wJ(k:Nat):T->Option T
 |.obj (_+1) (_ :: fs)=>(fs.findIdx? λp=>p.1==k).bind λi=>(fs[i]?).map (·.2)
 |_=>O
def bF(k:Nat)(a:Ex):Ex:=λU=>(a U).bind λx=>(wJ k x.2).map λt=>sub x.1 t
section
def w_fld{X:Cx}(Jq:lh G)(F:Kb G X.K k f)(ha:PV G X a ca)(C:{`q7,XAC a f X.env (eval a X.env)=eval a X.env}):PV G X (.Attribute a f pos) (bF k ca) :=
 PE.weak (zO ha C) λJ H Q hq=>by
  obtain⟨Z,U,m,t,s,e,kq⟩:=hq;unfold bF at e;obtain⟨⟨mx,y⟩,ea,e1⟩:=Zz.mp e;obtain⟨z,d,e2⟩:=Zy.mp e1;refine⟨Z,U,mx,y,s,ea,λv H' F' sm r1 f1=>?_⟩;unfold wJ at d;split at d
  ·rename_i c q0 fs w;dsimp only at w;subst w;obtain⟨j,E,e3⟩:=Zz.mp d;obtain⟨p,D,e4⟩:=Zy.mp e3;subst e4;obtain⟨c',a,dx,b,ns,vs,q,Fs,ec,rfl,rfl,rfl,rfl,hA,A,C,r⟩:=gC r1;cases ec;have MO:ns.length=q.length:=A.trans r.len.1;obtain⟨l,g,N,M,g3,g4⟩:=kS (λn=>n==k) MO E;have ek:l=k:=by simpa using g3
   subst ek;have ep:p=(l,g):=by
    have:(ns.zip q)[j]?=Y (l,g):=by rw[Xi];exact⟨N,M⟩
    rw[this]at D;exact(Zh D).symm
   subst ep;obtain⟨u,Fi,S,R,h⟩:=r.get j M;have P:=sE (G:=G) (c:=c+1) Jq A E N S;rw[F.nm c]at P;refine⟨a,_,dx,_,u,rfl,hA,F.cl c,F.no c,P,?_⟩;have fp:=((f1.sub (Yd _ _)).sub (cn R)).up h;unfold VS.sub at e2;rw[e2]at fp;have et:g=t:=congrArg Prod.snd e2;rw[et]at h;exact kq u H' Fi sm h fp
  ·cases d
def rW(i k:Nat)(e:Ex)(U:VS.Env):Option Out:=(e U).bind λv=>match U[i]? with
 |some (some (.ow (.obj (c+1) (q :: fs))))=>(fit v).bind λt=>if fs.length<900/\(fs.all λp=>!(p.1==k))=L then Y (.nx (U.set i (Y (.ow (.obj (c+1) (q :: (fs++[(k,t)]))))))) else O
 |_=>O
theorem sH{g:Nat->Str}{k:Nat}{v:V}(n:∀k m:Nat,g k=g m->k=m):∀{b:Vu}{d:List V}{j:Ut},b.length=d.length->b.length=j.length->((b.zip j).all λp=>!(p.1==k))=L->iK (g k) v ((b.map g).zip d)=((b++[k]).map g).zip (d++[v])
 |[],[],_,_,_,_=>rfl
 |[],_ :: _,_,h,_,_=>by simp at h
 |_ :: _,[],_,h,_,_=>by simp at h
 |_ :: _,_ :: _,[],_,h,_=>by simp at h
 |q :: b,t :: d,u :: j,s,r,l=>by
  rw[ZF,WU,YM]at l;have ne:g q≠g k:=λz=>by
   have:=n _ _ z;subst this;simp at l
  rw[Zc,ZF,iK,Zl ne,sH n (by simpa using s) (by simpa using r) l.2];rfl
def uf{X:Cx}{pos:Pos}(i k:Nat)(Jq:lh G)(F:Kb G X.K k f)(he:PV G X e ce)(hN:X.N[i]?=Y x)(hv:Kf X.env.scope x)(hd:K3 x)(C:K4 x)(hs:swapsWith e (Y (.Attribute (.Name x p1) f pos')) pos.line X.env=pure B):PSV G X (.Assign [.Attribute (.Name x p1) f pos'] e pos) (rW i k ce) :=
 PS.weak (Ee (d8 hN hv hd C) he hs) λD J H hq=>by
  obtain⟨Z,U,out,s,e,kq⟩:=hq;unfold rW at e;obtain⟨⟨mv,h⟩,ev,e⟩:=Zz.mp e;split at e
  ·rename_i c q0 fs w;obtain⟨t,et,e⟩:=Zz.mp e;have em:=kD et;cases em;split at e
   ·rename_i l;cases e;obtain⟨v,S,g2⟩:=s.rp _ _ w;refine⟨Z,U,.fr,h,s,ev,λy Q R q ry n=>⟨v,S,?_⟩⟩;obtain⟨c',a,M,b,ns,p,j,Fs,ec,rfl,rfl,rfl,eF,E,A,hb,r⟩:=gC g2;cases ec;have nd:=s.nd i _ w;rw[eF]at nd;have P:=ZY.mp nd;have IJ:Q a=Y (.ins (G.ct (c+1)).1 M ((ns.map (G.ct (c+1)).2).zip p)):=q a _ E;have u:Iy (Q a):=by rw[IJ];exact True.intro
    have MO:ns.length=j.length:=A.trans r.len.1;have na:a∉R:=λz=>by rw[n.2 a z]at E;cases E
    have ln:((ns.map (G.ct (c+1)).2).zip p).length<1000:=by
     have:=l.1;rw[YQ]at this ⊢;rw[Zt];lia
    refine⟨a,_,M,_,rfl,IJ,F.cl c,F.no c,ln,?_⟩;have ep:=sH (g:=(G.ct (c+1)).2) (k:=k) (v:=y) (Jq (c+1)) A MO l.2;rw[F.nm c]at ep;rw[ep];have off:∀d∈Fs.flatten,d∉R:=λd hb hw=>Iy.oe (r.IH d hb) (n.2 d hw);have g:Chg G H (.ref a) (Z i) (.obj (c+1) ((0,.bl b) :: (ns.zip j++[(k,h)]))) (upd Q a (.ins (G.ct (c+1)).1 M (((ns++[k]).map (G.ct (c+1)).2).zip (p++[y])))) (a :: (Fs++[R]).flatten):=by
     rw[eF,show ns.zip j++[(k,h)]=(ns++[k]).zip (j++[h]) from by rw[List.zip_append MO];rfl];refine Chg.upd q Zx u (.ins aw (by simp[A]) hb (((r.same q).off u P.1).append (.cons (ry.keep (Kept.upd (.inl u)) λd hb o ho=>by rw[aE (λz=>na (by rw[← z];exact hb))];exact ho) .nil))) ?_ ?_
     ·rw[Yo];refine ZY.mpr ⟨λm=>?_,ZG.mpr ⟨P.2,by simpa using n.1,λb hb c l z=>?_⟩⟩
      ·rcases Zi.mp m with m | m
       ·exact P.1 m
       ·exact na (by simpa using m)
      ·subst z;exact off b hb (by simpa using l)
     ·intro d hb;rcases Zj.mp hb with rfl | hb
      ·exact .inl Zx
      ·rw[Yo]at hb;rcases Zi.mp hb with hb | hb
       ·exact .inl (Zv _ hb)
       ·exact .inr (n.2 d (by simpa using hb))
    obtain⟨z1,z2⟩:=s.mut w S g;exact kq _ J _ z1 z2
   ·cases e
  ·cases e
end
noncomputable abbrev uk:=List (Nat×T)
noncomputable def Lw(a:KM):Me:=λk=>if k=0 then Y (.ref a) else O
abbrev Mt:=uk->Ut->Option (uk×T)
noncomputable def Jf:List Bool->Xz->Wp
 |b :: bs,F :: a=>(if b then F else [])++Jf bs a
 |_,_=>[]
noncomputable def Lo:List Bool->Xz->Wp
 |b :: bs,F :: a=>(if b then [] else F)++Lo bs a
 |_,_=>[]
theorem gq:∀{mv:List Bool}{e:Xz}{j:Nat}{F:Wp},mv[j]?=Y L->e[j]?=Y F->F.Sublist (Jf mv e)
 |[],_,_,_,h,_=>by simp at h
 |_ :: _,[],_,_,_,h=>by simp at h
 |b :: bs,f :: e,0,F,d,a=>by
  simp at d a;subst d a;rw[Jf,Zo M];exact Wz _ _
 |b :: bs,f :: e,j+1,F,d,a=>by
  rw[Jf];exact(gq (by simpa using d) (by simpa using a)).trans (Xj _ _)
theorem qo:∀{mv:List Bool}{e:Xz}{j:Nat}{F:Wp},mv[j]?=Y B->e[j]?=Y F->F.Sublist (Lo mv e)
 |[],_,_,_,h,_=>by simp at h
 |_ :: _,[],_,_,_,h=>by simp at h
 |b :: bs,f :: e,0,F,d,a=>by
  simp at d a;subst d a;rw[Lo];exact Wz _ _
 |b :: bs,f :: e,j+1,F,d,a=>by
  rw[Lo];exact(qo (by simpa using d) (by simpa using a)).trans (Xj _ _)
theorem vB:∀{mv:List Bool}{d:Xz}{i j:Nat}{F m:Wp},(Jf mv d).Nodup->mv[i]?=Y L->mv[j]?=Y L->d[i]?=Y F->d[j]?=Y m->i≠j->∀a∈F,a∉m
 |[],_,_,_,_,_,_,h,_,_,_,_=>by simp at h
 |_ :: _,[],_,_,_,_,_,_,_,h,_,_=>by simp at h
 |b :: bs,q :: d,0,0,F,m,_,_,_,_,_,n=>absurd M n
 |b :: bs,q :: d,0,j+1,F,m,nd,l,g,f,e,n=>λa o p=>by
  simp at l f;subst l f;rw[Jf,Zo M,ZG]at nd;exact nd.2.2 a o a ((gq (by simpa using g) (by simpa using e)).subset p) M
 |b :: bs,q :: d,i+1,0,F,m,nd,l,g,f,e,n=>λa o p=>by
  simp at g e;subst g e;rw[Jf,Zo M,ZG]at nd;exact nd.2.2 a p a ((gq (by simpa using l) (by simpa using f)).subset o) M
 |b :: bs,q :: d,i+1,j+1,F,m,nd,l,g,f,e,n=>by
  rw[Jf,ZG]at nd;exact vB nd.2.1 (by simpa using l) (by simpa using g) (by simpa using f) (by simpa using e) `am
theorem vv:∀{mv:List Bool}{d:Xz}{a:KM},a∈Jf mv d->∃(j:Nat)(F:Wp),mv[j]?=Y L/\d[j]?=Y F/\a∈F
 |[],_,_,h=>by simp[Jf]at h
 |_ :: _,[],_,h=>by simp[Jf]at h
 |b :: bs,i :: d,a,h=>by
  rw[Jf]at h;rcases Zi.mp h with h | h
  ·cases b with
   |true=>exact⟨0,i,rfl,rfl,h⟩
   |false=>simp at h
  ·obtain⟨j,F,g,f,e⟩:=vv h;exact⟨j+1,F,by simpa using g,by simpa using f,e⟩
noncomputable def je(b:Bool)(t:T):Uw:=Y (if b then .ow t else .pu t)
def yJ(c:Nat)(U:VS.Env):Option uk:=match (U[(0:Nat)]?:Option (Uw)) with
 |some (some (.ow (.obj a ((0,.bl true) :: fs))))=>if a=c+1 then Y fs else O
 |_=>O
def Lv(c d f:Nat)(e:List Bool)(body:Sx):Mt:=λfs a=>if a.length+1=d/\e.length=a.length then
 (body ((Y (.ow (.obj (c+1) ((0,.bl L) :: fs))) :: List.zipWith je e a)++List.replicate (f-d) O)).bind λo=>match o with
  |.rt v U=>(yJ c U).bind λb=>if Ir v.2 then Y (b,v.2) else O
  |.nx U=>(yJ c U).map λb=>(b,.non)
  |_=>O else O
def NA(G:Gx)(c:Nat)(d:List Bool)(g:Mt):Sp:=λl H Q _=>∃(a:KM)(i:List V)(fs:uk)(f:Ut)(F:Wp)(e:Xz)(j:uk)(x:T),l=.ref a :: i/\Rp (G.at (Lw a)) H (.ref a) (.obj (c+1) ((0,.bl L) :: fs)) F ∧
 RpL (G.at (Lw a)) H i f e/\d.length=f.length/\(F++Jf d e).Nodup/\(∀b∈F++Jf d e,b∉Lo d e)/\g fs f=Y (j,x) ∧
 ∀u h m,Chg (G.at (Lw a)) H (.ref a) (F++Jf d e) (.obj (c+1) ((0,.bl L) :: j)) h m->Rp (G.at (Lw a)) h u x []->Q u h
section
def sJ{mv:List Bool}(r0:Rp G H v t F)(r:RpL G H D d f)(hm:mv.length=d.length)(s:(F++Jf mv f).Nodup)(U:∀b∈F++Jf mv f,b∉Lo mv f)(n X:Nat)(hn:X=D.length+1) :
  SR G (λi=>(F :: f).getD i []) ((Y (.ow t) :: List.zipWith je mv d)++List.replicate (n-(d.length+1)) O) ((v :: D).map Y++List.replicate (n-X) O) H ∧
  ∀a,bB (λi=>(F :: f).getD i []) ((Y (.ow t) :: List.zipWith je mv d)++List.replicate (n-(d.length+1)) O) a->a∈F++Jf mv f:=by
 subst hn;have hl:=r.len;have J:(List.zipWith je mv d).length=d.length:=by rw[List.length_zipWith,hm,Wi]
 have back:∀{i:Nat}{c:Cell},((Y (Cell.ow t) :: List.zipWith je mv d)++List.replicate (n-(d.length+1)) O)[i]?=Y (Y c)->(i=0/\c=.ow t)\/∃(j:Nat)(b:Bool)(u:T),i=j+1/\mv[j]?=Y b/\d[j]?=Y u/\c=(if b then .ow u else .pu u):=λ{i c} h=>by
  cases i with
  |zero=>exact .inl ⟨rfl,(Zh (Zh h)).symm⟩
  |succ j =>
   rw[YB,Vs]at h;by_cases E:j<d.length
   ·rw[Mu (by rw[J];exact E),List.getElem?_zipWith]at h;have e1:mv[j]?=Y mv[j]:=Zq (by rw[hm];exact E);have e2:d[j]?=Y d[j]:=Zq E;rw[e1,e2]at h;exact .inr ⟨j,_,_,rfl,e1,e2,(Zh (Zh h)).symm⟩
   ·rw[Mv (by rw[J];exact ZK E),Xr]at h;split at h<;>cases h
 have fp:∀{j:Nat}{u:T},d[j]?=Y u->∃w q,D[j]?=Y w/\f[j]?=Y q/\Rp G H w u q:=λ{j u} h=>r.get j h;have ow:∀{i:Nat}{u:T},((Y (Cell.ow t) :: List.zipWith je mv d)++List.replicate (n-(d.length+1)) O)[i]?=Y (Y (.ow u))->i=0\/∃j:Nat,i=j+1/\mv[j]?=Y L/\d[j]?=Y u:=λ{i u} h=>by
  rcases back h with⟨o,g⟩ | ⟨j,b,S,o,g,m,x⟩
  ·exact .inl o
  ·cases b with
   |true=>cases x;exact .inr ⟨j,o,g,m⟩
   |false=>cases x
 rw[ZG]at s;refine⟨⟨?_,λi c h=>?_,λi u h=>?_,λi j u c o g n=>?_⟩,λa ⟨i,u,o,g⟩=>?_⟩
 ·simp[J];lia
 ·rcases back h with⟨rfl,rfl⟩ | ⟨j,b,u,rfl,g,m,x⟩
  ·exact⟨v,rfl,r0⟩
  ·obtain⟨w,q,y,e,A⟩:=fp m;refine⟨w,?_,?_⟩
   ·rw[Zc,YB,Vs,Mu (by rw[Zt];exact(ZW.mp y).1),ZP,y];rfl
   ·show Rp G H w (iF c) ((F :: f).getD (j+1) []);rw[Xd,Zr,e,x];cases b<;>exact A
 ·rcases ow h with rfl | ⟨j,rfl,g,m⟩
  ·exact s.1
  ·obtain⟨w,q,y,e,A⟩:=fp m;show ((F :: f).getD (j+1) []).Nodup;rw[Xd,Zr,e];exact s.2.1.sublist (gq g e)
 ·rcases ow o with rfl | ⟨Z,rfl,R,a3⟩
  ·rcases back g with⟨rfl,_⟩ | ⟨P,b,S,rfl,C,Q,_⟩
   ·exact absurd M n
   ·obtain⟨w,q,y,e,A⟩:=fp Q;intro a l;show a∉(F :: f).getD (P+1) [];rw[Xd,Zr,e];intro p;cases b with
    |true=>exact s.2.2 a l a ((gq C e).subset p) M
    |false=>exact U a (LH _ l) ((qo C e).subset p)
  ·obtain⟨w,Fi,y,e,A⟩:=fp a3;have ei:(F :: f).getD (Z+1) []=Fi:=by rw[Xd,Zr,e];rfl
   show ∀a∈(F :: f).getD (Z+1) [],_;rw[ei];rcases back g with⟨rfl,_⟩ | ⟨P,b,S,rfl,C,Q,_⟩
   ·exact λa l p=>s.2.2 a p a ((gq R e).subset l) M
   ·obtain⟨w',q,k1,N,k3⟩:=fp Q;intro a l;show a∉(F :: f).getD (P+1) [];rw[Xd,Zr,N];intro p;cases b with
    |true=>exact vB s.2.1 R C e N (λz=>n (by rw[z])) a l p
    |false=>exact U a (ZX _ ((gq R e).subset l)) ((qo C N).subset p)
 ·rcases ow o with rfl | ⟨j,rfl,m,x⟩
  ·exact LH _ g
  ·obtain⟨w,q,y,e,A⟩:=fp x;have KP:a∈(F :: f).getD (j+1) []:=g;rw[Xd,Zr,e]at KP;exact ZX _ ((gq m e).subset KP)
def x6(h:yJ c U=Y a):U[0]?=Y (Y (.ow (.obj (c+1) ((0,.bl L) :: a)))):=by
 unfold yJ at h;split at h
 ·rename_i d f e;split at h
  ·rename_i b;cases h;rw[e,b]
  ·cases h
 ·cases h
end
section
variable{K:X0}
def HS{G:Gx}{X:List Str}(ok:∀{sp:Sp},(∀l H Q E,sp l H Q E->l.length=X.length)->(∀(x:On)(A:SC)(outer:List PySem.Env)(s:IR)(H:Hp)(l:List V)(Q:VK)(E:XK),Im k (A.deeper (envOfC d (aq C) s.heap.objs.size f x))->sp l H Q E →
   ∃t,Kp (jC Jk P w K mg base N d (aq C) f x A outer s H E).LP (bq C) t/\t { nx:=λ_ j=>Q .non j,rt:=Q } (L2.start N l) H)->FnOk P w K mg base Jk (k+1) f fd X sp)(hp:X.length=np)(hn:N.length=R)(hb:∀(a:KM)(x:On)(A:SC)(outer:List PySem.Env)(s:IR)(H:Hp)(E:XK),Im k (A.deeper (envOfC d (aq C) s.heap.objs.size f x))->gE (G.at (Lw a)) (jC Jk P w K mg base N d (aq C) f x A outer s H E).LP (bq C) m) :
  FnOk P w K mg base Jk (k+1) f fd X (NA G c Z (Lv c np R Z m)):=by
 refine ok (λl H Q E h=>?_) λx A outer s H l Q E hr h=>?_
 ·obtain⟨a,J,fs,ts,F,Fs,Kn,y,rfl,r0,r,hm,nd,sp,e,q⟩:=h;unfold Lv at e;split at e
  ·rename_i hl;rw[Zg,r.len.1,hl.1,hp]
  ·cases e
 ·obtain⟨a,J,fs,ts,F,Fs,Kn,y,rfl,r0,r,hm,nd,sp,e,q⟩:=h;refine⟨_,hb a x A outer s H E hr,?_⟩;unfold Lv at e;split at e
  ·rename_i hl;obtain⟨o,e1,e2⟩:=Zz.mp e;obtain⟨s0,L8⟩:=sJ r0 r hm nd sp R (J.length+1) M;rw[hl.1]at s0 L8;have e3:L2.start N (V.ref a :: J)=(V.ref a :: J).map Y++List.replicate (R-(J.length+1)) O:=by
    unfold L2.start;rw[hn];rfl
   rw[e3];have fin:∀{n:VS.Env}{p:Iw}{J':L2.St}{j:Hp},yJ c n=Y Kn->SR (G.at (Lw a)) p n J' j->IE (λi=>(F :: Fs).getD i []) ((Y (.ow (.obj (c+1) ((0,.bl L) :: fs))) :: List.zipWith je Z ts)++List.replicate (R-np) O) H p n j →
     Chg (G.at (Lw a)) H (.ref a) (F++Jf Z Fs) (.obj (c+1) ((0,.bl L) :: Kn)) j (p 0):=λ{n p J' j} TR D fr=>by
    have h0:=x6 TR;obtain⟨v',g1,g2⟩:=D.rp 0 _ h0;have Pr:Rp (G.at (Lw a)) j v' (.obj (c+1) ((0,.bl L) :: Kn)) (p 0):=g2;obtain⟨c',a',dx,b,ns,l,Jv,JU,ec,rfl,eb,_,eF,hA,hl',g,ra⟩:=gC Pr;have OV:b=L:=by cases eb;rfl
    have ea:Y (V.ref a)=Y (V.ref a'):=g OV;cases ea;refine⟨fr.kept,λU o' g ho=>(fr.keep U o' ho λz=>g (L8 U z)).1,fr.IH,Pr,D.nd 0 _ h0,λU g=>?_⟩;rcases fr.ow U ⟨0,_,h0,g⟩ with z | z
    ·exact .inl (L8 U z)
    ·exact .inr z
   refine⟨_,_,o,s0,e1,?_⟩;cases o with
   |nx n =>
    obtain⟨fs2,e4,S⟩:=Zy.mp e2;cases S;intro p J' j D fr;exact q .non j _ (fin e4 D fr) .non
   |rt v n =>
    obtain⟨fs2,e4,S⟩:=Zz.mp e2;split at S
    ·rename_i hi;cases S;intro u j F' p J' D fr r' rf;have:=r'.Ir hi;subst this;exact q u j _ (fin e4 D fr) r'
    ·cases S
   |bk n=>cases e2
   |ct n=>cases e2
  ·cases e
def fnM{G:Gx}(F:IP K x d g f n)(S:Il N h (aq g))(p:h.length=i)(q:N.length=j)(r:∀(a:KM)(o:On)(A:SC)(outer:List PySem.Env)(s:IR)(H:Hp)(E:XK),Im k (A.deeper (envOfC d (aq g) s.heap.objs.size f o))->gE (G.at (Lw a)) (jC Jk P w K mg base N d (aq g) f o A outer s H E).LP (bq g) e) :
  FnOk P w K mg base Jk (k+1) f n h (NA G c m (Lv c i j m e)):=HS (λl b=>F.ok S l b) p q r
end
def argsOk:List Bool->Uv->Bool
 |[],[]=>L
 |b :: bs,v :: a=>(if b then v.1 == .fr else Ir v.2)&&argsOk bs a
 |_,_=>B
def vW(c:Nat)(e:List Bool)(g:Mt)(a:Uv):T->Option (T×Val)
 |.obj d ((0,.bl b) :: fs)=>if d=c+1/\hZ fs=L/\argsOk e a=L/\cq (trees a)=L then (g fs (trees a)).bind λz=>if hZ z.1=L/\Ir z.2=L then Y (.obj d ((0,.bl b) :: z.1),(.fr,z.2)) else O else O
 |_=>O
def b9(i:Nat)(a:List Ll)(c:Nat)(d:List Bool)(g:Mt)(f:IZ)(U:VS.Env):Option (Val×VS.Env):=match (U[i]?:Option (Uw)) with
 |some (some (.ow t))=>(keys a U).bind λe=>(f U).bind λb=>(pm (vW c d g b) e t).map λz=>(z.2,U.set i (Y (.ow z.1)))
 |_=>O
def tX(G:Gx)(x:Xx):TE:=λJ H Q=>∃Z U v b,SR G Z U J H/\x U=Y (v,b)/\Ir v.2=L/\∀u a d,SR G d b J a->IE Z U H d b a->Rp G a u v.2 []->Q u a
def PX(G:Gx)(X:Cx)(e:Expr)(x:Xx):Prop:=PE X e (tX G x)
theorem nu:∀{mv:List Bool}{a:Uv},argsOk mv a=L->mv.length=a.length
 |[],[],_=>rfl
 |[],_ :: _,h=>nomatch h
 |_ :: _,[],h=>nomatch h
 |b :: bs,v :: d,h=>by
  have h:=ZU.mp h;rw[Zg,Zg,nu h.2]
theorem sN:∀{mv:List Bool}{d:Uv}{Fs:Xz},argsOk mv d=L->(Jf mv Fs).Sublist (JB d Fs)
 |[],[],_,_=>by simp[Jf]
 |[],_ :: _,_,h=>nomatch h
 |_ :: _,[],_,h=>nomatch h
 |b :: bs,v :: e,[],h=>by simp[Jf]
 |b :: bs,(m,t) :: e,F :: Fs,h=>by
  have h:=ZU.mp h;have a:=sN (Fs:=Fs) h.2;rw[Jf];cases b with
  |true =>
   have:m=.fr:=by simpa using h.1
   subst this;exact List.Sublist.append (Wc _) a
  |false =>
   rw[Zl Zd,Yc];cases m with
   |fr=>exact a.trans (Xj _ _)
   |pu=>exact a
   |bo=>exact a
theorem v9:∀{mv:List Bool}{a:Uv}{e:List V}{d:Xz},argsOk mv a=L->RpL G H e (trees a) d->Lo mv d=[]
 |[],[],_,_,_,_=>by simp[Lo]
 |[],_ :: _,_,_,h,_=>nomatch h
 |_ :: _,[],_,_,h,_=>nomatch h
 |b :: bs,(m,t) :: g,_,_,h,r=>by
  have h:=ZU.mp h;cases r with
  |cons f q =>
   rw[Lo,v9 h.2 q,ZE];cases b with
   |true=>rfl
   |false=>exact f.Ir (by simpa using h.1)
def BM(h:argsOk e d=L)(f:NU Z U H d m):∀a∈Jf e m,H a=O:=λa o=>by
 obtain⟨j,F,g,q,p⟩:=vv o;have key:∀{e:List Bool}{d:Uv}{j:Nat},argsOk e d=L->e[j]?=Y L->∃v,d[j]?=Y v/\v.1=.fr:=by
  intro e
  induction e with
  |nil=>intro d j _ h;simp at h
  |cons b bs n =>
   intro d j h g;cases d with
   |nil=>exact nomatch h
   |cons v r =>
    have h:=ZU.mp h;cases j with
    |zero =>
     simp at g;subst g;exact⟨v,rfl,by simpa using h.1⟩
    |succ j =>
     obtain⟨w,l,i⟩:=n h.2 (by simpa using g);exact⟨w,by simpa using l,i⟩
 obtain⟨v,l,i⟩:=key h g;have:=f.each j v F l q;rw[i]at this;exact this.2 a p
section
def yG{t:TA}(Jq:lh G)(hn:∀k,(G.ct (c+1)).2 k≠m)(ht:∀Z U p J H (R:List V->Hp->Prop),SR G Z U J H->cs U=Y p->(∀d l P,aM H l->RpL G l d (trees p) P->NU Z U H p P->R d l)->t J H R)(h:tX G (b9 i way c mv g cs) J H Q):vz (G.ct (c+1)).1 m (NA G c mv g) [] E (RS G i way) t J H Q:=by
 obtain⟨Z,U,v,U',s,e,MW,kq⟩:=h;unfold b9 at e;split at e
 ·rename_i t0 M;obtain⟨ks,ek,e3⟩:=Zz.mp e;obtain⟨p,el,e4⟩:=Zz.mp e3;obtain⟨⟨t',x2⟩,e5,e6⟩:=Zy.mp e4;cases e6;obtain⟨v0,h1,h2⟩:=s.rp _ _ M;obtain⟨w,x,F1,x3,w1,w2,w3,q,w5⟩:=nF ks Jq h2 (s.nd i t0 M) e5;unfold vW at q;split at q
  ·rename_i c1 b fs;split at q
   ·rename_i hc;obtain⟨rfl,MU,N,Ul⟩:=hc;obtain⟨⟨Kn,y⟩,eg,e7⟩:=Zz.mp q;split at e7
    ·rename_i QM;cases e7;obtain⟨c',a,dx,b',ns,d,S,P,ec,rfl,eb,rfl,eF,hA,hl,hb,ra⟩:=gC w2;cases ec;cases eb;have MO:ns.length=S.length:=hl.trans ra.len.1;refine⟨Z,U,t0,ks,v0,.ref a,s,M,h1,ek,w1,λH1 F=>⟨a,dx,_,rfl,F a _ hA,?_,?_⟩⟩
     ·have key:∀(ns:Vu)(d:List V),((ns.map (G.ct (c+1)).2).zip d).lookup m=O:=by
       intro ns
       induction ns with
       |nil=>intro d;simp
       |cons n ns ih =>
        intro d;cases d with
        |nil=>simp
        |cons v d =>
         rw[Zc,ZF,YO];have:(m==(G.ct (c+1)).2 n)=B:=by
          rw[KS];exact λz=>hn n z.symm
         rw[this];exact ih d
      exact key ns d
     ·refine ht Z U p J H1 _ (s.same F) el λus H2 Gs JN RV Su=>?_;have A:aM H H2:=F.trans JN;have fp0:NU Z U H p Gs:=⟨λn v' D a1 a2=>(Su.each n v' D a1 a2).back F,Su.nd⟩
      have Ti:=BM N fp0;have ra2:RpL (G.at (Lw a)) H2 d S P:=(ra.same A).at (Lw a) (hV MO MU);refine⟨a,us,ns.zip S,trees p,F1,Gs,Kn,y,by rw[ZE],?_,RV.at (Lw a) Ul,?_,?_,?_,eg,λu l D r ru=>?_⟩
      ·rw[eF];exact .ins (A a _ hA) hl (λ_=>rfl) ra2
      ·rw[nu N];simp[trees]
      ·refine ZG.mpr ⟨w3,Su.nd.sublist (sN N),λj C b2 Ui z=>?_⟩;subst z;exact Iy.oe (w2.IH j C) (Ti j Ui)
      ·rw[v9 N RV];exact λj _ z=>nomatch z
      ·have back:Rp G l (.ref a) (.obj (c+1) ((0,.bl b) :: Kn)) D:=by
        obtain⟨c2,a2,dx2,b2,ns2,vs2,ts2,Fs2,Ro,UW,eb2,UU,UX,Sq,J0,Ui,Nb⟩:=gC r.rp;cases Ro;cases UW;subst UU;rw[UX];exact .ins Sq J0 hb (Nb.at G.me (hV (J0.trans Nb.len.1) QM.1))
       have gG:Chg G H (.ref a) F1 (.obj (c+1) ((0,.bl b) :: Kn)) l D:=⟨(Kept.of A).trans r.kept,λj o1 C ho=>r.keep j o1 (λz=>(Zi.mp z).elim C λz=>by rw[Ti j z]at ho;cases ho) (A j o1 ho),λj h=>r.IH j λz=>h (A.free z),back,r.nd,λj C=>by
        rcases r.sub j C with z | z
        ·rcases Zi.mp z with z | z
         ·exact .inl z
         ·exact .inr (Ti j z)
        ·exact .inr (A.free z)⟩
       obtain⟨F2,g2⟩:=w5 l D gG;obtain⟨z1,z2⟩:=s.mut M h1 g2;exact kq u l _ z1 z2 (ru.at G.me (nW y QM.2))
    ·cases e7
   ·cases q
  ·cases q
 ·cases e
def Cc(z:lh G)(p:∀k,(G.ct (c+1)).2 k≠m)(n:LJ G X o i way)(u:Kh X.K (G.ct (c+1)).1)(q:Meth X.K (G.ct (c+1)).1 m f)(F:FnOk X.prog X.w X.K X.mg X.base Jk k f fd ps (NA G c mv g))(l:Im k' X.A)(r:k<=k')(v:Binds X.K fd ps [])(x:Jz G X (e :: es) cs)(y:K1 e es X)(a:K2 pos es X)(j:eval (.Call (.Attribute o m apos) (e :: es) [] pos) X.env=(do
   let ov ← eval o X.env
   standAt apos.atName
   let (f,first) ← holding [ov] (getMethod ov m d)
   callWith pos f first (backTo pos (Pv (e :: es) X.env)) (backToKw pos (SZ [] X.env)))):PX G X (.Call (.Attribute o m apos) (e :: es) [] pos) (b9 i way c mv g cs) :=
 PE.weak (v7 (E:=E0) n u q F (l.mono r) v .nil oW x y a j) λJ H Q h=>yG (t:=PL G cs) z p (λZ U b J H R s e k=>⟨Z,U,b,s,e,k⟩) h
def PQ(x:Xx):Sx:=λU=>(x U).bind λz=>if Ir z.1.2 then Y (.nx z.2) else O
def cp(j:Nat)(x:Xx):Sx:=λU=>(x U).bind λz=>if Ir z.1.2=L/\j<z.2.length then Y (.nx (z.2.set j (Y (.pu z.1.2)))) else O
def kN(x:Xx):Sx:=λU=>(x U).bind λz=>if Ir z.1.2 then Y (.rt (.fr,z.1.2) z.2) else O
def tR{pos:Pos}(h:PX G X e x)(n:swapsWith e O pos.line X.env=pure B):PSV G X (.Expr e pos) (PQ x) :=
 PS.weak (ku h n) λD J H b=>by
  obtain⟨Z,U,out,s,e,k⟩:=b;unfold PQ at e;obtain⟨⟨v,l⟩,e1,e2⟩:=Zz.mp e;split at e2
  ·rename_i d;cases e2;exact⟨Z,U,v,l,s,e1,d,λu p j a f r=>k j J p a f⟩
  ·cases e2
def vF(h:PX G X e x):PSV G X (.Return (Y e) pos) (kN x) :=
 PS.weak (qu h) λD J H d=>by
  obtain⟨Z,U,out,s,e,k⟩:=d;unfold kN at e;obtain⟨⟨v,n⟩,e1,e2⟩:=Zz.mp e;split at e2
  ·rename_i j;cases e2;exact⟨Z,U,v,n,s,e1,j,λu p l b f r=>k u p [] l J b f r ⟨Yt,λa h=>nomatch h⟩⟩
  ·cases e2
def cM{pos:Pos}(h:PX G X e x)(C:X.N.Nodup)(l:X.N[j]?=Y d)(w:Loc X.env.scope d)(y:{`q7,swapsWith e (Y (.Name d b)) pos.line X.env=pure B})(A:X.fn d=L\/X.env.scope.names.lookup d=Y .local:=by exact .inl M) :
  PSV G X (.Assign [.Name d b] e pos) (cp j x) :=
 PS.weak (lj C l w h y A) λD J H z=>by
  obtain⟨Z,U,out,s,e,k⟩:=z;unfold cp at e;obtain⟨⟨v,E⟩,e1,e2⟩:=Zz.mp e;split at e2
  ·rename_i l;cases e2;refine⟨Z,U,v,E,s,e1,l.1,λu n F p f r=>?_⟩;obtain⟨t,q⟩:=p.val (c:=.pu v.2) (m:=.fr) l.2 (aM.refl n) r ⟨Yt,λa h=>nomatch h⟩ (.inl ⟨rfl,by decide⟩);exact k _ _ n t (f.trans q)
  ·cases e2
def lY(i:Nat)(a:List Ll)(k:Ex)(x:Xx):Sx:=λU=>(x U).bind λz=>if Ir z.1.2 then fM i a k (λ_=>Y (.fr,z.1.2)) z.2 else O
def AV{mv:Md}{M:Wp}(Jq:lh G)(s:SR G Z U J H)(ht:U[i]?=Y (Y (.ow t)))(ek:keys way U=Y ks)(NN:ck U=Y (mk,p))(e5:pm (qY (mk,p) (mv,d)) ks t=Y (t',y'))(JV:aM H H1)(rv:Rp G H1 xv d M)(fv:Fp Z U H mv M)(k:∀Z' H',SR G Z' (U.set i (Y (.ow t'))) J H'->IE Z U H Z' (U.set i (Y (.ow t'))) H'->D J H'):Ge (RS G i way) (tE G ck) Dc xv J H1 D:=by
   obtain⟨v,g1,g2⟩:=s.rp _ _ ht;obtain⟨w,x,F1,x3,w1,w2,w3,P,w5⟩:=nF ks Jq g2 (s.nd i t ht) e5;refine⟨Z,U,t,ks,v,w,s.same JV,ht,g1,ek,w1.same JV,λH2 JN=>⟨Z,U,mk,p,(s.same JV).same JN,NN,λkv q Fk K7 rk fk=>?_⟩⟩;have A:aM H q:=(JV.trans JN).trans K7;have Na:Rp G q xv d M:=(rv.same JN).same K7;have fin:∀S N,Chg G H w F1 x3 S N->D J S:=λS N g=>by
    obtain⟨F2,Pr⟩:=w5 S N g;obtain⟨z1,z2⟩:=s.mut ht g1 Pr;exact k _ S z1 z2
   refine L2.jG λP_ k_=>?_;cases x with
   |lst l =>
    cases p with
    |int n =>
     obtain⟨tt,et,e7⟩:=Zz.mp (show ((fit (mv,d)).bind λt=>(Jx l.length n).map λj=>(T.lst (l.set j t),()))=Y (x3,y') from P);obtain⟨j,ej,e8⟩:=Zy.mp e7;cases e8;have em:=kD et;cases em;obtain⟨a,y,Fs,rfl,rfl,R,C⟩:=w2.lst_inv;have Q:q a=Y (.lst y):=A a _ R;have nd:=ZY.mp w3;have na:a∉M:=λz=>by rw[fv.2 a z]at R;cases R
     have E:Iy (q a):=by rw[Q];exact True.intro
     have off:∀b∈Fs.flatten,b∉M:=λb hb hv=>Iy.oe (C.IH b hb) (fv.2 b hv);refine k_ ?_;refine .inl ⟨a,y,n,j,rfl,rk.int_inv,Q,by rw[← uG,C.len.1];exact ej,fin _ (a :: (Fs.set j M).flatten) ?_⟩;have keep:∀{u:V}{x:T}{F:Wp},Rp G q u x F->a∉F->Rp G (upd q a (.lst (y.set j xv))) u x F:=λr hn=>r.keep (Kept.upd (.inl E)) λb hb o' Le=>by rw[aE (λz=>hn (by rw[← z];exact hb))];exact Le
     refine Chg.upd A Zx E (.lst aw ((((C.same A).off E nd.1)).putAt j (keep Na na))) ?_ ?_
     ·rw[ZY];refine⟨λh=>?_,dW nd.2 fv.1 λi' N _ hi b hb=>off b (cW hi hb)⟩;rcases cG h with z | ⟨i',N,_,h1,h2⟩
      ·exact na z
      ·exact nd.1 (cW h1 h2)
     ·intro b hb;rcases Zj.mp hb with rfl | hb
      ·exact .inl Zx
      ·rcases cG hb with z | ⟨i',N,_,h1,h2⟩
       ·exact .inr (fv.2 b z)
       ·exact .inl (Zv _ (cW h1 h2))
    |_=>cases P
   |dct kd l =>
    cases kd with
    |zero =>
     have hc:(iM p=L/\Ir d=L/\l.length<dZ)/\x3=.dct 0 (dput l p d):=by
      have Oq:(if iM p/\Ir d/\l.length<dZ then Y (T.dct 0 (dput l p d),()) else O)=Y (x3,y'):=P;split at Oq
      ·rename_i hc;cases Oq;exact⟨hc,rfl⟩
      ·cases Oq
     obtain⟨⟨c1,c2,c3⟩,rfl⟩:=hc;have eF:=Na.Ir c2;subst eF;obtain⟨a,ns,y,ts,Fs,rfl,rfl,R,hl,rfl,C⟩:=eR w2;obtain⟨kk,rfl,M3⟩:=dG rk c1;subst M3;have Q:q a=Y (.dK (ns.zip y)):=A a _ R;have E:Iy (q a):=by rw[Q];exact True.intro
     have nd:=ZY.mp w3;obtain⟨OA,Kc,Jv,JU,q1,q2,q3,q4,q5⟩:=qH (kk:=kk) Na hl (C.same A);have ln:(ns.zip y).length<sizeLine:=by
      have:((ns.map aS).zip ts).length<16777216:=c3;rw[YQ,Zt]at this;rw[YQ];have:=C.len.1;have:(KF:Nat)=16777216:=rfl;lia
     refine k_ ?_;refine .inr ⟨a,_,rfl,uK.k Q ln,fin _ (a :: JU.flatten) ?_⟩;rw[q1,q3];refine Chg.upd A Zx E (.dct aw q2 (q4.off E λz=>nd.1 (q5.subset z))) ?_ ?_
     ·exact ZY.mpr ⟨λz=>nd.1 (q5.subset z),nd.2.sublist q5⟩
     ·intro b hb;rcases Zj.mp hb with rfl | hb
      ·exact .inl Zx
      ·exact .inl (Zv _ (q5.subset hb))
    |succ n=>cases P
   |_=>cases P
def v8{X:Cx}{pos:Pos}(Jq:lh G)(z:Im q X.A)(E:LJ G X o i way)(F:PV G X b j)(he:PX G X e x)(N:∀v,assign (.Subscript o b d) X.env v=(do
   let ov ← holding [v] (eval o X.env)
   let iv ← holding [v,ov] (eval b X.env)
   standAt d
   holding [v,ov,iv] (setItem ov iv v)
   release [v,ov,iv] []))(y:swapsWithSole [.Subscript o b d] e pos.line X.env=pure B)(hw:swappedStores [.Subscript o b d] e X.env=pure O)(P:(assignEach [.Subscript o b d] X.env).map (·.2)=[assign (.Subscript o b d) X.env]):PSV G X (.Assign [.Subscript o b d] e pos) (lY i way j x) :=
 PS.weak (uM he (uS E F (yI (kM z)) N) y hw P) λD J H C=>by
  obtain⟨Z,U,out,s,e,k⟩:=C;unfold lY at e;obtain⟨⟨v,U'⟩,e1,e2⟩:=Zz.mp e;split at e2
  ·rename_i M;refine⟨Z,U,v,U',s,e1,M,λu H' Z' p f r=>?_⟩;unfold fM at e2;obtain⟨⟨mv,tv⟩,ev,e2⟩:=Zz.mp e2;cases ev;split at e2
   ·rename_i t w;obtain⟨ks,Q,e2⟩:=Zz.mp e2;obtain⟨⟨mk,tk⟩,NN,e2⟩:=Zz.mp e2;obtain⟨⟨t',y'⟩,S,R⟩:=Zy.mp e2;cases R;exact AV Jq p w Q NN S (aM.refl H') r (mv:=.fr) ⟨Yt,λa h=>nomatch h⟩ λZ2 H2 n l=>k _ J H2 n (f.trans l)
   ·cases e2
  ·cases e2
end
end VS
end
section
namespace L2
open PySem PySem.Spec PyProof.Rows
def uJ:dm X (.type "dict") (λf H Q=>∃(d:KM)(a:List (Key×V)),f=[.ref d]/\H d=Y (.dK a)/\∀l,H l=O->Q (.ref l) (upd H l (.dK a))):=by
 intro g s J H f v Q I j h;obtain⟨d,a,rfl,hd,q⟩:=h;obtain⟨u,rfl,m⟩:=j.one;cases m;obtain⟨i,r,t,rel,n⟩:=tD I.Ip hd;refine PySem.kt_call_dict r n (by rw[← Wm rel];exact i) λw p sb=>?_;exact⟨.ref s.heap.objs.size,_,I.laid (t':=s.toks) (λb o e=>(sb.2 b (Ze (ZO e))).trans (Zm _ e)) (Zp _) (pM i (KS.mpr (YH (Ze I.big))) rel p),rfl,q _ (I.Ip.fresh (Zp _))⟩
end L2
namespace VS
open PySem PySem.Spec PyProof.Rows L2
def lL:Uv->Uu
 |[(_,.dct 0 l)]=>if dJ (l.map (·.2))=L then Y (.fr,.dct 0 l) else O
 |_=>O
section
def AR:fK G (λs H Q=>∃(d:KM)(n:List (Key×V)),s=[.ref d]/\H d=Y (.dK n)/\∀l,H l=O->Q (.ref l) (upd H l (.dK n))) lL:=by
 intro Z U J H l u C m t Q A e k;unfold lL at e;split at e
 ·rename_i E x;split at e
  ·rename_i j;cases e;obtain⟨v,F,rfl,rfl,r⟩:=(show RpL G H u [.dct 0 x] C from A.rp).one;obtain⟨a,ns,w,D,Gs,rfl,rfl,y,i,rfl,f⟩:=eR r;refine⟨a,_,rfl,y,λq h=>?_⟩;have g:aM H (upd H q (.dK (ns.zip w))):=bh h;rw[List.map_snd_zip (by rw[Zt,i,f.len.1];exact Zp _)]at j;have z:=f.Ir j;refine k _ _ (q :: Gs.flatten) g (.dct aw i (f.same g)) ?_;rw[z];exact Fp.new (A.same.free h) (by simp) Fp.nil
  ·cases e
 ·cases e
def BF{X:Cx}(d:X.mg "dict" = O)(g:Jz G X [e] cs)(f:Gl X "dict")(he:K1 e [] X):PV G X (.Call (.Name "dict" p) [e] [] pos) (eN lL cs) :=
 js uJ AR f d vm g (he:=he) (hpl:=rfl)
def Ez{i d:Int}:PV G X (.Dict [Y (.Constant (.int i) j q)] [.Constant (.int d) h g] pos) (sD 0 [(Q3 i,Q3 d)]) :=
 PE.weak (B9 (yo pO pO CW) M M (by simp) (by show 1<=15;decide)) λJ H Q l=>by
  obtain⟨Z,U,m,r,s,e,k⟩:=l;cases (show Y (Md.fr,T.dct 0 [(.int i,.int d)])=Y (m,r) from e);intro p f;refine⟨aw,[(Sum.inl i,.int d)],rfl,(by show 1<=15;decide),?_⟩;rw[BR];have:Rp G (upd H p (.dK [(Sum.inl i,V.int d)])) (.ref p) (.dct 0 ((([Sum.inl i]:List Key).map aS).zip [.int d])) (p :: ([[]]:Xz).flatten) :=
   .dct (ks:=[Sum.inl i]) (vs:=[V.int d]) aw M (.cons (.int d) .nil)
  exact k _ _ _ (bh f) this ⟨by simp,λb hb=>by simp at hb;rw[hb];exact f⟩
def xQ(x y:Val):Uu:=match x.2 with
 |.dct 0 l=>if iM y.2 then Y (match fq l y.2 with | some t=>sub x.1 t | none=>(.fr,.non)) else none
 |_=>O
def w_get{X:Cx}{apos:Pos}(N:Im kr X.A)(R:PV G X o ca)(he:PV G X e cb)(IA:XAC o "get" X.env (eval o X.env)=eval o X.env)(IK:((backTo jj (Pv [e] X.env)).all (λx=>!x.1)&&(backToKw jj (SZ [] X.env)).all (λx=>x.1.isSome)
   && decide (([e]:List Expr).length+([]:List Keyword).length+(if ([]:List Keyword).isEmpty then 0 else 1)<30))=L)(Iv:(apos.endLine==jj.line)=L)(h:backTo jj (Pv [e] X.env)=[(B,eval e X.env)]):PV G X (.Call (.Attribute o "get" apos) [e] [] jj) (e2 xQ ca cb) :=
 PE.weak (x9 (kM N) R he ⟨IA,IK,Iv,h⟩) λJ H Q P=>by
  obtain⟨Z,U,m,r,s,e,u⟩:=P;unfold e2 at e;obtain⟨⟨E,x⟩,ea,e⟩:=Zz.mp e;obtain⟨⟨D,y⟩,eb,e⟩:=Zz.mp e;unfold xQ at e;split at e
  ·rename_i l w;dsimp only at w;subst w;split at e
   ·rename_i hk;have d:=Zh e;refine⟨Z,U,E,_,s,ea,λv H1 F1 t r1 f1=>?_⟩;obtain⟨a,ks,vs,ts,Fs,rfl,rfl,j,S,rfl,q⟩:=eR r1;refine⟨a,rfl,.inl ⟨_,.inl j⟩,Z,U,D,y,s.same t,eb,λv2 z F2 g r2 f2=>?_⟩;obtain⟨M,rfl,ek⟩:=dG r2 hk;dsimp only at d;rw[ek]at d;rcases km (k:=M) S (q.same g) with⟨h1,h2⟩ | ⟨i,v,C,F,a1,a2,a3,a4,n⟩
    ·rw[h1]at d;cases d;refine⟨_,gR.k (g a _ j),?_⟩;rw[h2];exact u .non z [] (t.trans g) .non Fp.nil
    ·rw[a1]at d;refine⟨_,gR.k (g a _ j),?_⟩;rw[a2];have f:=((f1.sub (Yd _ _)).sub (cn a4)).up n;unfold VS.sub at d;dsimp only at d;rw[d]at f;have et:C=r:=congrArg Prod.snd d;rw[et]at n;exact u v z F (t.trans g) n f
   ·cases e
  ·cases e
def pY(x y:Val):Uu:=match x.2 with
 |.dct 3 l=>if iM y.2 then (fq l y.2).map (sub x.1) else O
 |_=>O
def sO(r:Rp G H v (.dct 3 l) F):∃(a:KM)(o:Obj)(f:List Key)(d:List V)(g:Ut)(j:Xz),v=.ref a/\F=j.flatten/\H a=Y (.frz o (.dK (f.zip d)))/\f.length=d.length/\l=(f.map aS).zip g/\RpL G H d g j:=by
 generalize i:T.dct 3 l=z at r;cases r with
 |dctZ h m q=>cases i;exact⟨_,_,_,_,_,_,rfl,rfl,h,m,rfl,q⟩
 |_=>cases i
def Ff:d6 G (GT G.K) pY:=by
 intro Z U H0 H x y u w F1 F2 m t Q d e k;obtain⟨R,x⟩:=x;unfold pY at e;split at e
 ·rename_i l h;dsimp only at h;subst h;split at e
  ·rename_i r;obtain⟨P,e1,e2⟩:=Zy.mp e;obtain⟨a,o,S,J,M,Fs,rfl,rfl,s,n,rfl,q⟩:=sO d.r1;obtain⟨g,rfl,A⟩:=dG d.r2 r;rw[A]at e1;rcases km (k:=g) n q with⟨z,_⟩ | ⟨i,v,N,F,E,D,a3,C,j⟩
   ·rw[z]at e1;cases e1
   ·rw[E]at e1;cases e1;cases e2;refine .inr ⟨a,v,rfl,.inl ⟨_,g,.inr ⟨o,s⟩,rfl,D.symm⟩,?_⟩;have f:=(d.f1.sub (cn C)).up j;exact k v H F (aM.refl _) j f
  ·cases e
 ·cases e
def DE{X:Cx}(f:Im kr X.A)(i:PV G X a ca)(g:PV G X b cb)(d:gz b)(j:X.K=G.K):PV G X (.Subscript a b pos) (e2 pY ca cb) :=
 PE.weak (n9 (JX.or jP (p8 (kM f))) i g d) λJ H Q h=>by rw[j];exact ly Ff h
end
def eNew(c:Nat)(g:Mt)(b:IZ):Ex:=λU=>(b U).bind λa=>if cq (trees a)=L then (g [] (trees a)).bind λz=>if hZ z.1=L/\Ph z.2=L then Y (.fr,.obj (c+1) ((0,.bl B) :: z.1)) else O else O
def gw(c:Nat)(g:Fn)(d:Ex)(b:IZ):Ex:=λU=>(d U).bind λx=>match x.2 with
 |.obj e (_ :: _)=>if e=c+1 then (b U).bind λa=>(g (x.2 :: trees a)).bind λr=>match r.1 with
  |.fr=>Y r
  |_=>O else O
 |_=>O
theorem Aq{α:Type}:∀(l:List α)(a:Xz),Jf (l.map λ_=>B) a=[]
 |[],_=>by simp[Jf]
 |_ :: _,[]=>by simp[Jf]
 |_ :: l,F :: a=>by
  rw[Zc,Jf,Zl Zd,Yc];exact Aq l a
theorem yL:∀(mv:List Bool)(d:Xz),∀a∈Lo mv d,a∈d.flatten
 |[],_,a,h=>by simp[Lo]at h
 |_ :: _,[],a,h=>by simp[Lo]at h
 |b :: bs,F :: d,a,h=>by
  rw[Lo]at h;rw[ZI];rcases Zi.mp h with h | h
  ·cases b with
   |true=>simp at h
   |false=>exact LH _ (by simpa using h)
  ·exact ZX _ (yL bs d a h)
section
def C0{G:Gx}(r:Rp G H u t F)(h:Ph t=L):u=.non:=by
 cases r with
 |non=>rfl
 |_=>cases h
def DK{X:Cx}{t:TA}(F:∀n,FnOk X.prog X.w X.K X.mg X.base Jk k f fd ps (NA G c (List.replicate n B) g)->True)(ht:∀Z U d J H (R:List V->Hp->Prop),SR G Z U J H->cs U=Y d->(∀vs j Fs,aM H j->RpL G j vs (trees d) Fs->NU Z U H d Fs->R vs j)->t J H R)(n:Nat)(hn:∀U d,cs U=Y d->d.length=n)(hq:tE G (eNew c g cs) J H Q):DC (G.ct (c+1)).1 (NA G c (List.replicate n B) g) [] E t J H Q:=by
 obtain⟨Z,U,mo,r,s,e,kq⟩:=hq;unfold eNew at e;obtain⟨d,el,e1⟩:=Zz.mp e;split at e1
 ·rename_i Ul;obtain⟨⟨Kn,y⟩,eg,e2⟩:=Zz.mp e1;split at e2
  ·rename_i hc;cases e2;have lx:=hn U d el;refine ht Z U d J H _ s el λvs H1 Gs JV l Sv a D S N ne=>?_;have v:H a=O:=JV.free S;have JN:aM H1 (upd (upd H1 D (.own a)) a (.ins (G.ct (c+1)).1 D [])):=λb C q=>by
    rw[aE (λz=>by rw[z,S]at q;cases q),aE (λz=>by rw[z,N]at q;cases q)];exact q
   have em:List.replicate n B=(List.range n).map λ_=>B:=by rw[List.map_const',ZC]
   have Tj:Jf (List.replicate n B) Gs=[]:=by rw[em];exact Aq _ _
   have fresh:∀b,(upd (upd H1 D (.own a)) a (.ins (G.ct (c+1)).1 D [])) b=O->H b=O:=λb z=>JV.free (JN.free z);refine⟨a,vs,[],trees d,[a],Gs,Kn,y,by rw[ZE],.ins (ks:=[]) (vs:=[]) (ts:=[]) (Fs:=[]) aw M (λ_=>rfl) .nil,(l.same JN).at (Lw a) Ul,?_,?_,?_,eg,λu j F' A ru=>⟨C0 ru hc.2,?_⟩⟩
   ·simp[trees,lx]
   ·rw[Tj];simp
   ·rw[Tj];intro b hb P;have:b=a:=by simpa using hb
    subst this;exact Iy.oe (l.IH b (yL _ _ b P)) S
   ·rw[Tj,ZE]at A;have back:Rp G j (.ref a) (.obj (c+1) ((0,.bl B) :: Kn)) F':=by
     obtain⟨c2,a2,dx2,b2,ns2,vs2,ts2,Fs2,Ro,UW,eb2,UU,UX,Sq,J0,Ui,Nb⟩:=gC A.rp;cases Ro;cases UW;subst UU;rw[UX];exact .ins Sq J0 (λz=>nomatch z) (Nb.at G.me (hV (J0.trans Nb.len.1) hc.1))
    refine kq (.ref a) j F' (λb C q=>A.keep b C (λz=>?_) (JN b C (JV b C q))) back ⟨A.nd,λb hb=>?_⟩
    ·have:b=a:=by simpa using z
     rw[this,v]at q;cases q
    ·rcases A.sub b hb with z | z
     ·have:b=a:=by simpa using z
      rw[this];exact v
     ·exact fresh b z
  ·cases e2
 ·cases e1
def DT{G:Gx}{X:Cx}(M:Mk X.K (G.ct (c+1)).1 f)(F:FnOk X.prog X.w X.K X.mg X.base Jk k f fd ps (NA G c [] g))(b:Im k' X.A)(j:k+1<=k')(l:Gl X x)(d:X.mg x=Y (.ref (G.ct (c+1)).1))(n:Binds X.K fd ps [])(q:K3 x):PV G X (.Call (.Name x p) [] [] pos) (eNew c g ai) :=
 PE.weak (yf (E:=E0) M F (b.mono j) l d n .nil oW q) λJ H Q h=>DK (X:=X) (k:=k) (f:=f) (fd:=fd) (ps:=ps) (t:=xE) (λ_ _=>True.intro) (λZ U a J H R s e k=>by
  cases (show Y ([]:Uv)=Y a from e);exact k [] H [] (aM.refl _) .nil ⟨λi v F h=>by simp at h,by simp[JB]⟩) 0 (λU a e=>by
  cases (show Y ([]:Uv)=Y a from e);rfl) h
theorem vN{g:Nat->Str}(b:∀k,g k≠m):∀(ns:Vu)(a:List V),((ns.map g).zip a).lookup m=O
 |[],a=>by simp
 |_ :: _,[]=>by simp
 |n :: ns,v :: a=>by
  rw[Zc,ZF,YO];have:(m==g n)=B:=by
   rw[KS];exact λz=>b n z.symm
  rw[this];exact vN b ns a
def wk{G:Gx}{t:TA}(hn:∀k,(G.ct (c+1)).2 k≠m)(P:∀Z U d J H (R:List V->Hp->Prop),SR G Z U J H->cs U=Y d->(∀l j z,aM H j->RpL G j l (trees d) z->NU Z U H d z->R l j)->t J H R)(S:tE G (gw c h ca cs) J H Q):vz (G.ct (c+1)).1 m (KO G h) [] E (tE G ca) t J H Q:=by
 obtain⟨Z,U,mo,r,s,e,N⟩:=S;unfold gw at e;obtain⟨⟨M,y⟩,ea,e1⟩:=Zz.mp e;split at e1
 ·rename_i c' q0 fs A;dsimp only at A;subst A;split at e1
  ·rename_i hc;subst hc;obtain⟨d,el,e2⟩:=Zz.mp e1;obtain⟨⟨n,F⟩,eg,e3⟩:=Zz.mp e2;refine⟨Z,U,M,_,s,ea,λv H1 F1 q r1 f1=>?_⟩;obtain⟨c2,a,dx,b,ns,l,ts,z,ec,rfl,eb,ef,eF,hA,hl,hb,ra⟩:=gC r1;cases ec;refine⟨a,dx,_,rfl,hA,vN hn _ _,P Z U d J H1 _ (s.same q) el λus H2 Gs w RV Su=>?_⟩;rw[ZE];refine⟨_ :: trees d,F1 :: Gs,n,F,.cons (r1.same w) RV,eg,λu j F' K7 D C=>?_⟩;cases n with
   |fr =>
    cases e3;exact N u j F' ((q.trans w).trans K7) D ⟨C.1,λb hb=>q.free (w.free (C.2 b hb))⟩
   |pu=>cases e3
   |bo=>cases e3
  ·cases e1
 ·cases e1
def Eo{G:Gx}(r:∀k,(G.ct (c+1)).2 k≠m)(n:PV G X o ca)(y:Kh X.K (G.ct (c+1)).1)(u:Meth X.K (G.ct (c+1)).1 m f)(F:FnOk X.prog X.w X.K X.mg X.base Jk k f fd ps (KO G h))(l:Im k' X.A)(v:k<=k')(z:Binds X.K fd ps [])(C:Jz G X (e :: es) cs)(D:K1 e es X)(a:K2 pos es X)(j:eval (.Call (.Attribute o m apos) (e :: es) [] pos) X.env=(do
   let ov ← eval o X.env
   standAt apos.atName
   let (f,first) ← holding [ov] (getMethod ov m d)
   callWith pos f first (backTo pos (Pv (e :: es) X.env)) (backToKw pos (SZ [] X.env)))):PV G X (.Call (.Attribute o m apos) (e :: es) [] pos) (gw c h ca cs) :=
 PE.weak (v7 (E:=E0) n y u F (l.mono v) z .nil oW C D a j) λJ H Q q=>wk (t:=PL G cs) r (λZ U b J H R s e k=>⟨Z,U,b,s,e,k⟩) q
def BX{G:Gx}(n:∀k,(G.ct (c+1)).2 k≠m)(l:PV G X o ca)(y:Kh X.K (G.ct (c+1)).1)(r:Meth X.K (G.ct (c+1)).1 m f)(F:FnOk X.prog X.w X.K X.mg X.base Jk k f fd ps (KO G h))(j:Im k' X.A)(u:k<=k')(z:Binds X.K fd ps [])(d:eval (.Call (.Attribute o m apos) [] [] pos) X.env=(do
   let ov ← eval o X.env
   standAt apos.atName
   let (f,first) ← holding [ov] (getMethod ov m b)
   callWith pos f first (backTo pos (Pv [] X.env)) (backToKw pos (SZ [] X.env)))):PV G X (.Call (.Attribute o m apos) [] [] pos) (gw c h ca ai) :=
 PE.weak (zp (E:=E0) l y r F (j.mono u) z .nil oW d) λJ H Q q=>wk (t:=xE) n (λZ U a J H R s e k=>by
  cases (show Y ([]:Uv)=Y a from e);exact k [] H [] (aM.refl _) .nil ⟨λi v F h=>by simp at h,by simp[JB]⟩) q
end
def oz(i:Nat)(a:List Ll)(j:Nat)(U:VS.Env):Option Out:=match (U[i]?:Option (Uw)),(U[j]?:Option (Uw)) with
 |some (some (.ow t)),some (some (.ow u))=>if i≠j then (keys a U).bind λb=>(pm (λx=>aV x [(.fr,u)]) b t).map λz=>.nx ((U.set j O).set i (Y (.ow z.1))) else O
 |_,_=>O
open Classical in
noncomputable def less(H:Hp)(F:Wp):Hp:=λb=>if b∈F then O else H b
section
def qy(h:b∈F):less H F b=O:=Zo h
def gS(h:b∉F):less H F b=H b:=Zl h
def ig{o:HO}(h:less H F b=Y o):H b=Y o/\b∉F:=by
 by_cases q:b∈F
 ·rw[qy q]at h;cases h
 ·rw[gS q]at h;exact⟨h,q⟩
def xR(h:∀b∈F,Iy (H b)):Kept H (less H F) :=
 ⟨λb a e=>by
  rw[gS (λz=>by have:=h b z;rw[e]at this;exact this)];exact e,λb o u e=>by
  rw[gS (λz=>by have:=h b z;rw[e]at this;exact this)];exact e⟩
def Bl{apos pos:Pos}(Jq:lh G)(ho:LJ G X o i way)(hK:X.K=G.K)(hN:X.N[j]?=Y y)(hv:Kf X.env.scope y)(hd:K3 y)(hcd:K4 y)(IA:XAC o "append" X.env (eval o X.env)=eval o X.env)(IK:((backTo jj (Pv [.Name y p1] X.env)).all (λx=>!x.1)&&(backToKw jj (SZ [] X.env)).all (λx=>x.1.isSome)
   && decide ([Expr.Name y p1].length+([]:List Keyword).length+(if ([]:List Keyword).isEmpty then 0 else 1)<30))=L)(Iv:(apos.endLine==jj.line)=L)(hs:Pv [.Name y p1] X.env=(B,eval (.Name y p1) X.env) :: Pv [] X.env)(Iu:(backTo jj (Pv [] X.env)).any (·.1)=B)(Kk:swapsWith (.Call (.Attribute o "append" apos) [.Name y p1] [] jj) O pos.line X.env=pure B) :
  PSV G X (.Expr (.Call (.Attribute o "append" apos) [.Name y p1] [] jj) pos) (oz i way j) :=
 PS.weak (ku (o6 Xa X7 X6 h9 ho (df (d8 hN hv hd hcd) ft hs) IA IK Iv hs Iu) Kk) λD J H hq=>by
  obtain⟨Z,U,out,s,e,k⟩:=hq;unfold oz at e;split at e
  ·rename_i t u ht P;split at e
   ·rename_i Lq;obtain⟨r,ek,e3⟩:=Zz.mp e;obtain⟨⟨t',x2⟩,e5,e6⟩:=Zy.mp e3;cases e6;obtain⟨vj,j1,j2⟩:=s.rp _ _ P;have M:Rp G H vj u (Z j):=j2;have ndj:=s.nd j u P;have mj:∀b∈Z j,Iy (H b):=M.IH;have kp:=xR mj;have SQ:∀f F,f≠j->U[f]?=Y (Y F)->∀b∈Z f,b∉Z j:=λf F n h b hb C=>s.sep j f u F P h (YH n) b C hb;have s0:SR G Z (U.set j O) J (less H (Z j)):=⟨(s.drop j).len,λf F h=>by
     obtain⟨n,h'⟩:=cI h;obtain⟨v,h1,h2⟩:=s.rp f F h';exact⟨v,h1,h2.keep kp λb hb d Sd=>by rw[gS (SQ f F n h' b hb)];exact Sd⟩,(s.drop j).nd,(s.drop j).sep⟩
    have TC:(U.set j O)[i]?=Y (Y (.ow t)):=by
     rw[YT (YH Lq)];exact ht
    obtain⟨v,h1,h2⟩:=s0.rp _ _ TC;obtain⟨w,x,F1,x3,w1,w2,w3,S,w5⟩:=nF r Jq h2 (s0.nd i t TC) e5;unfold aV at S;split at S
    ·rename_i l yv heq;cases heq;obtain⟨z,ez,e7⟩:=Zz.mp S;cases (show Y u=Y z from ez);split at e7
     ·rename_i hl;cases e7;obtain⟨a,us,Gs,rfl,rfl,ha,ra⟩:=w2.lst_inv;obtain⟨Um,Q⟩:=ig ha;have w1':JS G H r v (.ref a):=by
       have:∀{r:List Ky}{v w:V},JS G (less H (Z j)) r v w->JS G H r v w:=by
        intro r v w p
        induction p with
        |nil v=>exact .nil v
        |fld h l _ A=>exact .fld (ig h).1 l A
        |ix h l m _ A=>exact .ix (ig h).1 l m A
        |key h l _ A=>exact .key (ig h).1 l A
        |un _ A=>exact .un A
       exact this w1
      refine⟨Z,U,t,r,v,.ref a,s,ht,h1,ek,w1',λH0 E=>⟨.inl ⟨rfl,us,by rw[hK];exact IF.of (E a _ Um)⟩,vj,j1,a,us,vj,rfl,rfl,E a _ Um,by rw[ra.len.1];exact hl,?_⟩⟩;have m0:Iy (H0 a):=by rw[E a _ Um];exact True.intro
      have ND:=ZY.mp w3;have S6:∀b∈Gs.flatten,b∉Z j:=λb hb C=>by
       have:=ra.IH b hb;rw[qy C]at this;exact this
      have R:∀b d,less H (Z j) b=Y d->H0 b=Y d:=λb d h=>E b d (ig h).1;have kl:Kept (less H (Z j)) H0:=⟨λb xs h=>R b _ h,λb d u h=>R b _ h⟩
      have g:Chg G (less H (Z j)) (.ref a) (a :: Gs.flatten) (.lst (l++[u])) (upd H0 a (.lst (us++[vj]))) (a :: (Gs++[Z j]).flatten):=by
       refine⟨kl.trans (Kept.upd (.inl m0)),λb d hb h=>by rw[aE (λz=>hb (by rw[z];exact Zx))];exact R b d h,λb h z=>?_,.lst aw ((RpL.off (ra.keep kl λb hb d h=>R b d h) m0 ND.1).append (.cons (((M.same E)).keep (Kept.upd (.inl m0)) λb hb d ho=>by rw[aE (λz=>Q (by rw[← z];exact hb))];exact ho) .nil)),?_,λb hb=>?_⟩
       ·by_cases q:b=a
        ·rw[q,aw]at z;cases z
        ·rw[aE q]at z;cases e:less H (Z j) b with
         |none=>exact h e
         |some d=>rw[R b d e]at z;cases z
       ·rw[Yo];refine ZY.mpr ⟨λm=>?_,ZG.mpr ⟨ND.2,by simpa using ndj,λb hb c hc z=>?_⟩⟩
        ·rcases Zi.mp m with m | m
         ·exact ND.1 m
         ·exact Q (by simpa using m)
        ·subst z;exact S6 b hb (by simpa using hc)
       ·rcases Zj.mp hb with rfl | hb
        ·exact .inl Zx
        ·rw[Yo]at hb;rcases Zi.mp hb with hb | hb
         ·exact .inl (Zv _ hb)
         ·exact .inr (qy (by simpa using hb))
      obtain⟨F2,g2⟩:=w5 _ _ g;obtain⟨z1,z2⟩:=s0.mut TC h1 g2;have back:∀b,less H (Z j) b=O->bB Z U b\/H b=O:=λb h=>by
       by_cases q:b∈Z j
       ·exact .inl ⟨j,u,P,q⟩
       ·rw[gS q]at h;exact .inr h
      have L8:∀b,bB Z (U.set j O) b->bB Z U b:=λb ⟨j',t',q1,q2⟩=>⟨j',t',(cI q1).2,q2⟩
      have pu0:∀b,cL Z (U.set j O) b->cL Z U b:=λb ⟨j',t',q1,q2⟩=>⟨j',t',(cI q1).2,q2⟩
      refine k _ J _ z1 ⟨λb d h n=>?_,λb h z=>?_,λb h=>?_,λb h=>?_,(Kept.of E).trans (Kept.upd (.inl m0))⟩
      ·have nj:b∉Z j:=λz=>n ⟨j,u,P,z⟩;exact z2.keep b d (by rw[gS nj];exact h) λz=>n (L8 b z)
      ·by_cases q:b=a
       ·rw[q,aw]at z;cases z
       ·rw[aE q]at z;exact h (E.free z)
      ·rcases z2.ow b h with h | h
       ·exact .inl (L8 b h)
       ·exact back b h
      ·rcases z2.pu b h with h | h | h
       ·exact .inl (pu0 b h)
       ·exact .inr (.inl (L8 b h))
       ·exact(back b h).elim (λz=>.inr (.inl z)) λz=>.inr (.inr z)
     ·cases e7
    ·cases S
   ·cases e
  ·cases e
end
end VS
end
section
namespace VS
open PySem PySem.Spec PyProof.Rows L2
noncomputable def isInt:T->Bool
 |.int _=>L
 |_=>B
def sF(i:Nat):Ln:=λU=>match (U[i]?:Option (Uw)) with
 |some (some (.pu (.dct 3 l)))=>if (l.all λp=>isInt p.1)=L then Y (.fr,l.map (·.1)) else O
 |_=>O
def zH(i:Nat)(a:Tg)(b:Ex):Sx:=λU=>match (U[i]?:Option (Uw)) with
 |some (some (.ow (.dct 0 l)))=>(bD 1 a (sF i) O b (U.set i (Y (.pu (.dct 3 l))))).bind λv=>match v.1 with
  |.fr=>Y (.rt v (U.set i O))
  |_=>O
 |_=>O
theorem zip_inj{α β:Type}:∀{a c:List α}{b d:List β},a.length=b.length->c.length=d.length->a.zip b=c.zip d->a=c
 |[],[],_,_,_,_,_=>rfl
 |[],_ :: _,_,[],_,h,_=>by simp at h
 |[],_ :: _,[],_ :: _,_,_,h=>by simp at h
 |[],_ :: _,_ :: _,_ :: _,h,_,_=>by simp at h
 |_ :: _,_,[],_,h,_,_=>by simp at h
 |_ :: _,[],_ :: _,[],_,_,h=>by simp at h
 |_ :: _,[],_ :: _,_ :: _,_,h,_=>by simp at h
 |_ :: _,_ :: _,_ :: _,[],_,h,_=>by simp at h
 |x :: a,y :: c,z :: b,w :: d,f,e,h=>by
  rw[ZF,ZF]at h;obtain⟨e1,e2⟩:=List.cons.inj h;rw[zip_inj (by simpa using f) (by simpa using e) e2,(W8 e1).1]
section
def DR{X:Cx}(i:Nat)(N:List Str)(IT:X.calm=L)(hN:X.N[i]?=Y x)(hv:Kf X.env.scope x)(hd:K3 x)(hcd:K4 x)(JG:wt 1 g)(hg:∀cl C s H fp,NR G (bP X N sc cl C s H fp) tg g)(he:∀cl C s H fp,PV G (bP X N sc cl C s H fp) elt ce)(Kr:nq X.env sc=L)(Lf:mf sc (N.drop 1) X.N=L)(Lh:1<=N.length)(hs:∀y,XAD (.Name x p1) X.env y=pure y) :
  PSV G X (.Return (Y (.ListComp elt [⟨tg,.Name x p1,[],0⟩] sc pos)) pos') (zH i g ce) :=
 PS.weak (qu (mQ IT (G3 (d8 hN hv hd hcd)) Kr Lf Lh (λcl C s H fp=>⟨hg cl C s H fp,ot,he cl C s H fp⟩) hs)) λD J H hq=>by
  obtain⟨Z,U,out,s,e,k⟩:=hq;unfold zH at e;split at e
  ·rename_i l E;obtain⟨⟨mv,tv⟩,ev,e1⟩:=Zz.mp e;have Ob:mv=.fr/\out=.rt (.fr,tv) (U.set i O):=by
    cases mv with
    |fr=>cases e1;exact⟨rfl,rfl⟩
    |pu=>cases e1
    |bo=>cases e1
   obtain⟨rfl,rfl⟩:=Ob;obtain⟨v,g1,g2⟩:=s.rp _ _ E;obtain⟨a,ns,d,ts,R,rfl,eF,ha,TX,rfl,ra⟩:=eR g2;have IS:i<U.length:=(ZW.mp E).1;have nd:=s.nd i _ E;rw[eF]at nd;have Jg:=ZY.mp nd;refine⟨.ref a,g1,a,ns.zip d,rfl,ha,λo=>?_⟩;have mu:Iy (H a):=by rw[ha];exact True.intro
   have kp:Kept H (upd H a (.frz o (.dK (ns.zip d)))):=Kept.upd (.inl mu);have es:J.set i (Y (.ref a))=J:=by
    obtain⟨h,e⟩:=ZW.mp g1;rw[← e];exact Vk h
   have aΦ:a∈Z i:=by rw[eF];exact Zx
   have sub:∀b∈R.flatten,b∈Z i:=λb hb=>by rw[eF];exact Zv _ hb
   have s1:SR G (ma Z i R.flatten) (U.set i (Y (.pu (.dct 3 ((ns.map aS).zip ts))))) J (upd H a (.frz o (.dK (ns.zip d)))):=by
    have:=s.put (c:=.pu (.dct 3 ((ns.map aS).zip ts))) (v:=.ref a) (F:=R.flatten) (H':=upd H a (.frz o (.dK (ns.zip d)))) IS (.dctZ aw TX (ra.off mu Jg.1)) (λj c' n hj w q=>q.keep kp λb hb ob ho=>by
     rw[aE (λz=>s.sep i j _ c' E hj (YH n) a aΦ (by rw[← z];exact hb))];exact ho) (λ_ z=>nomatch z) (λ_ z=>nomatch z) λj u n hj b hb hb'=>s.sep j i u _ hj E n b hb (sub b hb')
    rw[es]at this;exact this
   have hT:tE G (bD 1 g (sF i) O ce) J (upd H a (.frz o (.dK (ns.zip d)))) D.rt:=by
    refine⟨_,_,.fr,tv,s1,ev,λu H' F Q r f=>?_⟩;have ee:(U.set i (Y (.pu (.dct 3 ((ns.map aS).zip ts))))).set i O=U.set i O:=by rw[List.set_set]
    have sd:=(s1.drop i).same Q;rw[ee]at sd;have L8:∀b,bB (ma Z i R.flatten) (U.set i O) b->bB Z U b:=λb ⟨j,t,A,m⟩=>by
     obtain⟨n,P0⟩:=cI A;rw[eU n]at m;exact⟨j,t,P0,m⟩
    refine k u H' F _ J sd ⟨λb ob h n=>?_,λb h z=>?_,λb h=>.inl (L8 b h),λb ⟨j,t,A,m⟩=>?_,kp.trans (Kept.of Q)⟩ r ⟨f.1,λb hb=>.inl ?_⟩
    ·have nb:b≠a:=λz=>n ⟨i,_,E,by rw[z];exact aΦ⟩;exact⟨Q b ob (by rw[aE nb];exact h),λz=>n (L8 b z)⟩
    ·have P:=Q.free z;by_cases q:b=a
     ·rw[q,aw]at P;cases P
     ·rw[aE q]at P;exact h P
    ·obtain⟨n,P0⟩:=cI A;rw[eU n]at m;exact .inl ⟨j,t,P0,m⟩
    ·have:=f.2 b hb;by_cases q:b=a
     ·rw[q,aw]at this;cases this
     ·rw[aE q]at this;exact this
   obtain⟨Z2,U2,m2,l2,s2,e2,k2⟩:=mM (cond:=O) JG hT;refine k2 (WH a o (ns.zip d)) _ [] (aM.refl _) ?_ (λb hb=>nomatch hb);unfold sF at e2;split at e2
   ·rename_i l3 h3;split at e2
    ·rename_i hint;cases e2;obtain⟨v3,A,m⟩:=s2.rp _ _ h3;rw[g1]at A;cases A;obtain⟨a3,o3,ks3,S,Z0,Fs3,ea3,_,Lg,Ks,rfl,Nb⟩:=sO m;cases ea3;rw[aw]at Lg;have hz:ns.zip d=ks3.zip S:=HO.dK.inj (HO.frz.inj (Zh Lg)).2;have ek:=zip_inj TX Ks hz;subst ek;have em:((ns.map aS).zip Z0).map (·.1)=ns.map aS:=Ux (by rw[Zt,Ks,Nb.len.1];exact Zp _);have zl:(ns.zip d).length=ns.length:=by rw[YQ,TX,Wi]
     refine⟨λH2 II _=>⟨λn t M=>?_,λn M=>?_⟩,λb hb=>nomatch hb⟩
     ·rw[em,ZP]at M;obtain⟨kk,Mr,LU⟩:=Zy.mp M;have QN:=(ZW.mp Mr).1;refine⟨⟨II.frz _ _ _ aw,by rw[zl];exact QN⟩,λy H3 hy=>?_⟩;obtain⟨rfl,p,hp,rfl⟩:=hy;refine⟨aM.refl _,[],?_,λb hb=>nomatch hb⟩;have hp1:p.1=kk:=by
       have OF:(ns.zip d)[n]?=Y p:=hp;rw[Xi]at OF;rw[Mr]at OF;exact(Zh OF.1).symm
      have hi:isInt t=L:=by
       have:=Yr.mp hint (t,Z0[n]'(by rw[← Nb.len.1,← Ks];exact QN)) (by
        refine YU (i:=n) ?_;rw[Xi];exact⟨by rw[ZP,Mr];exact congrArg Y LU,Zq _⟩)
       exact this
      rw[hp1,← LU];rw[← LU]at hi;cases kk with
      |inl n=>exact .int n
      |inr z=>cases hi
     ·refine⟨II.frz _ _ _ aw,?_⟩;rw[em,Zt]at M;rw[zl];exact M
    ·cases e2
   ·cases e2
  ·cases e
end
noncomputable def Oe(a:List Str)(k:Nat):Str:=match a[k]? with
 |some x=>x
 |none=>⟨#[k]⟩
def OX(a:List Str)(K:X0)(C D:KM):Gx:=⟨K,λc=>(if c=2 then D else C,Oe a),λ_=>O⟩
def CS{a:List Str}(i:a.Nodup)(h:∀x∈a,x.cps.size≠1)(k b:Nat)(e:Oe a k=Oe a b):k=b:=by
 unfold Oe at e;by_cases f:k<a.length
 ·by_cases d:b<a.length
  ·rw[Zq f,Zq d]at e;exact(List.getElem_inj i).mp e
  ·rw[Zq f,Yy (ZK d)]at e;have g:a[k]=(⟨#[b]⟩:Str):=e;exact absurd (by rw[g];rfl) (h _ (Ys f))
 ·by_cases d:b<a.length
  ·rw[Yy (ZK f),Zq d]at e;have g:(⟨#[k]⟩:Str)=a[b]:=e;exact absurd (by rw[← g];rfl) (h _ (Ys d))
  ·rw[Yy (ZK f),Yy (ZK d)]at e;have g:(⟨#[k]⟩:Str)=⟨#[b]⟩:=e;cases g;rfl
def BH{a:List Str}{K:X0}(b:a.Nodup)(h:∀x∈a,x.cps.size≠1):lh ((OX a K C D).at m):=λ_ k d e=>CS b h k d e
def ka(h:x∉a)(d:x.cps.size≠1)(k:Nat):Oe a k≠x:=λe=>by
 unfold Oe at e;split at e
 ·rename_i y b;exact h (e ▸ YU b)
 ·exact d (by rw[← e];rfl)
def D9{a:List Str}{K:X0}(b:a[k]?=Y f)(h:Kh K C)(g:Kh K D)(e:cZ K C f)(d:cZ K D f):Kb ((OX a K C D).at m) K k f :=
 ⟨λc=>by show Oe a k=f;unfold Oe;rw[b],λc=>by show Kh K (if c+1=2 then D else C);split<;>assumption,λc=>by show cZ K (if c+1=2 then D else C) f;split<;>assumption⟩
structure MtAt(P:Re)(w:XAB)(K:X0)(mg:Wq)(base:XAA)(k:Nat)(G:Gx)(c:Nat)(x:Str)(ps:List Str)(mv:List Bool)(g:Mt):Prop where
 ex:∃f fd,FnOk P w K mg base Jk k f fd ps (NA G c mv g)/\Meth K (G.ct (c+1)).1 x f/\Binds K fd ps []
 cl:Kh K (G.ct (c+1)).1
 no:∀k,(G.ct (c+1)).2 k≠x
structure MpAt(P:Re)(w:XAB)(K:X0)(mg:Wq)(base:XAA)(k:Nat)(G:Gx)(c:Nat)(x:Str)(ps:List Str)(h:Fn):Prop where
 ex:∃f fd,FnOk P w K mg base Jk k f fd ps (KO G h)/\Meth K (G.ct (c+1)).1 x f/\Binds K fd ps []
 cl:Kh K (G.ct (c+1)).1
 no:∀k,(G.ct (c+1)).2 k≠x
structure InAt(P:Re)(w:XAB)(K:X0)(mg:Wq)(base:XAA)(k:Nat)(G:Gx)(c n:Nat)(x:Str)(ps:List Str)(g:Mt):Prop where
 ex:∃f fd,FnOk P w K mg base Jk k f fd ps (NA G c (List.replicate n false) g)/\Mk K (G.ct (c+1)).1 f/\Binds K fd ps []
 mg:mg x=some (.ref (G.ct (c+1)).1)
section
variable{K:X0}
theorem MtAt.at{m:Me}(h:MtAt P w K mg base k G c x ps mv g):MtAt P w K mg base k (G.at m) c x ps mv g:=⟨h.ex,h.cl,h.no⟩
theorem InAt.at{P:Re}{w:XAB}{mg:Wq}{base:XAA}{k c n:Nat}{G:Gx}{x:Str}{ps:List Str}{g:Mt}{m:Me}(h:InAt P w K mg base k G c n x ps g):InAt P w K mg base k (G.at m) c n x ps g:=⟨h.ex,h.mg⟩
def qT{G:Gx}(F:IP K x b d f m)(q:Meth K (G.ct (c+1)).1 x f)(r:Kh K (G.ct (c+1)).1)(v:∀k,(G.ct (c+1)).2 k≠x)(S:Il N ps (aq d))(o:ps.length=j)(p:N.length=l)(u:∀(kV doc pm:On)(an:Option KM)(h ct:On)(i:W7),i.length=ps.length->bindArgs (PySem.W.fnOf x b (dU d) (bq d) (aq d) .none kV doc pm an h ct) ⟨i,[]⟩=pure (ps.zip i))(t:∀(a:KM)(h:On)(A:SC)(outer:List PySem.Env)(s:IR)(H:Hp)(E:XK),Im k (A.deeper (envOfC b (aq d) s.heap.objs.size f h))->gE (G.at (Lw a)) (jC Jk P w K mg base N b (aq d) f h A outer s H E).LP (bq d) e) :
  MtAt P w K mg base (k+1) G c x ps mv (Lv c j l mv e):=⟨⟨f,m,fnM F S o p t,q,F.binds u⟩,r,v⟩
def FO{G:Gx}(F:IP K y b d f m)(q:Mk K (G.ct (c+1)).1 f)(r:mg x=Y (.ref (G.ct (c+1)).1))(S:Il N ps (aq d))(o:ps.length=j)(p:N.length=l)(u:∀(kV doc pm:On)(an:Option KM)(h ct:On)(i:W7),i.length=ps.length->bindArgs (PySem.W.fnOf y b (dU d) (bq d) (aq d) .none kV doc pm an h ct) ⟨i,[]⟩=pure (ps.zip i))(t:∀(a:KM)(h:On)(A:SC)(outer:List PySem.Env)(s:IR)(H:Hp)(E:XK),Im k (A.deeper (envOfC b (aq d) s.heap.objs.size f h))->gE (G.at (Lw a)) (jC Jk P w K mg base N b (aq d) f h A outer s H E).LP (bq d) e) :
  InAt P w K mg base (k+1) G c n x ps (Lv c j l (List.replicate n B) e):=⟨⟨f,m,fnM F S o p t,q,F.binds u⟩,r⟩
def ud{G:Gx}(F:IP K x a b f l)(p:Meth K (G.ct (c+1)).1 x f)(q:Kh K (G.ct (c+1)).1)(u:∀k,(G.ct (c+1)).2 k≠x)(S:Il N ps (aq b))(m:ps.length=i)(o:N.length=j)(t:∀(kV doc pm:On)(an:Option KM)(e ct:On)(h:W7),h.length=ps.length->bindArgs (PySem.W.fnOf x a (dU b) (bq b) (aq b) .none kV doc pm an e ct) ⟨h,[]⟩=pure (ps.zip h))(r:∀(e:On)(A:SC)(outer:List PySem.Env)(s:IR)(H:Hp)(E:XK),Im k (A.deeper (envOfC a (aq b) s.heap.objs.size f e))->gE G (jC Jk P w K mg base N a (aq b) f e A outer s H E).LP (bq b) d) :
  MpAt P w K mg base (k+1) G c x ps (fn i j d):=⟨⟨f,l,UE F S m o r,p,F.binds t⟩,q,u⟩
end
section
def iz{X:Cx}(C:lh G)(F:MtAt X.prog X.w X.K X.mg X.base k G c m ps mv g)(q:Im k' X.A)(s:k<=k')(r:LJ G X o i way)(t:Jz G X (e :: es) cs)(z:{`q7,K1 e es X})(a:{`q7,K2 pos es X})(l:{`q7,eval (.Call (.Attribute o m apos) (e :: es) [] pos) X.env=(do
   let ov ← eval o X.env
   standAt apos.atName
   let (f,first) ← holding [ov] (getMethod ov m d)
   callWith pos f first (backTo pos (Pv (e :: es) X.env)) (backToKw pos (SZ [] X.env)))}):PX G X (.Call (.Attribute o m apos) (e :: es) [] pos) (b9 i way c mv g cs):=by
 obtain⟨f,fd,y,v,u⟩:=F.ex;exact Cc C F.no r F.cl v y q s u t z a l
def Ct{X:Cx}(F:MpAt X.prog X.w X.K X.mg X.base k G c m ps h)(q:Im k' X.A)(s:k<=k')(r:PV G X o ca)(t:Jz G X (e :: es) cs)(z:K1 e es X)(a:K2 pos es X)(l:eval (.Call (.Attribute o m apos) (e :: es) [] pos) X.env=(do
   let ov ← eval o X.env
   standAt apos.atName
   let (f,first) ← holding [ov] (getMethod ov m d)
   callWith pos f first (backTo pos (Pv (e :: es) X.env)) (backToKw pos (SZ [] X.env)))):PV G X (.Call (.Attribute o m apos) (e :: es) [] pos) (gw c h ca cs):=by
 obtain⟨f,fd,y,v,u⟩:=F.ex;exact Eo F.no r F.cl v y q s u t z a l
def tV{X:Cx}(F:MpAt X.prog X.w X.K X.mg X.base k G c m ps h)(l:Im k' X.A)(r:k<=k')(q:PV G X o ca)(d:eval (.Call (.Attribute o m apos) [] [] pos) X.env=(do
   let ov ← eval o X.env
   standAt apos.atName
   let (f,first) ← holding [ov] (getMethod ov m a)
   callWith pos f first (backTo pos (Pv [] X.env)) (backToKw pos (SZ [] X.env)))):PV G X (.Call (.Attribute o m apos) [] [] pos) (gw c h ca ai):=by
 obtain⟨f,fd,u,t,s⟩:=F.ex;exact BX F.no q F.cl t u l r s d
def CB{X:Cx}(F:InAt X.prog X.w X.K X.mg X.base k G c 0 x ps g)(a:Im k' X.A)(d:k+1<=k')(l:Gl X x)(t:K3 x):PV G X (.Call (.Name x p) [] [] pos) (eNew c g ai):=by
 obtain⟨f,fd,s,r,q⟩:=F.ex;exact DT r s a d l F.mg q t
def Am{apos pos:Pos}(w:lh G)(d:LJ G X o i way)(q:Jz G X [e] cs)(s:X.K=G.K)(D:XAC o "append" X.env (eval o X.env)=eval o X.env)(C:((backTo jj (Pv [e] X.env)).all (λx=>!x.1)&&(backToKw jj (SZ [] X.env)).all (λx=>x.1.isSome)
   && decide `be)=L)(y:(apos.endLine==jj.line)=L)(a:K1 e [] X)(A:(backTo jj (Pv [] X.env)).any (·.1)=B)(u:swapsWith (.Call (.Attribute o "append" apos) [e] [] jj) O pos.line X.env=pure B) :
  PSV G X (.Expr (.Call (.Attribute o "append" apos) [e] [] jj) pos) (sX (lT i way aV cs)) :=
 zh w Xa X7 X6 h9 lq (λH v t F l z r h=>l9 r h) d q s D C y a A u
end
noncomputable def Nf(m:Nat)(t:T):T:=.obj 0 [(0,.bl L),(m,t)]
noncomputable def MA:T->Option (Nat×T)
 |.obj 0 [(0,.bl true),(m,t)]=>Y (m,t)
 |_=>O
def mP(h:MA t=Y (m,u)):t=Nf m u:=by
 unfold MA at h;split at h
 ·cases h;rfl
 ·cases h
noncomputable def sU(a:List V):Me:=λk=>match k with
 |0=>O
 |k+1=>a[k]?
def markL:Nat->List Bool->Ut->Ut
 |k,b :: bs,t :: a=>(if b then Nf (k+1) t else t) :: markL (k+1) bs a
 |_,_,_=>[]
def l5(U:VS.Env):Nat->List Bool->Option (Ut)
 |_,[]=>Y []
 |k,true :: bs=>match (U[k]?:Option (Uw)) with
  |some (some (.ow t))=>(MA t).bind λz=>if z.1=k+1 then (l5 U (k+1) bs).map (z.2 :: ·) else O
  |_=>O
 |k,false :: bs=>l5 U (k+1) bs
noncomputable def dw{α:Type}:List Bool->List α->List α
 |true :: bs,x :: a=>x :: dw bs a
 |false :: bs,_ :: a=>dw bs a
 |_,_=>[]
noncomputable def N6(Z:Iw):Nat->List Bool->Xz
 |_,[]=>[]
 |k,true :: bs=>Z k :: N6 Z (k+1) bs
 |k,false :: bs=>N6 Z (k+1) bs
noncomputable def zZ:T->Bool
 |.str _=>L
 |_=>B
def wC(b:Ut)(v:Val):Bool:=Ir v.2||(match b,v with
 |[.lst [.int _]],(.fr,.lst a)=>a.all zZ
 |_,_=>B)
def Bp(h:wC b v=L):Ir v.2=L\/∃n a,b=[.lst [.int n]]/\v=(.fr,.lst a)/\a.all zZ=L:=by
 unfold wC at h;rcases Bool.or_eq_true_iff.mp h with h | h
 ·exact .inl h
 ·split at h
  ·exact .inr ⟨_,_,rfl,rfl,h⟩
  ·cases h
def tK{a:Ut}(h:a.all zZ=L):dJ a=L/\cq a=L:=by
 induction a with
 |nil=>exact⟨rfl,rfl⟩
 |cons t a b =>
  rw[WU,YM]at h;cases t<;>first | exact b h.2 | cases h.1
def Mo(e g:Nat)(a:List Bool)(b:Sx):Ut->Option (Ut×T)
 |f :: d=>if d.length+1=e/\a.length=d.length then
  (b ((Y (.ow (Nf 1 f)) :: List.zipWith je a (markL 1 a d))++List.replicate (g-e) O)).bind λo=>match o with
   |.rt v U=>(l5 U 0 (L :: a)).bind λos=>if wC os v=L/\cq os=L then Y (os,v.2) else O
   |.nx U=>(l5 U 0 (L :: a)).bind λos=>if cq os=L then Y (os,.non) else O
   |_=>O else O
 |[]=>O
structure ChI(G:Gx)(H:Hp)(mv:List Bool)(vs:List V)(Fs:Xz)(os:Ut)(H2:Hp)(Gs:Xz):Prop where
 kept:Kept H H2
 keep:∀b o,b∉Jf mv Fs->H b=some o->H2 b=some o
 IH:∀b,H b≠none->H2 b≠none
 rp:RpL G H2 (dw mv vs) os Gs
 nd:Gs.flatten.Nodup
 sub:∀a∈Gs.flatten,a∈Jf mv Fs\/H a=none
def PN(G:Gx)(d:List Bool)(g:Ut->Option (Ut×T)):Sp:=λm H Q _=>∃(a:KM)(i:List V)(j:T)(f:Ut)(F:Wp)(e:Xz)(os:Ut)(x:T),m=.ref a :: i/\Rp G H (.ref a) j F/\RpL G H i f e/\(∀v∈dw d i,∃b,v=.ref b)/\fW j=L/\cq f=L/\d.length=f.length ∧
 (F++Jf d e).Nodup/\(∀b∈F++Jf d e,b∉Lo d e)/\g (j :: f)=Y (os,x)/\∀u l Gs h,ChI G H (L :: d) m (F :: e) os l Gs->Rp G l u x h->h.Nodup->(∀a∈h,a∉Gs.flatten)->(∀a∈h,H a=O\/a∈F++Jf d e)->Q u l
section
def new_apart{n:Int}(r:RpL G H e [.lst [.int n]] Gs)(q:Rp w H u (.lst f) F)(g:f.all zZ=L):∀a∈F,a∉Gs.flatten:=by
 cases r with
 |cons j r1 =>
  cases r1;obtain⟨a,e,y,rfl,rfl,v,t⟩:=j.lst_inv;obtain⟨p,ws,x,rfl,rfl,i,h⟩:=q.lst_inv;rw[h.Ir (tK g).1];intro b hb d;rw[Zk]at hb;subst hb;cases t with
  |cons s o =>
   cases o;cases s;have:b=a:=by simpa using d
   subst this;rw[v]at i;cases i;cases h with
   |cons m l =>
    cases l;cases m;cases g
theorem wa{G:Gx}{m:Me}:∀{bs:List Bool}{d:List V}{e:Ut}{f:Xz}(k:Nat),RpL (G.at m) H d e f->(∀v∈dw bs d,∃b,v=.ref b)->(∀j,m (k+1+j)=d[j]?)->bs.length=e.length->RpL (G.at m) H d (markL k bs e) f
 |[],_,_,_,k,.nil,_,_,_=>.nil
 |[],_,_,_,k,.cons _ _,_,_,h=>by simp at h
 |_ :: _,_,_,_,k,.nil,_,_,h=>by simp at h
 |b :: bs,v :: d,t :: e,F :: f,k,.cons r q,i,l,n=>by
  have g:=wa (bs:=bs) (k+1) q (λw hw=>i w (by cases b<;>simp[dw,hw])) (λj=>by rw[show k+1+1+j=k+1+(j+1) by omega,l (j+1)];rfl) (by simpa using n);cases b with
  |false=>exact .cons r g
  |true =>
   obtain⟨a,rfl⟩:=i v (by simp[dw]);exact .cons (.mk (l 0) r) g
theorem uI{G:Gx}(s:SR (G.at (sU d)) Z U J H):∀(bs:List Bool)(k:Nat)(os:Ut),l5 U k bs=Y os->cq os=L →
  RpL G H (dw bs (d.drop k)) os (N6 Z k bs)/\(N6 Z k bs).flatten.Nodup/\∀a∈(N6 Z k bs).flatten,∃j t,k<=j/\U[j]?=Y (Y (.ow t))/\a∈Z j
 |[],k,os,h,_=>by
  cases h;refine⟨?_,Yt,λa h=>nomatch h⟩;cases d.drop k<;>exact .nil
 |false :: bs,k,os,h,g=>by
  obtain⟨f,o,n⟩:=uI s bs (k+1) os h g;refine⟨?_,o,λa C=>?_⟩
  ·rw[← List.drop_drop,List.drop_one]at f;cases q:d.drop k with
   |nil=>rw[q]at f;cases bs<;>(try rename_i b _;cases b)<;>exact f
   |cons v r=>rw[q]at f;exact f
  ·obtain⟨j,t,w,i⟩:=n a C;exact⟨j,t,by omega,i⟩
 |true :: bs,k,os,h,g=>by
  unfold l5 at h;split at h
  ·rename_i t l;obtain⟨⟨m,u⟩,e1,e2⟩:=Zz.mp h;split at e2
   ·rename_i x;obtain⟨Q,e3,rfl⟩:=Zy.mp e2;have g:=ZU.mp g;obtain⟨f,o,n⟩:=uI s bs (k+1) Q e3 g.2;have N:=mP e1;subst N;have R:m=k+1:=x;subst R;obtain⟨v,S,M⟩:=s.rp k _ l;obtain⟨a,rfl,F,E⟩:=mY (show Rp (G.at (sU d)) H v (.obj 0 [(0,.bl L),(k+1,u)]) (Z k) from M);have D:d[k]?=Y (.ref a):=F;have hd:d.drop k=.ref a :: d.drop (k+1):=by
     obtain⟨y,e⟩:=ZW.mp D;rw[YK y,e]
    refine⟨?_,?_,λb hb=>?_⟩
    ·rw[hd];exact .cons (E.at G.me g.1) f
    ·show (Z k++(N6 Z (k+1) bs).flatten).Nodup;refine ZG.mpr ⟨s.nd k _ l,o,λb hb c A z=>?_⟩;subst z;obtain⟨j,p,w,i,P⟩:=n b A;exact s.sep k j _ _ l i (by omega) b hb P
    ·rcases Zi.mp (show b∈Z k++(N6 Z (k+1) bs).flatten from hb) with z | z
     ·exact⟨k,_,Zp _,l,z⟩
     ·obtain⟨j,p,w,i⟩:=n b z;exact⟨j,p,by omega,i⟩
   ·cases e2
  ·cases h
end
section
variable{K:X0}
def fnI{G:Gx}{st:Stmt}(F:IP K x l st f fd)(S:Il N ps (aq st))(hp:ps.length=np)(hn:N.length=X)(hb:∀(m:Me)(IB:On)(A:SC)(outer:List PySem.Env)(s:IR)(H:Hp)(E:XK),Im k (A.deeper (envOfC l (aq st) s.heap.objs.size f IB))->gE (G.at m) (jC Jk P w K mg base N l (aq st) f IB A outer s H E).LP (bq st) C) :
  FnOk P w K mg base Jk (k+1) f fd ps (PN G mv (Mo np X mv C)):=by
 refine F.ok S (λvs H Q E h=>?_) λIB A outer s H vs Q E hr h=>?_
 ·obtain⟨a,g,t0,d,F0,Fs,os,y,rfl,r0,r,rf,no,nos,hm,nd,sp,e,q⟩:=h;dsimp only[Mo]at e;split at e
  ·rename_i hl;rw[Zg,r.len.1,hl.1,hp]
  ·cases e
 ·obtain⟨a,g,t0,d,F0,Fs,os,y,rfl,r0,r,rf,no,nos,hm,nd,sp,e,q⟩:=h;refine⟨_,hb (sU (.ref a :: g)) IB A outer s H E hr,?_⟩;dsimp only[Mo]at e;split at e
  ·rename_i hl;obtain⟨o,e1,e2⟩:=Zz.mp e;have hml:∀(bs:List Bool)(d:Ut)(k:Nat),bs.length=d.length->(markL k bs d).length=d.length:=by
    intro bs
    induction bs with
    |nil=>intro d k h;rw[Xs.mp h.symm];rfl
    |cons b bs ih =>
     intro d k h;cases d with
     |nil=>simp at h
     |cons t d=>exact congrArg (·+1) (ih d (k+1) (VI h))
   have m1:=wa (m:=sU (.ref a :: g)) (bs:=mv) 1 (r.at (sU (.ref a :: g)) nos) rf (λj=>by rw[show 1+1+j=(1+j)+1 by omega];show (V.ref a :: g)[1+j]?=_;rw[WC 1 j];rfl) hm;obtain⟨s0,L8⟩:=sJ (mv:=mv) (Rp.mk (m:=1) (show (G.at (sU (.ref a :: g))).me 1=Y (.ref a) from rfl) (r0.at (sU (.ref a :: g)) no)) m1 (by rw[hml mv d 1 hm];exact hm) nd sp X (g.length+1) M;rw[hml mv d 1 hm,hl.1]at s0 L8;have e3:L2.start N (V.ref a :: g)=(V.ref a :: g).map Y++List.replicate (X-(g.length+1)) O:=by
    unfold L2.start;rw[hn];rfl
   rw[e3];have Pd:∀b,bB (λi=>(F0 :: Fs).getD i []) ((Y (.ow (Nf 1 t0)) :: List.zipWith je mv (markL 1 mv d))++List.replicate (X-np) O) b->b∈Jf (L :: mv) (F0 :: Fs):=L8;have fin:∀{D:VS.Env}{Z':Iw}{J':L2.St}{p:Hp}{os:Ut},l5 D 0 (L :: mv)=Y os->cq os=L->SR (G.at (sU (.ref a :: g))) Z' D J' p->IE (λi=>(F0 :: Fs).getD i []) ((Y (.ow (Nf 1 t0)) :: List.zipWith je mv (markL 1 mv d))++List.replicate (X-np) O) H Z' D p →
     ChI G H (L :: mv) (.ref a :: g) (F0 :: Fs) os p (N6 Z' 0 (L :: mv)):=λ{D Z' J' p os} ho MU U fr=>by
    obtain⟨h1,h2,h3⟩:=uI U (L :: mv) 0 os ho MU;refine⟨fr.kept,λZ o' J ho=>(fr.keep Z o' ho λz=>J (Pd Z z)).1,fr.IH,h1,h2,λZ J=>?_⟩;obtain⟨j,t,_,a2,a3⟩:=h3 Z J;rcases fr.ow Z ⟨j,t,a2,a3⟩ with z | z
    ·exact .inl (Pd Z z)
    ·exact .inr z
   refine⟨_,_,o,s0,e1,?_⟩;cases o with
   |nx D =>
    obtain⟨os2,e4,R⟩:=Zz.mp e2;split at R
    ·rename_i hi;cases R;intro Z' J' p U fr;exact q .non p _ [] (fin e4 hi U fr) .non Yt (λa h=>nomatch h) λa h=>nomatch h
    ·cases R
   |rt v D =>
    obtain⟨os2,e4,R⟩:=Zz.mp e2;split at R
    ·rename_i hi;cases R;intro u p F' Z' J' U fr r' rf;rcases Bp hi.1 with z | ⟨n,Jv,rfl,rfl,z⟩
     ·have:=r'.Ir z;subst this;exact q u p _ [] (fin e4 hi.2 U fr) (r'.at G.me (nW _ z)) Yt (λa h=>nomatch h) λa h=>nomatch h
     ·have ch:=fin e4 hi.2 U fr;exact q u p _ F' ch (r'.at G.me (tK z).2) rf.1 (new_apart ch.rp r' z) λa ha=>(rf.2 a ha).imp id (Pd a)
    ·cases R
   |bk D=>cases e2
   |ct D=>cases e2
  ·cases e
end
section
def SR.Tn{Z':Iw}{U':VS.Env}{H2:Hp}{S:Nat->Prop}(s:SR G Z U J H)(hl:U'.length=U.length)(m:∀j,¬S j->U'[j]?=U[j]?/\Z' j=Z j)(C:∀j,S j->∃t F v,U[j]?=Y (Y (.ow t))/\U'[j]?=Y (Y (.ow F))/\J[j]?=Y (Y v)/\Rp G H2 v F (Z' j)/\(Z' j).Nodup)(ap:∀i j,S i->S j->i≠j->∀a∈Z' i,a∉Z' j)(x:Kept H H2)(y:∀b o,(∀j,S j->b∉Z j)->H b=Y o->H2 b=Y o)(IH:∀b,H b≠O->H2 b≠O)(A:∀j,S j->∀a∈Z' j,(∃i,S i/\a∈Z i)\/H a=O) :
  SR G Z' U' J H2/\IE Z U H Z' U' H2:=by
 have E:∀j c,¬S j->U[j]?=Y (Y c)->∀a∈Z j,∀i,S i->a∉Z i:=λj c d M a u i f D=>by
  obtain⟨t,_,_,l,_⟩:=C i f;exact s.sep i j t c l M (λe=>d (e ▸ f)) a D u
 have new:∀i,S i->∀a∈Z' i,∀j c,¬S j->U[j]?=Y (Y c)->a∉Z j:=λi f a u j c d M D=>by
  rcases A i f a u with⟨k,hk,z⟩ | z
  ·exact E j c d M a D k hk z
  ·obtain⟨w,_,q⟩:=s.rp j c M;exact Iy.oe (q.IH a D) z
 refine⟨⟨hl.trans s.len,λi c h=>?_,λi t h=>?_,λi j t c l r n=>?_⟩,⟨λa o h n=>⟨y a o (λj d z=>?_) h,λz=>?_⟩,IH,λa h=>?_,λa h=>?_,x⟩⟩
 ·by_cases f:S i
  ·obtain⟨t,F,v,g,p,P,N,_⟩:=C i f;rw[p]at h;cases h;exact⟨v,P,N⟩
  ·obtain⟨g,p⟩:=m i f;rw[g]at h;obtain⟨v,R,Q⟩:=s.rp i c h;rw[p];exact⟨v,R,Q.keep x λa u o X=>y a o (λj d=>E i c f h a u j d) X⟩
 ·by_cases f:S i
  ·exact(C i f).choose_spec.choose_spec.choose_spec.2.2.2.2
  ·obtain⟨g,p⟩:=m i f;rw[g]at h;rw[p];exact s.nd i t h
 ·by_cases f:S i
  ·by_cases d:S j
   ·exact ap i j f d n
   ·obtain⟨g,p⟩:=m j d;rw[g]at r;rw[p];exact λa u=>new i f a u j c d r
  ·obtain⟨g,p⟩:=m i f;rw[g]at l;rw[p];by_cases d:S j
   ·exact λa u D=>new j d a D i _ f l u
   ·obtain⟨P,N⟩:=m j d;rw[P]at r;rw[N];exact s.sep i j t c l r n
 ·obtain⟨t,_,_,l,_⟩:=C j d;exact n ⟨j,t,l,z⟩
 ·obtain⟨j,t,l,r⟩:=z;by_cases d:S j
  ·rcases A j d a r with⟨i,f,z⟩ | z
   ·obtain⟨t,_,_,g,_⟩:=C i f;exact n ⟨i,t,g,z⟩
   ·rw[z]at h;cases h
  ·obtain⟨g,p⟩:=m j d;rw[g]at l;rw[p]at r;exact n ⟨j,t,l,r⟩
 ·obtain⟨j,t,l,r⟩:=h;by_cases d:S j
  ·rcases A j d a r with⟨i,f,z⟩ | z
   ·obtain⟨t,_,_,g,_⟩:=C i f;exact .inl ⟨i,t,g,z⟩
   ·exact .inr z
  ·obtain⟨g,p⟩:=m j d;rw[g]at l;rw[p]at r;exact .inl ⟨j,t,l,r⟩
 ·obtain⟨j,t,l,r⟩:=h;by_cases d:S j
  ·obtain⟨t,F,v,g,p,_⟩:=C j d;rw[p]at l;cases l
  ·obtain⟨g,p⟩:=m j d;rw[g]at l;rw[p]at r;exact .inl ⟨j,t,l,r⟩
end
inductive Ia where | io (i:Nat) (un:Bool) | ex (c:Ex)
def OE(a:Bool):Option (Uw)->Option T
 |some (some (.ow t))=>if a then (MA t).map (·.2) else if oA t then Y t else O
 |_=>O
def Rk(v:Val):Option T:=match v.1 with
 |.bo=>if Ir v.2 then Y v.2 else O
 |_=>Y v.2
def kb(U:VS.Env):List Ia->Option (Ut)
 |[]=>Y []
 |.io i un :: a=>(OE un U[i]?).bind λt=>(kb U a).map (t :: ·)
 |.ex c :: a=>(c U).bind λv=>(Rk v).bind λt=>(kb U a).map (t :: ·)
noncomputable def Jp:List Ia->List Bool
 |[]=>[]
 |.io _ _ :: a=>L :: Jp a
 |.ex _ :: a=>B :: Jp a
noncomputable def Jb:List Ia->Vu
 |[]=>[]
 |.io i _ :: a=>i :: Jb a
 |.ex _ :: a=>Jb a
def pD(a:Bool)(c:Option (Uw))(o:T):T:=if a then (match c with
 |some (some (.ow t))=>(match MA t with
  |some z=>Nf z.1 o
  |none=>o)
 |_=>o) else o
def iJ:List Ia->Ut->VS.Env->VS.Env
 |.io i un :: a,o :: os,U=>iJ a os (U.set i (Y (.ow (pD un U[i]? o))))
 |.ex _ :: a,os,U=>iJ a os U
 |_,_,U=>U
def lP(a:List Ia)(g:Ut->Option (Ut×T)):Xx:=λU=>(kb U a).bind λb=>if cq b=L/\(Jb a).Nodup then (g b).map λz=>((.fr,z.2),iJ a z.1 U) else O
inductive NT(Z:Iw)(U:VS.Env)(J:L2.St)(H:Hp):List Ia->List V->Xz->Prop
 |nil:NT Z U J H [] [] []
 |io {i:Nat} {un:Bool} {a:KM} {as:List Ia} {vs:List V} {Fs:Xz}:J[i]?=some (some (.ref a))->NT Z U J H as vs Fs->NT Z U J H (.io i un :: as) (.ref a :: vs) (Z i :: Fs)
 |ex {c:Ex} {v:V} {F:Wp} {as:List Ia} {vs:List V} {Fs:Xz}:(∀a∈F,H a=none\/cL Z U a)->NT Z U J H as vs Fs->NT Z U J H (.ex c :: as) (v :: vs) (F :: Fs)
section
def Ew(r:Rp G H v t F)(h:oA t=L):∃a,v=.ref a:=by
 cases r<;>first | exact⟨_,rfl⟩ | (cases h)
end
section
structure IaF(G:Gx)(Z:Iw)(U:VS.Env)(J:L2.St)(H:Hp)(as:List Ia)(ts:Ut)(vs:List V)(Fs:Xz):Prop where
 ref:∀v∈dw (Jp as) vs,∃b,v=.ref b
 len:(Jp as).length=ts.length
 mv:∀a,a∈Jf (Jp as) Fs ↔ ∃j∈Jb as,a∈Z j
 pu:∀a∈Lo (Jp as) Fs,H a=none\/cL Z U a
 ow:∀i un,Ia.io i un∈as->∃t a,U[i]?=some (some (.ow t))/\J[i]?=some (some (.ref a))/\(un=true->∃m u,MA t=some (m,u)/\G.me m=some (.ref a))
 nd:(Jb as).Nodup->(Jf (Jp as) Fs).Nodup
theorem jr:∀{a:List Ia}{i:Nat},i∈Jb a ↔ ∃un,Ia.io i un∈a
 |[],i=>⟨(λh=>nomatch h),λ⟨_,h⟩=>nomatch h⟩
 |.io j un :: a,i=>by
  show i∈j :: Jb a↔_;rw[Zj,jr];constructor
  ·rintro (rfl | ⟨u,h⟩)
   ·exact⟨un,Zx⟩
   ·exact⟨u,Zv _ h⟩
  ·rintro⟨u,h⟩;rcases Zj.mp h with h | h
   ·cases h;exact .inl M
   ·exact .inr ⟨u,h⟩
 |.ex c :: a,i=>by
  show i∈Jb a↔_;rw[jr];exact⟨λ⟨u,h⟩=>⟨u,Zv _ h⟩,λ⟨u,h⟩=>by
   rcases Zj.mp h with h | h
   ·cases h
   ·exact⟨u,h⟩⟩
def AG(s:SR G Z U J H):∀{d:List Ia}{q:Ut}{o:List V}{l:Xz},kb U d=Y q->NT Z U J H d o l->IaF G Z U J H d q o l:=by
 intro d
 induction d with
 |nil =>
  intro q o l e r;cases e;cases r;exact⟨(λv h=>nomatch h),rfl,λa=>⟨(λh=>nomatch h),λ⟨_,h,_⟩=>nomatch h⟩,(λa h=>nomatch h),(λi un h=>nomatch h),λ_=>Yt⟩
 |cons x d R =>
  intro q o l e r;cases r with
  |@io i un a _ o l h r =>
   obtain⟨t,e1,e2⟩:=Zz.mp (show (OE un U[i]?).bind (λt=>(kb U d).map (t :: ·))=Y q from e);obtain⟨Q,e3,rfl⟩:=Zy.mp e2;have f:=R e3 r;have hi:∃p,U[i]?=Y (Y (.ow p))/\(un=L->∃m u,MA p=Y (m,u)/\G.me m=Y (.ref a)):=by
    unfold OE at e1;split at e1
    ·rename_i p w;refine⟨p,w,λN=>?_⟩;rw[N,Zo M]at e1;obtain⟨⟨m,u⟩,A,g2⟩:=Zy.mp e1;obtain⟨v,S,h2⟩:=s.rp _ _ w;rw[h]at S;cases S;have X:Rp G H (.ref a) p (Z i):=h2;rw[mP A]at X;obtain⟨a',q1,q2,_⟩:=mY X;cases q1;exact⟨m,u,A,q2⟩
    ·cases e1
   obtain⟨p,w,N⟩:=hi;have C:∀b,b∈Z i++Jf (Jp d) l ↔ ∃j∈i :: Jb d,b∈Z j:=λb=>by
    rw[Zi,f.mv];constructor
    ·rintro (z | ⟨j,n,z⟩)
     ·exact⟨i,Zx,z⟩
     ·exact⟨j,Zv _ n,z⟩
    ·rintro⟨j,n,z⟩;rcases Zj.mp n with rfl | n
     ·exact .inl z
     ·exact .inr ⟨j,n,z⟩
   refine⟨λv E=>?_,?_,C,?_,λD y g=>?_,λnd=>?_⟩
   ·rcases Zj.mp (show v∈V.ref a :: dw (Jp d) o from E) with rfl | E
    ·exact⟨a,rfl⟩
    ·exact f.ref v E
   ·show (Jp d).length+1=Q.length+1;rw[f.len]
   ·exact λb hb=>f.pu b hb
   ·rcases Zj.mp g with g | g
    ·cases g;exact⟨p,a,w,h,N⟩
    ·exact f.ow D y g
   ·have Jg:=ZY.mp (show (i :: Jb d).Nodup from nd);show (Z i++Jf (Jp d) l).Nodup;refine ZG.mpr ⟨s.nd i _ w,f.nd Jg.2,λb hb b' P z=>?_⟩;subst z;obtain⟨j,n,z⟩:=(f.mv b).mp P;obtain⟨y,J5⟩:=jr.mp n;obtain⟨t',_,A,_⟩:=f.ow j y J5;exact s.sep i j _ _ w A (λe=>Jg.1 (e ▸ n)) b hb z
  |@ex c v F _ o l h r =>
   obtain⟨⟨m,t⟩,e1,e2⟩:=Zz.mp (show (c U).bind (λv=>(Rk v).bind λt=>(kb U d).map (t :: ·))=Y q from e);obtain⟨t',_,e4⟩:=Zz.mp e2;obtain⟨Q,e5,rfl⟩:=Zy.mp e4;have f:=R e5 r;refine⟨f.ref,?_,f.mv,λa ha=>?_,λD y g=>?_,f.nd⟩
   ·show (Jp d).length+1=Q.length+1;rw[f.len]
   ·rcases Zi.mp (show a∈F++Lo (Jp d) l from ha) with z | z
    ·exact h a z
    ·exact f.pu a z
   ·rcases Zj.mp g with g | g
    ·cases g
    ·exact f.ow D y g
def xG{G:Gx}{J:L2.St}:∀{d:List Ia}{vs:List V}{Fs:Xz}{os:Ut}{Gs:Xz}{U:VS.Env},(∀i un,Ia.io i un∈d->∃t a,U[i]?=Y (Y (.ow t))/\J[i]?=Y (Y (.ref a))/\(un=L->∃m u,MA t=Y (m,u)/\G.me m=Y (.ref a)))->(Jb d).Nodup →
  (∀(n:Nat)(v:V),(dw (Jp d) vs)[n]?=Y v->∃i:Nat,(Jb d)[n]?=Y i/\J[i]?=Y (Y v))->RpL G H2 (dw (Jp d) vs) os Gs->(dw (Jp d) vs).length=(Jb d).length →
  (iJ d os U).length=U.length/\(∀j:Nat,j∉Jb d->(iJ d os U)[j]?=U[j]?)/\∀(n j:Nat),(Jb d)[n]?=Y j->∃(t l:T)(v:V)(F:Wp),U[j]?=Y (Y (Cell.ow t))/\(iJ d os U)[j]?=Y (Y (Cell.ow l))/\J[j]?=Y (Y v)/\Gs[n]?=Y F/\Rp G H2 v l F:=by
 intro d
 induction d with
 |nil=>intro vs Fs os Gs U _ _ _ r _;exact⟨rfl,λ_ _=>rfl,λn j h=>by simp[Jb]at h⟩
 |cons x d A =>
  intro vs Fs os Gs U ow nd al r q;cases x with
  |ex c =>
   cases vs with
   |nil =>
    have e:(dw (Jp (.ex c :: d)) ([]:List V))=[]:=rfl;have e2:Jb d=[]:=Xs.mp (by rw[e]at q;exact q.symm);rw[e]at r;cases r;obtain⟨P,s,N⟩:=A (vs:=[]) (os:=[]) (Gs:=[]) (Fs:=Fs) (U:=U) (λi un h=>ow i un (Zv _ h)) nd (λn v h=>by cases Jp d<;>(try rename_i b _;cases b)<;>simp[dw]at h) (by cases Jp d<;>(try rename_i b _;cases b)<;>exact .nil) (by rw[e2];cases Jp d<;>(try rename_i b _;cases b)<;>rfl);exact⟨P,s,N⟩
   |cons v vs=>exact A (Fs:=Fs) (λi un h=>ow i un (Zv _ h)) nd al r q
  |io i un =>
   have y:=ZY.mp (show (i :: Jb d).Nodup from nd);cases vs with
   |nil=>simp[Jp,dw,Jb]at q
   |cons v vs =>
    cases r with
    |@cons _ o F _ os Gs Q r =>
     obtain⟨t,a,E,S,hu⟩:=ow i un Zx;have D:i<U.length:=(ZW.mp E).1;have hv:v=.ref a:=by
      obtain⟨p,g,f⟩:=al 0 v M;cases (show Y i=Y p from g);rw[S]at f;cases f;rfl
     subst hv;obtain⟨P,s,N⟩:=A (vs:=vs) (os:=os) (Gs:=Gs) (Fs:=Fs) (U:=U.set i (Y (.ow (pD un U[i]? o)))) (λp X h=>by
      obtain⟨l,a',g,f⟩:=ow p X (Zv _ h);have ne:i≠p:=λe=>y.1 (e ▸ jr.mpr ⟨X,h⟩);exact⟨l,a',by rw[YT ne];exact g,f⟩) y.2 (λn w h=>by
      obtain⟨p,g,f⟩:=al (n+1) w h;exact⟨p,g,f⟩) r (by simpa[Jp,dw,Jb] using q)
     refine⟨by rw[show iJ (.io i un :: d) (o :: os) U=iJ d os (U.set i (Y (.ow (pD un U[i]? o)))) from rfl,P,Yg],λj R=>?_,λn j C=>?_⟩
     ·have J5:j≠i/\j∉Jb d:=⟨λe=>R (e ▸ Zx),λz=>R (Zv _ z)⟩
      exact(s j J5.2).trans (YT (YH J5.1))
     ·cases n with
      |zero =>
       cases (show Y i=Y j from C);refine⟨t,_,.ref a,F,E,(s i y.1).trans (Wg D),S,rfl,?_⟩;cases un with
       |false=>exact Q
       |true =>
        obtain⟨m,u,g,f⟩:=hu M;have:pD L U[i]? o=Nf m o:=by
         unfold pD;rw[Zo M,E];show (match MA t with | some z=>Nf z.1 o | none=>o)=_;rw[g]
        rw[this];exact .mk f Q
      |succ n =>
       obtain⟨l,t2,v',F',g,f,g3,g4,g5⟩:=N n j C;have ne:i≠j:=λe=>y.1 (e ▸ YU (show (Jb d)[n]?=Y j from C));rw[YT ne]at g;exact⟨l,t2,v',F',g,f,g3,g4,g5⟩
def Hw:∀{b:List Ia}{d:List V}{f:Xz},NT Z U J j b d f->(∀(n:Nat)(v:V),(dw (Jp b) d)[n]?=Y v->∃i:Nat,(Jb b)[n]?=Y i/\J[i]?=Y (Y v))/\(dw (Jp b) d).length=(Jb b).length:=by
 intro b d f r
 induction r with
 |nil=>exact⟨λn v h=>by simp[Jp,dw]at h,rfl⟩
 |@io i un a b d f h _ e =>
  refine⟨λn v g=>?_,by simpa[Jp,dw,Jb] using e.2⟩;cases n with
  |zero=>cases (show Y (V.ref a)=Y v from g);exact⟨i,rfl,h⟩
  |succ n=>exact e.1 n v g
 |ex _ _ e=>exact e
end
section
structure RG(Z:Iw)(U:VS.Env)(H:Hp)(Z':Iw)(U':VS.Env)(F:Wp):Prop where
 nd:F.Nodup
 ap:∀j c,U'[j]?=some (some c)->∀a∈F,a∉Z' j
 of:∀a∈F,H a=none\/bB Z U a
noncomputable def tXN(G:Gx)(x:Xx):TE:=λJ H Q=>∃Z U v a,SR G Z U J H/\x U=Y (v,a)/\∀u b d F,SR G d a J b->IE Z U H d a b->Rp G b u v.2 F->RG Z U H d a F->Q u b
def PXN(G:Gx)(X:Cx)(e:Expr)(x:Xx):Prop:=PE X e (tXN G x)
def PXN.px{x:Xx}(h:PXN G X e x):PX G X e x:=PE.weak h λJ H Q b=>by
 obtain⟨Z,U,v,l,s,e,d,k⟩:=b;exact⟨Z,U,v,l,s,e,λu m j F a f r _=>k u m j a f (r.Ir d ▸ r)⟩
def RG.back(f:IE Z U H b h l)(n:RG b h l d j F):RG Z U H d j F :=
 ⟨n.nd,n.ap,λa m=>(n.of a m).elim (λz=>.inl (f.none z)) λz=>(f.ow a z).elim .inr .inl⟩
def t6(s:SR G Z U J H)(e:lP (.io i un :: as) g U=Y (v,U'))(e0:kb U (.io i un :: as)=Y ts)(sm:aM H H1)(rp:RpL G H1 vs ts Fs)(ia:NT Z U J H (.io i un :: as) vs Fs)(kq:∀u P Z' F,SR G Z' U' J P->IE Z U H Z' U' P->Rp G P u v.2 F->RG Z U H Z' U' F->Q u P):PN G (Jp as) g vs H1 Q E:=by
 unfold lP at e;rw[e0,Zs]at e;have e2:=e;have e1:=e0;split at e2
 ·rename_i N;obtain⟨⟨os,y⟩,eg,e3⟩:=Zy.mp e2
  ·cases e3;have r:=AG s e1 ia;have al:=Hw ia;cases ia with
   |@io _ _ a _ us Fs hσ ia =>
    cases rp with
    |@cons _ t0 _ _ Jv _ r0 rp =>
     have no:fW t0=L/\cq Jv=L:=by
      have:=N.1;have this:=ZU.mp this;exact this
     refine⟨a,us,t0,Jv,Z i,Fs,os,y,rfl,r0,rp,λv hv=>r.ref v (Zv _ hv),no.1,no.2,by simpa[Jp] using r.len,r.nd N.2,λb hb hb'=>?_,eg,λu P Gs Fu ch ru fnd fap fof=>?_⟩
     ·obtain⟨j,d,z⟩:=(r.mv b).mp hb;obtain⟨L4,R⟩:=jr.mp d;obtain⟨t,_,A,_⟩:=r.ow j L4 R;rcases r.pu b hb' with q | ⟨j2,t2,M,D⟩
      ·exact Iy.oe (s.Jd ⟨j,t,A,z⟩) q
      ·refine s.sep j j2 t _ A M (λe=>?_) b z D;rw[e,M]at A;cases A
     ·obtain⟨p1,p2,p3⟩:=xG (Fs:=[]) (U:=U) r.ow N.2 al.1 ch.rp al.2;have at_:∀j,j∈Jb (.io i un :: as)->∃n F,(Jb (.io i un :: as))[n]?=Y j/\n=(Jb (.io i un :: as)).idxOf j/\Gs[n]?=Y F:=λj d=>by
       have hn:=Wy.mpr d;have:(Jb (.io i un :: as))[(Jb (.io i un :: as)).idxOf j]?=Y j:=by
        rw[Zq hn,W5]
       obtain⟨_,_,_,F,_,_,_,q,_⟩:=p3 _ j this;exact⟨_,F,this,rfl,q⟩
      have Φe:∀j,j∈Jb (.io i un :: as)->(if j∈Jb (.io i un :: as) then Gs.getD ((Jb (.io i un :: as)).idxOf j) [] else Z j)=Gs.getD ((Jb (.io i un :: as)).idxOf j) []:=λj d=>Zo d;obtain⟨z1,z2⟩:=s.Tn (S:=λj=>j∈Jb (.io i un :: as)) (H2:=P) (U':=iJ (.io i un :: as) os U) (Z':=λj=>if j∈Jb (.io i un :: as) then Gs.getD ((Jb (.io i un :: as)).idxOf j) [] else Z j) p1 (λj d=>⟨p2 j d,Zl d⟩) (λj d=>by
       obtain⟨n,F,M,D,m⟩:=at_ j d
       obtain⟨t,t',v,F',w1,w2,w3,w4,w5⟩:=p3 n j M;rw[m]at w4;cases w4;have eF:(if j∈Jb (.io i un :: as) then Gs.getD ((Jb (.io i un :: as)).idxOf j) [] else Z j)=F:=by rw[Φe j d,← D,Zr,m];rfl
       refine⟨t,t',v,w1,w2,w3,?_,?_⟩
       ·rw[eF];exact w5
       ·rw[eF];exact ch.nd.sublist (cn m)) (λj j' d R n a l C=>by
       rw[Φe j d]at l;rw[Φe j' R]at C;obtain⟨n1,F,M,D,m⟩:=at_ j d
       obtain⟨n2,F',P0,SV,q3'⟩:=at_ j' R
       rw[← D,Zr,m]at l;rw[← SV,Zr,q3']at C;exact qO ch.nd m q3' (λe=>n (by rw[e,P0]at M;exact(Zh M).symm)) l C) ((Kept.of sm).trans ch.kept) (λb o hb ho=>ch.keep b o (λz=>by
       obtain⟨j,d,z'⟩:=(r.mv b).mp z;exact hb j d z') (sm b o ho)) (λb h=>ch.IH b λz=>h (sm.free z)) (λj d a l=>by
       rw[Φe j d]at l;obtain⟨n1,F,M,D,m⟩:=at_ j d
       rw[← D,Zr,m]at l;rcases ch.sub a ((cn m).subset l) with z | z
       ·exact .inl ((r.mv a).mp z)
       ·exact .inr (sm.free z))
      have Ri:∀a∈Fu,H a=O\/∃j t,j∈Jb (.io i un :: as)/\U[j]?=Y (Y (.ow t))/\a∈Z j:=λa l=>by
       rcases fof a l with z | z
       ·exact .inl (sm.free z)
       ·obtain⟨j,d,z'⟩:=(r.mv a).mp z;obtain⟨L4,R⟩:=jr.mp d;obtain⟨t,_,A,_⟩:=r.ow j L4 R;exact .inr ⟨j,t,d,A,z'⟩
      refine kq u P _ Fu z1 z2 ru ⟨fnd,λj c N a l C=>?_,λa l=>(Ri a l).imp id λ⟨j,t,_,A,g2⟩=>⟨j,t,A,g2⟩⟩;by_cases d:j∈Jb (.io i un :: as)
      ·rw[Φe j d]at C;obtain⟨n1,F,M,D,m⟩:=at_ j d
       rw[← D,Zr,m]at C;exact fap a l ((cn m).subset C)
      ·rw[Zl d]at C;rw[p2 j d]at N;rcases Ri a l with z | ⟨j2,t,g0,A,g2⟩
       ·obtain⟨w,_,q⟩:=s.rp j c N;exact Iy.oe (q.IH a C) z
       ·exact s.sep j2 j t c A N (λe=>d (e ▸ g0)) a g2 C
 ·cases e2
end
def Pu(c:Ex):Ex:=λU=>(c U).bind λv=>(MA v.2).map λz=>(v.1,z.2)
abbrev Xt:=VS.Env->Option (Bool×VS.Env)
noncomputable def Z6(G:Gx)(x:Xt):TT:=λJ H Q=>∃Z U b a,SR G Z U J H/\x U=Y (b,a)/\∀d e,SR G e a J d->IE Z U H e a d->Q b d
def Oi(G:Gx)(X:Cx)(e:Expr)(x:Xt):Prop:=PT X e (Z6 G x)
def Px(G:Gx)(X:Cx)(e:Expr)(x:Xt):Prop:=PW X e (Z6 G x)
noncomputable def Mg(x:Xx):Xt:=λU=>(x U).bind λz=>match z.1.2 with
 |.bl b=>Y (b,z.2)
 |_=>O
noncomputable def qj(x:Xt)(a b:Sx):Sx:=λU=>(x U).bind λz=>if z.1 then a z.2 else b z.2
section
def GF(h:PV G X e c):PV G X e (Pu c):=PE.weak h λJ H Q l=>by
 obtain⟨Z,U,m,t,s,e,k⟩:=l;obtain⟨⟨j,y⟩,e1,e2⟩:=Zz.mp e;obtain⟨⟨n,u⟩,e3,o⟩:=Zy.mp e2;cases o;refine⟨Z,U,j,y,s,e1,λv g F i r f=>k v g F i ?_ f⟩;have d:Rp G g v y F:=r;rw[mP (show MA y=Y (n,u) from e3)]at d;obtain⟨a,rfl,_,q⟩:=mY d;exact q
def Px.pxt(h:Px G X e xt):Oi G X e xt:=PW.pt h
def tY(l:Oi G X e xt)(n:gE G X h c1)(m:gE G X f c2):PSV G X (.If e h f pos) (qj xt c1 c2):=PS.weak (Dq l n m) λD J H j=>by
 obtain⟨Z,U,o,s,e,k⟩:=j;obtain⟨⟨g,d⟩,e1,e2⟩:=Zz.mp e;refine⟨Z,U,g,d,s,e1,λp i s1 f1=>?_⟩;cases g with
 |true=>exact wW ⟨i,d,o,s1,e2,k.back f1⟩
 |false=>exact xD ⟨i,d,o,s1,e2,k.back f1⟩
end
structure IoAt(P:Re)(w:XAB)(K:X0)(mg:Wq)(base:XAA)(k:Nat)(x:Str)(ps:List Str)(G:Gx)(mv:List Bool)(g:Ut->Option (Ut×T)):Prop where
 ex:∃f fd,FnOk P w K mg base Jk k f fd ps (PN G mv g)/\mg x=some (.ref f)/\PySem.W.keepIn K (.ref f)=true/\Binds K fd ps []
section
variable{K:X0}
def oj{G:Gx}(F:IP K x x a f i)(n:mg x=Y (.ref f))(S:Il N ps (aq a))(j:ps.length=g)(l:N.length=h)(p:∀(kV doc pm:On)(an:Option KM)(d ct:On)(e:W7),e.length=ps.length->bindArgs (PySem.W.fnOf x x (dU a) (bq a) (aq a) .none kV doc pm an d ct) ⟨e,[]⟩=pure (ps.zip e))(o:∀(m:Me)(d:On)(A:SC)(outer:List PySem.Env)(s:IR)(H:Hp)(E:XK),Im k (A.deeper (envOfC x (aq a) s.heap.objs.size f d))->gE (G.at m) (jC Jk P w K mg base N x (aq a) f d A outer s H E).LP (bq a) b) :
  IoAt P w K mg base (k+1) x ps G mv (Mo g h mv b):=⟨f,i,fnI F S j l o,n,F.kp,F.binds p⟩
end
end VS
end
section
namespace VS
open PySem PySem.Spec PyProof.Rows L2
section
def oq{b:Expr}(o:PV G X a g)(n:PV G X b f)(l:PV G X c d)(j:lastMarks [.Lt,.Lt] [b,c]=B):Kg G X (.Compare a [.Lt,.Lt] [b,c] pos) (fP oLt oLt g f d) :=
 PT.weak (AQ og og o n l j) λJ H Q h=>rN h (λU m r e=>by
  unfold fP at e;obtain⟨x,v,e⟩:=Zz.mp e;obtain⟨y,u,e⟩:=Zz.mp e;obtain⟨⟨p,z⟩,s,e⟩:=Zz.mp e;cases z with
  |bl q =>
   cases q with
   |false=>cases e;exact⟨_,rfl⟩
   |true =>
    obtain⟨i,t,e⟩:=Zz.mp (show (d U).bind (λz=>oLt y z)=Y (m,r) from e);exact iU y i m r e
  |_=>cases e) λQ h=>r6 tW tW h
end
def xI(c:Ex):Xx:=λU=>(c U).bind λv=>if Ir v.2=L then Y ((.fr,v.2),U) else O
def x2(f:Val->Val->Uu)(a b:Xx):Xx:=λU=>(a U).bind λz=>(b z.2).bind λw=>(f (.fr,z.1.2) (.fr,w.1.2)).bind λv=>if Ir z.1.2=L/\Ir w.1.2=L/\Ir v.2=L then Y ((.fr,v.2),w.2) else O
def gg(c:Ex)(x:Xt):Xt:=λU=>(c U).bind λv=>(MD v.2).bind λb=>if b then x U else Y (B,U)
def iZ(c:Ex)(b:Xx):Xx:=λU=>(c U).bind λx=>match x with
 | (.fr,.lst a)=>(b U).bind λz=>match z.1.2 with
  |.int i=>(Jx a.length i).bind λj=>(a[j]?).bind λt=>if dJ a=L/\Ir t=L then Y ((.fr,t),z.2) else O
  |_=>O
 |_=>O
def rR(n:Nat)(b:Xx):Xx:=λU=>match (U[n]?:Option (Uw)) with
 |some (some _)=>(b U).bind λz=>match z.1.2,(z.2[n]?:Option (Uw)) with
  |.int i,some (some c)=>(match iF c with
   |.lst a=>(Jx a.length i).bind λj=>(a[j]?).bind λt=>if Ir t=L then Y ((.fr,t),z.2) else O
   |_=>O)
  |_,_=>O
 |_=>O
section
def aG(h:PV G X e ca):PX G X e (xI ca):=PE.weak h λJ H Q g=>by
 obtain⟨Z,U,v,n,s,e,l,k⟩:=g;obtain⟨⟨m,t⟩,e1,e2⟩:=Zz.mp e;split at e2
 ·rename_i i;cases e2;refine⟨Z,U,m,t,s,e1,λu j F d r f=>k u j Z (s.same d) (IE.same d) ?_⟩;have:=r.Ir i;subst this;exact r
 ·cases e2
def vY(u:d6 G r f){Q:VK}(h:tX G (x2 f xa xb) J H Q):Pc r (tX G xa) (tX G xb) J H Q:=by
 obtain⟨Z,U,v,N,s,e,E,k⟩:=h;obtain⟨z,A,e1⟩:=Zz.mp e;obtain⟨w,y,e2⟩:=Zz.mp e1;obtain⟨⟨m,t⟩,x,e3⟩:=Zz.mp e2;split at e3
 ·rename_i d;cases e3;refine⟨Z,U,z.1,z.2,s,A,d.1,λp P C s1 f1 r1=>⟨C,z.2,w.1,w.2,s1,y,d.2.1,λo l j q f2 r2=>?_⟩⟩;refine u j w.2 l l (.fr,z.1.2) (.fr,w.1.2) p o [] [] m t Q ⟨aM.refl _,r1.keep f2.kept (λa h=>nomatch h),r2,Fp.nil,Fp.nil,λ_ _=>Yt⟩ x λn D F g i M=>k n D j (q.same g) ((f1.trans f2).trans (IE.same g)) ?_;have:=i.Ir d.2.2;subst this;exact i
 ·cases e3
def o8(i:OpR X (binaryOp d) r)(g:d6 G r f)(l:PX G X a xa)(j:PX G X b xb):PX G X (.BinOp a d b pos) (x2 f xa xb):=PE.weak (DA i l j) λJ H Q h=>vY g h
def Fh(i:OpR X (UV d) r)(g:d6 G r f)(m:PX G X a xa)(l:PX G X b xb)(j:behindInMarks d b=B):PX G X (.Compare a [d] [b] pos) (x2 f xa xb):=PE.weak (u4 i m l j) λJ H Q h=>vY g h
def pT(l:OpR X (UV d) r)(j:d6 G r f)(p:PX G X a xa)(o:PX G X b xb)(n:behindInMarks d b=B):Oi G X (.Compare a [d] [b] pos) (Mg (x2 f xa xb)):=PT.weak (vo l p o n) λJ H Q h=>by
 obtain⟨Z,U,b,w,s,e,k⟩:=h;obtain⟨⟨⟨m,t⟩,v⟩,e1,e2⟩:=Zz.mp e;dsimp only at e2;split at e2
 ·cases e2;exact vY (Q:=λx g=>∃k,x=.bl k/\Q k g) j ⟨Z,U,_,_,s,e1,rfl,λu g q i f r=>⟨b,r.JL,k g q i f⟩⟩
 ·cases e2
def AD(i:PX G X a xa)(g:PX G X b xb)(d:gz b:=by exact λ_ _=>rfl)(j:{`q7,X.K=G.K}):PX G X (.Subscript a b pos) (x2 aJ xa xb):=PE.weak (n9 jP i g d) λJ H Q h=>by
 rw[j];exact vY ux h
def yr(h:Oi G X e xt):Px G X (.BoolOp .And [e] pos) xt:=qN h
def CC{G:Gx}{X:Cx}{a:Expr}{rest:List Expr}{ca:Ex}{xt:Xt}{pos:Pos}(n:Kg G X a ca)(l:Px G X (.BoolOp .And (b :: rest) pos) xt):Px G X (.BoolOp .And (a :: b :: rest) pos) (gg ca xt):=PW.weak (zI n l) λJ H Q j=>by
 obtain⟨Z,U,r,p,s,e,k⟩:=j;obtain⟨⟨m,t⟩,e1,e2⟩:=Zz.mp e;obtain⟨h,e3,g⟩:=Zz.mp e2;refine⟨Z,U,m,t,h,s,e1,e3,λq d=>?_⟩;cases h with
 |true=>exact wW ⟨Z,U,r,p,s.same d,g,λu o i f=>k u o i ((IE.same d).trans f)⟩
 |false =>
  cases g;exact xD (k q Z (s.same d) (IE.same d))
def nB(N:PV G X a ca)(M:PX G X b xb)(C:gz b:=by exact λ_ _=>rfl)(P:{`q7,X.K=G.K}):PX G X (.Subscript a b pos) (iZ ca xb):=PE.weak (n9 jP N M C) λJ H Q D=>by
 obtain⟨Z,U,v,U',s,e,hi,k⟩:=D;obtain⟨x,ea,e1⟩:=Zz.mp e;split at e1
 ·rename_i p;obtain⟨z,eb,e2⟩:=Zz.mp e1;split at e2
  ·rename_i y m;obtain⟨j,S,e3⟩:=Zz.mp e2;obtain⟨t,R,d⟩:=Zz.mp e3;split at d
   ·rename_i F;cases d;refine⟨Z,U,.fr,.lst p,s,ea,λu H1 F1 i r1 f1=>⟨Z,U,z.1,z.2,s.same i,eb,by rw[m];rfl,λw H2 Z2 q f2 r2=>?_⟩⟩;obtain⟨a,n,Fs,rfl,rfl,LC,l⟩:=r1.lst_inv;have E:¬bB Z U a:=λz=>Iy.oe (s.Jd z) (f1.2 a Zx);have Ma:=(f2.keep a _ LC E).1;obtain⟨x,Fx,o,u2,g⟩:=l.get j R;have A:=g.Ir F.2;subst A;rw[m]at r2;refine .inl ⟨a,n,y,x,rfl,r2.int_inv,by rw[P];exact IF.of Ma,jY (by rw[l.len.1];exact S) o,?_⟩;exact k x H2 Z2 q ((IE.same i).trans f2) (g.keep f2.kept (λa h=>nomatch h))
   ·cases d
  ·cases e2
 ·cases e1
end
section
noncomputable def P1(Z:Iw):Iw:=λi=>match i with
 |0=>[]
 |i+1=>Z i
def As:bB (P1 Z) (Y (.pu t) :: U) a↔bB Z U a:=by
 constructor
 ·rintro⟨j,u,b,d⟩;cases j with
  |zero=>cases (show Y (Y (Cell.pu t))=Y (Y (Cell.ow u)) from b)
  |succ j=>exact⟨j,u,b,d⟩
 ·rintro⟨j,u,b,d⟩;exact⟨j+1,u,b,d⟩
def Hg(h:cL (P1 Z) (Y (.pu t) :: U) a):cL Z U a:=by
 obtain⟨j,u,d,b⟩:=h;cases j with
 |zero=>exact nomatch b
 |succ j=>exact⟨j,u,d,b⟩
def SR.ps{v:V}{t:T}(s:SR G Z U J H)(r:Rp G H v t []):SR G (P1 Z) (Y (.pu t) :: U) (Y v :: J) H:=by
 refine⟨by rw[Zg,Zg,s.len],λi c h=>?_,λi u h=>?_,λi j u c b d n=>?_⟩
 ·cases i with
  |zero=>cases (show Y (Y (Cell.pu t))=Y (Y c) from h);exact⟨v,rfl,r⟩
  |succ i=>exact s.rp i c h
 ·cases i with
  |zero=>cases (show Y (Y (Cell.pu t))=Y (Y (Cell.ow u)) from h)
  |succ i=>exact s.nd i u h
 ·cases i with
  |zero=>cases (show Y (Y (Cell.pu t))=Y (Y (Cell.ow u)) from b)
  |succ i =>
   cases j with
   |zero=>exact λa _ h=>nomatch h
   |succ j=>exact s.sep i j u c b d (λe=>n (by rw[e]))
def SR.pop(s:SR G Z5 (c :: U5) (v :: J) H):SR G (λi=>Z5 (i+1)) U5 J H :=
 ⟨by have:=s.len;simpa using this,λi c h=>s.rp (i+1) c h,λi u h=>s.nd (i+1) u h,λi j u c b a n=>s.sep (i+1) (j+1) u c b a (λe=>n (by omega))⟩
def IE.pop(f:IE (P1 Z) (Y (.pu t) :: U) H Z5 (c :: U5) H5):IE Z U H (λi=>Z5 (i+1)) U5 H5:=by
 have ow:∀a,bB (λi=>Z5 (i+1)) U5 a->bB Z5 (c :: U5) a:=λa ⟨j,u,d,b⟩=>⟨j+1,u,d,b⟩
 refine⟨λa o h n=>?_,f.IH,λa h=>?_,λa h=>?_,f.kept⟩
 ·obtain⟨d,b⟩:=f.keep a o h λz=>n (As.mp z);exact⟨d,λz=>b (ow a z)⟩
 ·exact(f.ow a (ow a h)).imp As.mp id
 ·obtain⟨j,u,d,b⟩:=h;rcases f.pu a ⟨j+1,u,d,b⟩ with z | z | z
  ·exact .inl (Hg z)
  ·exact .inr (.inl (As.mp z))
  ·exact .inr (.inr z)
end
def iI(x:Xx):Vg->VS.Env->Option (Ut×VS.Env)
 |[],U=>Y ([],U)
 |i :: r,U=>(x (Y (.pu (.int i)) :: U)).bind λz=>match z.2 with
  |_ :: a=>if Ir z.1.2=L then (iI x r a).map λw=>(z.1.2 :: w.1,w.2) else O
  |[]=>O
noncomputable def OD(i n:Nat):Vg:=(List.range' i n).map λ(k:Nat)=>(k:Int)
def sy(a x:Xx)(U:VS.Env):Option (Ut×VS.Env):=(a U).bind λz=>match z.1.2 with
 |.int j=>if 0<=j/\j<1000000 then iI x (OD 0 j.toNat) z.2 else O
 |_=>O
def SN(G:Gx)(y:VS.Env->Option (Ut×VS.Env)):TE:=λJ H Q=>∃Z U e a,SR G Z U J H/\y U=Y (e,a)/\∀D f b d,SR G d a J b->IE Z U H d a b->b D=Y (.lst f)->RpL G b f e (List.replicate e.length [])->H D=O->¬bB d a D->¬cL d a D->Q (.ref D) b
theorem qW{α:Type}:∀n:Nat,(List.replicate n ([]:List α)).flatten=[]
 |0=>rfl
 |n+1=>by rw[X5,ZI,qW n];rfl
section
def yi(hg:∀v J H (R:L2.St->Hp->Prop),R (J.set 0 (Y v)) H->g v J H R)(h:SN G (sy xa x) J H Q):rG 1 (Dn (C8 (tX G xa) xE)) g (λJ H Q=>Q L H) (tX G x) J H Q:=by
 obtain⟨Z,U,ts,S,s,e,kq⟩:=h;obtain⟨z,ea,e1⟩:=Zz.mp e;split at e1
 ·rename_i j hj;split at e1
  ·rename_i hb;obtain⟨n,hn⟩:∃n:Nat,n=j.toNat:=⟨_,rfl⟩
   rw[← hn]at e1;refine⟨Z,U,z.1,z.2,s,ea,by rw[hj];rfl,λu H1 Z1 s1 f1 r1=>⟨j,by rw[hj]at r1;rw[r1.int_inv],by omega,by omega,λD C=>?_⟩⟩;have Ms:H D=O:=f1.none C;rw[← hn];refine⟨λi m J' H'=>m=n-i/\i<=n/\∃F E f d rest c0,J'=c0 :: J/\SR G F E J H'/\IE Z1 z.2 H1 F E H'/\H' D=Y (.lst d)/\¬bB F E D/\¬cL F E D/\RpL G H' d f (List.replicate f.length [])/\iI x (OD i (n-i)) E=Y (rest,S)/\f++rest=ts,⟨n,by omega,ZD _,Z1,z.2,[],[],ts,O,rfl,?_,IE.same (bh C),aw,?_,?_,.nil,e1,rfl⟩,?_⟩
   ·exact s1.off (.inr C) (λq=>Iy.oe (s1.KC q) C) λq=>Iy.oe (s1.Jd q) C
   ·exact λq=>Iy.oe (s1.Jd q) C
   ·exact λq=>Iy.oe (s1.KC q) C
   ·rintro i m J' H' ⟨rfl,JG,F,E,f,d,rest,c0,rfl,s2,f2,Us,Te,np2,rp,P,ev⟩;by_cases IS:i<n
    ·right;refine⟨IS,λy H2 yl=>hg _ _ _ _ ?_⟩;obtain⟨rfl,rfl⟩:=yl;rw[show n-i=(n-(i+1))+1 by omega]at P;unfold OD at P;rw[Vt,Zc,iI]at P;obtain⟨w,ex,Rl⟩:=Zz.mp P;split at Rl
     ·rename_i c3 U3 hw;split at Rl
      ·rename_i MW;obtain⟨q,eq,e3⟩:=Zy.mp Rl;cases e3;show (if L=L then _ else _);rw[Zo M];have s3:=s2.ps (v:=.int ((0:Int)+(i:Int))) (t:=.int (i:Int)) (by rw[Int.zero_add];exact .int _);refine⟨P1 F,Y (.pu (.int (i:Int))) :: E,w.1,w.2,s3,ex,MW,λu5 H5 Z5 s5 f5 r5=>?_⟩;rw[hw]at s5 f5;have s6:=s5.pop;have f6:=f5.pop;obtain⟨Ra,no5⟩:=f6.keep D _ Us Te;have np5:¬cL (λi=>Z5 (i+1)) U3 D:=λq=>by
        rcases f6.pu D q with q | q | q
        ·exact np2 q
        ·exact Te q
        ·rw[Us]at q;cases q
       have NG:Iy (H5 D):=by rw[Ra];exact True.intro
       have lx:d.length=f.length:=rp.len.1;refine⟨d,Ra,?_,n-(i+1),by omega,rfl,IS,λi=>Z5 (i+1),U3,f++[w.1.2],d++[u5],q.1,_,rfl,s6.off (.inl NG) np5 no5,?_,aw,no5,np5,?_,eq,?_⟩
       ·have:f.length<=n:=by
         have hc:∀(l:Vg)(U:VS.Env)(r:Ut)(S:VS.Env),iI x l U=Y (r,S)->r.length=l.length:=by
          intro l
          induction l with
          |nil=>intro U r S h;cases h;rfl
          |cons a l ih =>
           intro U r S h;rw[iI]at h;obtain⟨w',_,b⟩:=Zz.mp h;split at b
           ·split at b
            ·obtain⟨q',h3,h4⟩:=Zy.mp b;cases h4;rw[Zg,Zg,ih _ _ _ h3]
            ·cases b
           ·cases b
         have A:=hc _ _ _ _ e1;have b:=hc _ _ _ _ eq;unfold OD at A;rw[Zt,W3]at A;rw[← ev,Zw]at A;omega
        have hs:(KF:Nat)=16777216:=rfl;omega
       ·have ff:=f2.trans f6;refine⟨λa o A b=>?_,λa A b=>?_,ff.ow,ff.pu,ff.kept.trans (Kept.upd (.inl NG))⟩
        ·obtain⟨q1,q2⟩:=ff.keep a o A b;exact⟨by rw[aE (λz=>by rw[z,C]at A;cases A)];exact q1,q2⟩
        ·by_cases q:a=D
         ·rw[q,aw]at b;cases b
         ·rw[aE q]at b;exact ff.IH a A b
       ·have r1:RpL G (upd H5 D (.lst (d++[u5]))) d f (List.replicate f.length []):=(rp.keep f6.kept (by rw[qW];exact λa h=>nomatch h)).keep (Kept.upd (.inl NG)) (by rw[qW];exact λa h=>nomatch h);have r2:Rp G (upd H5 D (.lst (d++[u5]))) u5 w.1.2 []:=r5.keep (Kept.upd (.inl NG)) (λa h=>nomatch h);have:=r1.append (.cons r2 .nil);rw[Zw,LI,List.replicate_succ'];exact this
       ·rw[Zf];exact ev
      ·cases Rl
     ·cases Rl
    ·left;have hni:n-i=0:=by omega
     rw[hni]at P;cases (show Y (([]:Ut),E)=Y (rest,S) from P);rw[ZE]at ev;subst ev;refine⟨by show n<=i;omega,kq D d H' F s2 (f1.trans f2) Us rp Ms Te np2⟩
  ·cases e1
 ·cases e1
end
def za(a:Tx)(y:VS.Env->Option (Ut×VS.Env)):Xx:=λU=>(y U).bind λz=>(iH (.fr,.str a) [(.fr,.lst z.1)]).map λv=>((.fr,v.2),z.2)
section
def CZ{b:Pos}(w:PV G X a (eC (.str sep)))(g:PE X e (SN G y))(n:X.K=G.K)(IA:XAC a "join" X.env (eval a X.env)=eval a X.env)(S:((backTo d (Pv [e] X.env)).all (λx=>!x.1)&&(backToKw d (SZ [] X.env)).all (λx=>x.1.isSome)
   && decide `be)=L)(P:(b.endLine==d.line)=L)(l:K1 e [] X)(R:(backTo d (Pv [] X.env)).any (·.1)=B) :
  PX G X (.Call (.Attribute a "join" b) [e] [] d) (za sep y) :=
 PE.weak (o6 Wo PySem.F.slot_str_join PySem.F.type_str_join vX w (df g ft l) IA S P l R) λJ H Q h=>by
  obtain⟨Z,U,v,U',s,e,hi,k⟩:=h;obtain⟨z,A,e1⟩:=Zz.mp e;obtain⟨v0,e2,e3⟩:=Zy.mp e1;cases e3;unfold iH at e2;obtain⟨f,q,i⟩:=Zz.mp e2;split at i
  ·rename_i m;cases i;refine⟨Z,U,.fr,.str sep,s,rfl,λu H1 F1 j r1 f1=>⟨by rw[n];exact kg r1 ⟨_,rfl⟩,Z,U,z.1,z.2,s.same j,A,λD vs H2 C r f2 o rp Ms no np=>?_⟩⟩;rw[mF rp q]at o;refine⟨sep,D,f,r1.str_inv.1,rfl,by rw[n];exact IF.of o,m,k _ H2 C r ((IE.same j).trans f2) (.str _ ⟨ZL (kf sep f) m,λc g=>(jQ sep f c g).elim (r1.str_inv.2.2 c) λ⟨t,M,E⟩=>jT rp q t M c E⟩)⟩
  ·cases i
end
inductive Ix where | io (i:Nat) (un:Bool) | px (x:Xx)
def jz:List Ix->VS.Env->Option (List Ia×VS.Env)
 |[],U=>Y ([],U)
 |.io i un :: r,U=>match (U[i]?:Option (Uw)) with
  |some (some _)=>(jz r U).map λw=>(.io i un :: w.1,w.2)
  |_=>O
 |.px x :: r,U=>(x U).bind λz=>if Ir z.1.2=L then (jz r z.2).map λw=>(.ex (eC z.1.2) :: w.1,w.2) else O
noncomputable def MS:List Ix->List Bool
 |[]=>[]
 |.io _ _ :: r=>L :: MS r
 |.px _ :: r=>B :: MS r
def aF(a:List Ix)(g:Ut->Option (Ut×T)):Xx:=λU=>(jz a U).bind λw=>lP w.1 g w.2
inductive JX(G:Gx)(J:L2.St)(H:Hp):List Ia->List V->Prop
 |nil:JX G J H [] []
 |io {i:Nat} {un:Bool} {v:V} {as:List Ia} {vs:List V}:J[i]?=some (some v)->JX G J H as vs->JX G J H (.io i un :: as) (v :: vs)
 |ex {t:T} {v:V} {as:List Ia} {vs:List V}:Ir t=true->Rp G H v t []->JX G J H as vs->JX G J H (.ex (eC t) :: as) (v :: vs)
def tIx(G:Gx)(g:List Ix):TA:=λJ H Q=>∃Z U a d,SR G Z U J H/\jz g U=Y (a,d)/\∀e b f,SR G f d J b->IE Z U H f d b->JX G J b a e->Q e b
def Oj(G:Gx)(X:Cx)(a:List Expr)(b:List Ix):Prop:=PA X a (tIx G b)
section
theorem uy:∀{as:List Ix}{U U':VS.Env}{ias:List Ia},jz as U=Y (ias,U')->Jp ias=MS as
 |[],_,_,_,h=>by cases h;rfl
 |.io i un :: as,U,U',ias,h=>by
  unfold jz at h;split at h
  ·obtain⟨w,b,a⟩:=Zy.mp h;cases a;show L :: Jp w.1=L :: MS as;rw[uy (ias:=w.1) (U':=w.2) b]
  ·cases h
 |.px x :: as,U,U',ias,h=>by
  unfold jz at h;obtain⟨z,_,d⟩:=Zz.mp h;split at d
  ·obtain⟨w,b,a⟩:=Zy.mp d;cases a;show B :: Jp w.1=B :: MS as;rw[uy (ias:=w.1) (U':=w.2) b]
  ·cases d
theorem JX.keep(k:Kept H j)(h:JX G J H f d):JX G J j f d:=by
 induction h with
 |nil=>exact .nil
 |io h _ b=>exact .io h b
 |ex l r _ b=>exact .ex l (r.keep k (λa h=>nomatch h)) b
def GX(s:SR G Z U J H)(h:JX G J H d j):∀{b:Ut},kb U d=Y b->∃f,RpL G H j b f/\NT Z U J H d j f:=by
 induction h with
 |nil=>intro b e;cases e;exact⟨[],.nil,.nil⟩
 |@io i un v d j w _ n =>
  intro b e;obtain⟨t,e1,e2⟩:=Zz.mp (show (OE un U[i]?).bind (λt=>(kb U d).map (t :: ·))=Y b from e);obtain⟨Jv,e3,rfl⟩:=Zy.mp e2;obtain⟨f,r,q⟩:=n e3;unfold OE at e1;split at e1
  ·rename_i z P;obtain⟨o,y,N⟩:=s.rp _ _ P;rw[w]at y;cases y;have l:Rp G H v z (Z i):=N;have key:∃a,v=.ref a/\Rp G H (.ref a) t (Z i):=by
    split at e1
    ·obtain⟨⟨m,u⟩,R,Q⟩:=Zy.mp e1;cases Q;rw[mP R]at l;obtain⟨a,F,_,E⟩:=mY l;exact⟨a,F,E⟩
    ·split at e1
     ·rename_i M;cases e1;obtain⟨a,rfl⟩:=Ew l M;exact⟨a,rfl,l⟩
     ·cases e1
   obtain⟨a,rfl,D⟩:=key;exact⟨Z i :: f,.cons D r,.io w q⟩
  ·cases e1
 |@ex t v d j hi C _ n =>
  intro b e;obtain⟨o,e1,e2⟩:=Zz.mp (show (eC t U).bind (λv=>(Rk v).bind λt=>(kb U d).map (t :: ·))=Y b from e);have ev:o.2=t:=by
   unfold eC at e1;cases e1;rfl
  obtain⟨A,e3,e4⟩:=Zz.mp e2;obtain⟨Jv,e5,rfl⟩:=Zy.mp e4;have S:A=t:=by
   unfold Rk at e3;split at e3
   ·split at e3
    ·cases e3;exact ev
    ·cases e3
   ·cases e3;exact ev
  subst S;obtain⟨f,r,q⟩:=n e5;exact⟨[] :: f,.cons C r,.ex (λa h=>nomatch h) q⟩
def ba:Oj G X [] []:=PA.weak ft λJ H Q b=>by
 obtain⟨Z,U,a,d,s,e,k⟩:=b;cases e;exact k [] H Z s (IE.refl _ _ _) .nil
def bJ{X:Cx}(i:Nat)(d:Bool)(u:X.N[i]?=Y n)(l:Kf X.env.scope n)(r:K3 n)(a:K4 n)(o:Oj G X es as)(m:{`q7,Pv (.Name n pos :: es) X.env=(B,eval (.Name n pos) X.env) :: Pv es X.env}):Oj G X (.Name n pos :: es) (.io i d :: as) :=
 PA.weak (df (d8 u l r a) o m) λJ H Q q=>by
  obtain⟨Z,U,j,C,s,e,k⟩:=q;unfold jz at e;split at e
  ·rename_i c t;obtain⟨w,e1,e2⟩:=Zy.mp e;cases e2;obtain⟨v,b,_⟩:=s.rp _ _ t;exact⟨v,b,Z,U,w.1,w.2,s,e1,λA z y h f ix=>k _ z y h f (.io b ix)⟩
  ·cases e
def bC(h:PX G X e x)(m:Oj G X es as)(l:{`q7,K1 e es X}):Oj G X (e :: es) (.px x :: as) :=
 PA.weak (df h m l) λJ H Q n=>by
  obtain⟨Z,U,j,y,s,e,k⟩:=n;unfold jz at e;obtain⟨z,e1,e2⟩:=Zz.mp e;split at e2
  ·rename_i d;obtain⟨w,e3,o⟩:=Zy.mp e2;cases o;exact⟨Z,U,z.1,z.2,s,e1,d,λu A q s1 f1 r1=>⟨q,z.2,w.1,w.2,s1,e3,λv t r f b ix=>k _ t r f (f1.trans b) (.ex d (r1.keep b.kept (λa h=>nomatch h)) ix)⟩⟩
  ·cases e2
def pJ{X:Cx}(F:FnOk X.prog X.w X.K X.mg X.base Jk k f q o (PN G (MS as) g))(M:Im k X.A)(R:Gl X n)(N:X.mg n=Y (.ref f))(P:PySem.W.keepIn X.K (.ref f)=L)(S:Binds X.K q o [])(ha:Oj G X (e :: es) (.io i un :: as))(JI:K3 n)(he:K1 e es X)(j:K2 pos es X):PXN G X (.Call (.Name n p) (e :: es) [] pos) (aF (.io i un :: as) g) :=
 PE.weak (vI (E:=E0) F M R N P S .nil oW ha JI he j) λJ H Q h=>by
  obtain⟨Z,U,v,U',s,e,C⟩:=h;obtain⟨⟨d,U1⟩,e1,e2⟩:=Zz.mp e;have m:=uy e1;refine⟨Z,U,d,U1,s,e1,λy H1 Z1 s1 f1 ix=>?_⟩;show PN G (MS as) g (y++[]) H1 Q _;rw[ZE];cases ix with
  |nil=>cases m
  |ex _ _ _=>cases m
  |@io i' L4 v' a Kc h0 b =>
   have l:Jp a=MS as:=(List.cons.inj (show L :: Jp a=L :: MS as from m)).2;have t:=e2;unfold lP at t;obtain⟨ts,e3,_⟩:=Zz.mp t;obtain⟨Fs,rp,D⟩:=GX s1 (.io h0 b) e3;rw[← l];exact t6 s1 e2 e3 (aM.refl _) rp D λu H' Z' F z f' r n=>C u H' Z' F z (f1.trans f') r (n.back f1)
end
noncomputable def eW(o:Option Xx)(U:VS.Env):Option (Option Int×VS.Env):=match o with
 |none=>Y (O,U)
 |some x=>(x U).bind λz=>match z.1.2 with
  |.int i=>Y (Y i,z.2)
  |_=>O
def PF(a:Xx)(b d:Option Xx):Xx:=λU=>(a U).bind λz=>match z.1.2 with
 |.str t=>(eW b z.2).bind λl=>(eW d l.2).map λh=>((.fr,.str (cut t l.1 h.1)),h.2)
 |_=>O
def oU(n:Nat)(x:Xx):Sx:=λU=>match (U[n]?:Option (Uw)) with
 |some (some (.ow (.lst _)))=>(x U).bind λz=>match (z.2[n]?:Option (Uw)) with
  |some (some (.ow t))=>if Ir z.1.2=L then (aV t [(.fr,z.1.2)]).map λw=>.nx (z.2.set n (Y (.ow w.1))) else O
  |_=>O
 |_=>O
def Os(G:Gx)(o:Option Xx):TO:=λJ H Q=>∃Z U i a,SR G Z U J H/\eW o U=Y (i,a)/\∀b d,SR G d a J b->IE Z U H d a b->Q i b
section
variable{lo:Option Expr}
def kH:PO X O (Os G O):=PO.weak u6 λJ H Q d=>by
 obtain⟨Z,U,o,f,s,e,k⟩:=d;cases e;exact k H Z s (IE.refl _ _ _)
def kF(h:PX G X e x):PO X (Y e) (Os G (Y x)):=PO.weak (vf h) λJ H Q l=>by
 obtain⟨Z,U,o,q,s,e,k⟩:=l;obtain⟨z,e1,e2⟩:=Zz.mp e;split at e2
 ·rename_i j d;cases e2;refine⟨Z,U,z.1,z.2,s,e1,by rw[d];rfl,λu p m g f r=>⟨j,?_,k p m g f⟩⟩;rw[d]at r;exact r.int_inv
 ·cases e2
def Dh(r:PX G X a xa)(o:PO X lo (Os G xl))(p:PO X hi (Os G xh)):PX G X (.Subscript a (.Slice lo hi O p2) pos) (PF xa xl xh) :=
 PE.weak (kj xZ r o p) λJ H Q m=>by
  obtain⟨Z,U,v,N,s,e,P,k⟩:=m;obtain⟨z,e1,e2⟩:=Zz.mp e;split at e2
  ·rename_i t f;obtain⟨l,e3,C⟩:=Zz.mp e2;obtain⟨h,A,y⟩:=Zy.mp C;cases y;refine⟨Z,U,z.1,z.2,s,e1,by rw[f];rfl,λu S F s1 f1 r1=>⟨F,z.2,l.1,l.2,s1,e3,λR E j f2=>⟨E,l.2,h.1,h.2,j,A,λM D g w=>?_⟩⟩⟩;rw[f]at r1;obtain⟨rfl,d⟩:=r1.str_inv;refine⟨_,rfl,by rw[c6,← fD];exact d.1,?_⟩;rw[jI];exact k _ M D g ((f1.trans f2).trans w) (.str _ ⟨ZL (vE _ _ _) d.1,λc q=>d.2 c ((kE _ _ _).subset q)⟩)
  ·cases e2
def FF{X:Cx}(i:Nat)(R:X.N[i]?=Y n)(C:Kf X.env.scope n)(F:K3 n)(d:K4 n)(P:PX G X b xb)(D:gz b)(S:X.K=G.K):PX G X (.Subscript (.Name n p2) b pos) (rR i xb) :=
 PE.weak (n9 jP (d8 R C F d) P D) λJ H Q E=>by
  obtain⟨Z,U,v,U',s,e,MW,k⟩:=E;unfold rR at e;split at e
  ·rename_i c0 QV;obtain⟨r,p,_⟩:=s.rp _ _ QV;obtain⟨z,e1,e2⟩:=Zz.mp e;split at e2
   ·rename_i y c m M;split at e2
    ·rename_i ts QF;obtain⟨j,ej,e3⟩:=Zz.mp e2;obtain⟨t,et,f⟩:=Zz.mp e3;split at f
     ·rename_i hit;cases f;refine⟨r,p,Z,U,z.1,z.2,s,e1,by rw[m];rfl,λw H2 Z2 h f2 r2=>?_⟩;obtain⟨v1,o,r1⟩:=h.rp _ _ M;rw[p]at o;cases o;rw[QF]at r1;rw[m]at r2;obtain⟨a,q,Fs,rfl,eF,LC,l⟩:=r1.lst_inv;obtain⟨x,Fx,u,u2,g⟩:=l.get j et;have A:=g.Ir hit;subst A;exact .inl ⟨a,q,y,x,rfl,r2.int_inv,by rw[S];exact IF.of LC,jY (by rw[l.len.1];exact ej) u,k x H2 Z2 h f2 g⟩
     ·cases f
    ·cases e2
   ·cases e2
  ·cases e
def AY{X:Cx}{pos:Pos}{d:Pos}(i:Nat)(hN:X.N[i]?=Y n)(hv:Kf X.env.scope n)(hd:K3 n)(r:K4 n)(h:PX G X e x)(hK:X.K=G.K)(IA:XAC (.Name n l) "append" X.env (eval (.Name n l) X.env)=eval (.Name n l) X.env)(IK:((backTo f (Pv [e] X.env)).all (λx=>!x.1)&&(backToKw f (SZ [] X.env)).all (λx=>x.1.isSome)
   && decide `be)=L)(Iv:(d.endLine==f.line)=L)(C:K1 e [] X)(Iu:(backTo f (Pv [] X.env)).any (·.1)=B)(Kk:swapsWith (.Call (.Attribute (.Name n l) "append" d) [e] [] f) O pos.line X.env=pure B) :
  PSV G X (.Expr (.Call (.Attribute (.Name n l) "append" d) [e] [] f) pos) (oU i x) :=
 PS.weak (ku (o6 Xa X7 X6 h9 (d8 hN hv hd r) (df h ft C) IA IK Iv C Iu) Kk) λD J H hq=>by
  obtain⟨Z,U,o,s,e,k⟩:=hq;unfold oU at e;split at e
  ·rename_i l0 QV;obtain⟨m,y,r0⟩:=s.rp _ _ QV;obtain⟨z,e1,e2⟩:=Zz.mp e;split at e2
   ·rename_i t q;split at e2
    ·rename_i MW;obtain⟨⟨S,P⟩,e3,e4⟩:=Zy.mp e2;cases e4;refine⟨m,y,by rw[hK];exact nP r0,Z,U,z.1,z.2,s,e1,MW,λw A M p f2 r2=>?_⟩;obtain⟨v1,E,r1⟩:=p.rp _ _ q;rw[y]at E;cases E;show qU m [w] A (λx H1=>D.nx J H1);refine lq M z.2 A A m t S (M i) [(.fr,z.1.2)] [w] [[]] P _ r1 (p.nd i t q) ⟨aM.refl _,.cons r2 .nil,⟨λj v F a b=>?_,by simp[JB]⟩⟩ e3 λu H3 F' g=>?_
     ·cases j with
      |zero=>cases (show Y ((.fr,z.1.2):Val)=Y v from a);cases (show Y ([]:Wp)=Y F from b);exact Fp.nil
      |succ j=>simp at a
     ·obtain⟨R,Q⟩:=p.mut q y g;exact k _ J H3 R (f2.trans Q)
    ·cases e2
   ·cases e2
  ·cases e
end
section
def AA{X:Cx}(N:List Str)(q:X.calm=L)(f:Gl X "range")(e:X.mg "range" = O)(j:PX G X a xa)(b:∀cl C s H fp,PG (bP X N sc cl C s H fp) (.Name nm p2) (wg 0))(he:∀cl C s H fp,PX G (bP X N sc cl C s H fp) elt x)(d:K1 a [] X)(o:Pv [a] X.env=[(B,eval a X.env)])(n:nq X.env sc=L)(m:mf sc (N.drop 1) X.N=L)(l:1<=N.length)(i:∀x,XAD (.Call (.Name "range" p) [a] [] p3) X.env x=pure x) :
  PE X (.ListComp elt [⟨.Name nm p2,.Call (.Name "range" p) [a] [] p3,[],0⟩] sc pos) (SN G (sy xa x)) :=
 PE.weak (mQ q (lM f e (df j ft d) o) n m l (λcl C s H fp=>⟨b cl C s H fp,ot,he cl C s H fp⟩) i) λJ H Q h=>yi (g:=wg 0) (λv J H R r=>r) h
end
def yt(j:Nat)(x:Xx):Sx:=λU=>(x U).bind λz=>if Ir z.1.2=L/\j<z.2.length then Y (.nx (z.2.set j (Y (.ow (.lst [z.1.2]))))) else O
def qz(j n:Nat)(b d:Option Xx):Sx:=λU=>match (U[n]?:Option (Uw)) with
 |some (some _)=>(eW b U).bind λl=>(eW d l.2).bind λh=>match (h.2[n]?:Option (Uw)) with
  |some (some c)=>(match iF c with
   |.lst a=>if dJ a=L/\a.length<=dZ/\j<h.2.length then Y (.nx (h.2.set j (Y (.ow (.lst (cut a l.1 h.1)))))) else O
   |_=>O)
  |_=>O
 |_=>O
section
variable{lo:Option Expr}
def yz{pos:Pos}(h:PX G X e x)(y:X.N.Nodup)(v:X.N[j]?=Y nm)(q:Loc X.env.scope nm)(r:K1 e [] X)(A:swapsWith (.List [e] p1) (Y (.Name nm pos')) pos.line X.env=pure B)(w:X.fn nm=L\/X.env.scope.names.lookup nm=Y .local) :
  PSV G X (.Assign [.Name nm pos'] (.List [e] p1) pos) (yt j x) :=
 PS.weak (lj y v q (yD (df h ft r)) A w) λD J H t=>by
  obtain⟨Z,U,o,s,e,k⟩:=t;obtain⟨z,e1,e2⟩:=Zz.mp e;split at e2
  ·rename_i d;cases e2;refine⟨Z,U,z.1,z.2,s,e1,d.1,λu C E s1 f1 r1=>⟨by show 1<=16777216;decide,λp b=>?_⟩⟩;have g:Rp G (upd C p (.lst [u])) (.ref p) (.lst [z.1.2]) (p :: ([[]]:Xz).flatten):=.lst aw (.cons (r1.same (bh b)) .nil);obtain⟨l,i⟩:=s1.val (c:=.ow (.lst [z.1.2])) (m:=.fr) d.2 (bh b) g ⟨by simp,λa f=>by simp at f;rw[f];exact b⟩ (.inr ⟨rfl,rfl⟩);exact k _ _ _ l (f1.trans i)
  ·cases e2
def xj{X:Cx}{pos:Pos}(i:Nat)(r:X.N[i]?=Y n)(R:Kf X.env.scope n)(hd:K3 n)(q:K4 n)(S:PO X lo (Os G xl))(hh:PO X hi (Os G xh))(hK:X.K=G.K)(hN:X.N.Nodup)(hj:X.N[j]?=Y nm)(Q:Loc X.env.scope nm)(Kk:swapsWith (.Subscript (.Name n p1) (.Slice lo hi O p2) p3) (Y (.Name nm pos')) pos.line X.env=pure B)(hf:X.fn nm=L\/X.env.scope.names.lookup nm=Y .local) :
  PSV G X (.Assign [.Name nm pos'] (.Subscript (.Name n p1) (.Slice lo hi O p2) p3) pos) (qz j i xl xh) :=
 PS.weak (lj hN hj Q (kj qZ (d8 r R hd q) S hh) Kk hf) λD J H f=>by
  obtain⟨Z,U,o,s,e,k⟩:=f;unfold qz at e;split at e
  ·rename_i c0 QV;obtain⟨E,A,_⟩:=s.rp _ _ QV;obtain⟨l,e1,e2⟩:=Zz.mp e;obtain⟨h,e3,d⟩:=Zz.mp e2;split at d
   ·rename_i c hc;split at d
    ·rename_i v QF;split at d
     ·rename_i f;cases d;refine⟨E,A,Z,U,l.1,l.2,s,e1,λH1 Z1 s1 f1=>⟨Z1,l.2,h.1,h.2,s1,e3,λH2 Z2 w f2=>?_⟩⟩;obtain⟨v1,z,r1⟩:=w.rp _ _ hc;rw[A]at z;cases z;rw[QF]at r1;obtain⟨a,u,t,rfl,eF,LC,y⟩:=r1.lst_inv;refine⟨a,u,rfl,by rw[hK];exact IF.of LC,λp g=>?_⟩;have rc:=y.cut l.1 h.1;have C:(cut t l.1 h.1).flatten=[]:=by
       have:=m9 (kE t l.1 h.1);rw[y.Ir f.1]at this;exact V9.mp this
      have F:Rp G (upd H2 p (.lst (sC u l.1 h.1))) (.ref p) (.lst (cut v l.1 h.1)) (p :: (cut t l.1 h.1).flatten):=.lst aw (rc.same (bh g));obtain⟨P,M⟩:=w.val (c:=.ow (.lst (cut v l.1 h.1))) (m:=.fr) f.2.2 (bh g) F ⟨by rw[C];simp,λb hb=>by rw[C]at hb;simp at hb;rw[hb];exact g⟩ (.inr ⟨rfl,rfl⟩);exact k _ _ _ P ((f1.trans f2).trans M)
     ·cases d
    ·cases d
   ·cases d
  ·cases e
end
def PXO(G:Gx)(X:Cx)(e:Option Expr)(x:Option Xx):Prop:=PO X e (Os G x)
section
variable{lo:Option Expr}
def pX(f:Kg G X a ca)(d:Oi G X b xt):Oi G X (.BoolOp .And [a,b] pos) (gg ca xt):=(CC f (yr d)).pxt
def bg{X:Cx}(F:IoAt X.prog X.w X.K X.mg X.base k x ps G (MS as) g)(h:Im k' X.A)(o:Oj G X (e :: es) (.io i un :: as))(l:{`q0,k<=k'})(m:{`q7,Gl X x})(u:{`q7,K3 x})(he:{`q7,K1 e es X})(d:{`q7,K2 pos es X}) :
  PX G X (.Call (.Name x p) (e :: es) [] pos) (aF (.io i un :: as) g):=by
 obtain⟨f,fd,t,s,r,q⟩:=F.ex;exact(pJ t (h.mono l) m s r q o u he d).px
def Ba{X:Cx}(F:IoAt X.prog X.w X.K X.mg X.base k x ps G (MS as) g)(h:Im k' X.A)(o:Oj G X (e :: es) (.io i un :: as))(l:k<=k')(m:Gl X x)(u:K3 x)(he:K1 e es X)(d:K2 pos es X) :
  PXN G X (.Call (.Name x p) (e :: es) [] pos) (aF (.io i un :: as) g):=by
 obtain⟨f,fd,t,s,r,q⟩:=F.ex;exact pJ t (h.mono l) m s r q o u he d
end
noncomputable def ue(j:Nat)(x:Xx):Sx:=λU=>(x U).bind λz=>if j<z.2.length then Y (.nx (z.2.set j (Y (.pu z.1.2)))) else O
def sI(g:Tg)(x:Xx)(b:Sx):Sx:=λU=>(x U).bind λz=>if Ir z.1.2=L then gU g (b6 (eC z.1.2)) b z.2 else O
section
def yB{pos:Pos}(h:PXN G X e xc)(w:X.N.Nodup)(p:X.N[j]?=Y nm)(i:Loc X.env.scope nm)(x:swapsWith e (Y (.Name nm pos')) pos.line X.env=pure B)(r:X.fn nm=L\/X.env.scope.names.lookup nm=Y .local) :
  PSV G X (.Assign [.Name nm pos'] e pos) (ue j xc) :=
 PS.weak (lj w p i h x r) λD J H l=>by
  obtain⟨Z,U,o,s,e,k⟩:=l;obtain⟨z,e1,e2⟩:=Zz.mp e;split at e2
  ·rename_i v;cases e2;refine⟨Z,U,z.1,z.2,s,e1,λu C E F s1 f1 r1 f=>?_⟩;refine k _ _ _ (s1.put (c:=.pu z.1.2) (H':=C) v r1 (λ_ _ _ _ _ q=>q) (λ_ h=>nomatch h) (λ_ h=>nomatch h) λg t _ m a d A=>f.ap g _ m a A d) ⟨λa o h n=>⟨(f1.keep a o h n).1,λz=>?_⟩,f1.IH,λa h=>?_,λa h=>?_,f1.kept⟩
   ·rcases kc z with⟨_,q,_⟩ | z
    ·cases q
    ·exact(f1.keep a o h n).2 z
   ·rcases kc h with⟨_,q,_⟩ | z
    ·cases q
    ·exact f1.ow a z
   ·rcases qk h with⟨_,_,d⟩ | z
    ·rcases f.of a d with q | q
     ·exact .inr (.inr q)
     ·exact .inr (.inl q)
    ·exact f1.pu a z
  ·cases e2
def DQ{X:Cx}(Q:PassesOwn `ay X.A X.env X.xe)(hc:X.calm=L)(f:Gl X "range")(R:X.mg "range" = O)(M:PX G X a xc)(hg:NR G X n g)(hb:gE G X d cb)(N:K1 a [] X)(JP:Pv [a] X.env=[(B,eval a X.env)])(hf:∀x,XAD (.Call (.Name "range" p) [a] [] q) X.env x=pure x):PSV G X (.For n (.Call (.Name "range" p) [a] [] q) d [] pos) (sI g xc cb) :=
 PS.weak (zv Q hc (lM f R (df M ft N) JP) hg hb hf) λD J H P=>by
  obtain⟨Z,U,o,s,e,k⟩:=P;obtain⟨z,e1,e2⟩:=Zz.mp e;split at e2
  ·rename_i S;refine⟨Z,U,z.1,z.2,s,e1,S,λu C Z1 s1 f1 r1=>?_⟩;obtain⟨Z3,U3,m,l,s3,e3,F⟩:=zJ (g:=g) (cb:=cb) ⟨Z1,z.2,o,s1,e2,k.back f1⟩;unfold b6 at e3;obtain⟨⟨E,x⟩,ea,e4⟩:=Zz.mp e3;obtain⟨j,v,i⟩:=Zz.mp e4;cases (show Y ((Md.fr,z.1.2):Val)=Y (E,x) from ea);split at i
   ·rename_i r;cases i;generalize z.1.2=t at *;cases t with
    |int j' =>
     cases v;refine⟨j,by rw[r1.int_inv],?_,?_,F _ C [] (aM.refl _) (rT C 0 j.toNat) λa h=>nomatch h⟩
     ·have:=r.1;unfold NV at this;omega
     ·have:=r.2;unfold NV at this;omega
    |_=>cases v
   ·cases i
  ·cases e2
end
end VS
end
section
namespace ST
open PySem PySem.Spec PyProof.Rows TS
def Gp(g:kind k=kind a)(f:k≠a)(h:RH k v)(l:RH a d)(q:Q (.bool (Pf k a)) s):PP `ax A (richCompare .LtE v d) Q E s:=by
 cases k<;>cases a<;>simp only[kind,Sum.isLeft,Bool.true_eq_false,YS]at g<;>obtain⟨t,rfl⟩:=h<;>obtain⟨b,rfl⟩:=l
 ·rename_i i j;refine richCompare_gives (op:=.LtE) (typeIs_int _ _ t) (typeIs_int _ _ b) F.slot_int_le F.entry_int_le (F.args_int_le_2 _ _) (gives_int_le _ _ t b) (λx=>nomatch x) ?_;have:decide (i<=j)=Pf (.inl i) (.inl j):=by
   have:i≠j:=λe=>f (by rw[e]);show decide (i<=j)=decide (i<j);rw[YF,decide_eq_true_iff,decide_eq_true_iff];omega
  rw[this];exact q
 ·rename_i x y;refine richCompare_gives (op:=.LtE) (Vw _ _ t) (Vw _ _ b) F.slot_str_le F.entry_str_le (F.args_str_le_2 _ _) (gives_str_le _ _ t b) (λx=>nomatch x) ?_;have:(!decide (y.cps.toList<x.cps.toList))=Pf (.inr x) (.inr y):=by
   show (!decide (y.cps.toList<x.cps.toList))=decide (x.cps.toList<y.cps.toList);rw[YF,V3,decide_eq_false_iff_not,decide_eq_true_iff];constructor
   ·intro h;rcases List.le_iff_lt_or_eq.mp (Vd.mp h) with z | z
    ·exact z
    ·exact absurd (by rw[Bj z]) f
   ·exact λh z=>XX _ (VP h z)
  rw[this];exact q
def CF{s:IR}(hx:xT s.heap (.ref a) x)(hy:xT s.heap (.ref b) y)(X:x.map kind=y.map kind)(h:P (.done (.ret (.bool (decide (x=y)||oF x y)))) s) :
  PP `ax A (Builtin.«tuple.__le__» ⟨[.ref a,.ref b],[]⟩) P E s:=by
 obtain⟨_,oa,z,na,ea,F,hca,G,MX⟩:=hx;obtain⟨_,ob,q,nb,eb,Sd,H,JI,j⟩:=hy;cases ea;cases eb;refine(show PP _ _ (isInstance (.ref b) (.type "tuple")>>=_) _ _ s from ?_);refine Zu (Vh ⟨ob,Sd,H⟩ isSubtype_tuple_tuple ?_);simp only[Bool.not_true,YS,if_false];refine Zu (wpAny_tupleItemsOf F G ?_);refine Zu (wpAny_tupleItemsOf Sd JI ?_);have hlen:z.size=q.size:=by
  have Q:∀{R:List Ky}{N:W7},Lm R N->R.length=N.length:=λh=>by
   induction h with
   |nil=>rfl
   |cons _ _ ih=>rw[Zg,Zg,ih]
  have:=congrArg List.length X;rw[Zt,Zt,Q MX,Q j,KL,KL]at this;exact this
 refine Zu ?_;refine wpAny_forIn_list _
  (λrest r l=>r.1=O/\l=s/\∃g f m n,rest=List.zip m n/\Lm g m/\Lm f n/\g.map kind=f.map kind/\(decide (g=f)||oF g f)=(decide (x=y)||oF x y))
  _ ?_ ?_ _ _ ⟨rfl,rfl,x,y,z.toList,q.toList,rfl,MX,j,X,rfl⟩
 ·rintro⟨u,v⟩ rest r l ⟨D,rfl,g,f,m,n,i,J,o,d,p⟩;cases J with
  |nil=>simp at i
  |@cons U u' C SH h1 Tz =>
   cases o with
   |nil=>simp at i
   |@cons S v' t SG Z Tw =>
    simp only[ZF,List.cons.injEq,Prod.mk.injEq]at i;obtain⟨⟨rfl,rfl⟩,rfl⟩:=i;simp only[Zc,List.cons.injEq]at d;refine Zu (Hz d.1 h1 Z ?_);by_cases Nj:U=S
    ·subst Nj;rw[decide_eq_true M];simp only[Bool.not_true,YS,if_false];refine Zn ⟨rfl,rfl,C,t,SH,SG,rfl,Tz,Tw,d.2,?_⟩;rw[← p,jw,Zo M];simp
    ·rw[ZM Nj];simp only[Bool.not_false,if_true];have hf:(decide (x=y)||oF x y)=Pf U S:=by rw[← p,jw,Zl Nj,ZM (λe=>Nj (by cases e;rfl)),VO]
     rw[hf]at h;refine Zu (Vy (Zu (Gp d.1 Nj h1 Z ?_)));exact Zu (Zn (Zn (Zn h)))
 ·rintro⟨r1,r2⟩ l ⟨D,rfl,g,f,m,n,i,J,o,d,p⟩;simp only at D;subst D;refine Zn ?_;have Ub:(decide (x=y)||oF x y)=L:=by
   rw[← p];cases J with
   |nil =>
    cases o with
    |nil=>rfl
    |cons _ _=>simp at d
   |cons _ _ =>
    cases o with
    |nil=>simp at d
    |cons _ _=>simp at i
  rw[Ub]at h;refine(show P (.done (.ret (.bool (decide (z.size<=q.size))))) l from ?_);rw[decide_eq_true (by omega)];exact h
def Gb{A:SC}{s:IR}(i:A.units<cLine)(d:xT s.heap (.ref a) x)(f:xT s.heap (.ref b) y)(j:x.map kind=y.map kind)(h:Q (.bool (decide (x=y)||oF x y)) s) :
  PP `ax A (richCompare .LtE (.ref a) (.ref b)) Q E s:=by
 have ty:∀{a:KM}{x:List Ky},xT s.heap (.ref a) x->s.TypeIs (.ref a) "tuple" := λh=>by
  obtain⟨b,o,_,_,e,g,c,_⟩:=h;cases e;exact⟨o,g,c⟩
 exact wpAny_richCompare_same_room (op:=.LtE) (ty d) (ty f) F.slot_tuple_le (Xv F.slot_tuple_le (ty d) F.entry_tuple_le (CF d f j ⟨_,rfl,(λe=>nomatch e),h⟩) (F.args_tuple_le_2 _ _)) i
end ST
namespace VS
open PySem PySem.Spec PyProof.Rows L2 TS
noncomputable def BN:T->Option (Int×Tx)
 |.tup [.int i,.str s]=>Y (i,s)
 |_=>O
def vh(h:BN t=Y i):t=.tup [.int i.1,.str i.2]:=by
 unfold BN at h;split at h
 ·cases h;rfl
 ·cases h
def EJ(x y:Val):Uu:=(BN x.2).bind λi=>(BN y.2).map λj=>(.fr,.bl (if i.1=j.1 then !KD j.2 i.2 else decide (i.1<j.1)))
def Ht:R2:=λx y H Q=>∃a b i j s t,x=.ref a/\y=.ref b/\H a=Y (.tup [.int i,.str (sx s)])/\H b=Y (.tup [.int j,.str (sx t)])/\Q (.bl (if i=j then !KD t s else decide (i<j))) H
section
def HC(i j:Int)(s t:Tx):(decide (([.inl i,.inr (sx s)]:List TS.Ky)=[.inl j,.inr (sx t)])||oF [.inl i,.inr (sx s)] [.inl j,.inr (sx t)])=if i=j then !KD t s else decide (i<j):=by
 rw[jw];by_cases h:i=j
 ·subst h;rw[Zo M,Zo M,jw,j5];by_cases e:s=t
  ·subst e;simp[XX]
  ·have ne:(sx s)≠sx t:=λz=>e (Dy z);rw[ZM (by simp[ne]),Zl (by simp[ne])];show decide ((sx s).cps.toList<(sx t).cps.toList)=_;have e1:(sx s).cps.toList=s:=by simp[sx]
   have e2:(sx t).cps.toList=t:=by simp[sx]
   rw[e1,e2,YF,decide_eq_true_iff,V3,decide_eq_false_iff_not];constructor
   ·exact λz q=>XX _ (VP z q)
   ·intro z;rcases List.le_iff_lt_or_eq.mp (Vd.mp z) with q | q
    ·exact q
    ·exact absurd q e
 ·rw[Zl h,Zl (by simp[h]),ZM (by simp[h]),VO];rfl
def DJ{X:Cx}(l:X.A.units+64<cLine):OpR X (UV .LtE) Ht:=by
 intro d z J H x y v u Q I f e h;obtain⟨a,b,i,j,s,t,rfl,rfl,g,hb,q⟩:=h;obtain rfl:=(show v=Value.ref a from f)
 obtain rfl:=(show u=Value.ref b from e)
 refine(show PP _ _ (richCompare .LtE (.ref a) (.ref b)) _ _ _ from ?_);refine ST.Gb (by omega) (wj (ks:=[.inl i,.inr (sx s)]) I.Ip g) (wj (ks:=[.inl j,.inr (sx t)]) I.Ip hb) M ?_;rw[HC];exact⟨.bl _,H,I,rfl,q⟩
def DV:d6 G Ht EJ:=by
 intro Z U q H x y u w A z m t Q l e k;obtain⟨p,x⟩:=x;obtain⟨o,y⟩:=y;obtain⟨same,r1,r2,f1,f2,nd⟩:=l;obtain⟨i,e1,e⟩:=Zz.mp e;obtain⟨j,e2,e⟩:=Zy.mp e;cases vh e1;cases vh e2;cases e
 ·have pr:∀{v:V}{i:Int}{s:Tx}{F:Wp},Rp G H v (.tup [.int i,.str s]) F->∃c,v=.ref c/\H c=Y (.tup [.int i,.str (sx s)]):=λr=>by
   obtain⟨c,n,Gs,rfl,_,g,f⟩:=r.Jn;cases f with
   |cons h f =>
    cases f with
    |cons x2 f =>
     cases f;rw[h.int_inv,x2.str_inv.1]at g;exact⟨c,rfl,g⟩
  obtain⟨c,rfl,g⟩:=pr r1;obtain⟨d,rfl,hd⟩:=pr r2;exact⟨c,d,_,_,_,_,rfl,rfl,g,hd,bp k (.bl _)⟩
def wQ:Tells EJ:=by
 intro x y m t e;obtain⟨i,e1,e⟩:=Zz.mp e;obtain⟨j,e2,e⟩:=Zy.mp e;cases e;exact⟨_,rfl⟩
end
end VS
end
section
namespace VS
open PySem PySem.Spec PyProof.Rows L2
def kZ:Val->Uv->Uu
 | (_,.str s),[(_,.str t)]=>match Builtin.Str.occurrences (sx s) (sx t) 0 (sx s).length 1 with
  |i :: _=>Y {`bv,i}
  |[]=>O
 |_,_=>O
section
noncomputable def ze:V->List V->Hp->VK->Prop:=λx b H Q=>∃z y i r,x=.str z/\b=[.str y]/\Builtin.Str.occurrences z y 0 z.length 1=i :: r/\Q (.int i) H
def Ap:O9 X "str.index" ze:=by
 intro b s J H x m v n Q I f l h;obtain⟨z,y,i,r,rfl,rfl,j,q⟩:=h;obtain⟨t,rfl⟩:=f;obtain⟨u,rfl,g⟩:=vals1 l;obtain⟨d,rfl⟩:=g;exact call_meets F.slot_str_index (Vw s z t) F.entry_str_index (F.args_str_index_2 _ _) (gives_str_index z y t d i r j).meets (show EP X b J Q _ _ from⟨.int _,H,I.tok _,⟨_,rfl⟩,q⟩)
def xW:Cz G ze kZ:=by
 intro Z U u s H x v F l b n m t Q d r f A e k;unfold kZ at e;split at e
 ·rename_i p z q y;split at e
  ·rename_i i g j;cases e;obtain⟨o,w,rfl,rfl,h⟩:=(show RpL G H b [.str y] n from A.rp).one;exact⟨_,_,i,g,r.str_inv.1,by rw[h.str_inv.1],j,bp k (.int _)⟩
  ·cases e
 ·cases e
def BZ{apos:Pos}(d:PV G X a ca)(f:Jz G X [e] cs)(g:{`q1,X.K=G.K})(m:{`q1,XAC a "index" X.env (eval a X.env)=eval a X.env})(j:{`q1,((backTo jj (Pv [e] X.env)).all (λx=>!x.1)&&(backToKw jj (SZ [] X.env)).all (λx=>x.1.isSome)
   && decide `be)=L})(h:{`q1,(apos.endLine==jj.line)=L})(b:{`q1,K1 e [] X})(i:{`q1,(backTo jj (Pv [] X.env)).any (·.1)=B}) :
  PV G X (.Call (.Attribute a "index" apos) [e] [] jj) (eM kZ ca cs) :=
 zj Wo PySem.F.slot_str_index PySem.F.type_str_index Ap xW (λH v x F l z r e=>kg r (by
  unfold kZ at e;split at e
  ·exact⟨_,rfl⟩
  ·cases e)) d f g m j h b i
end
open StrLaws in
theorem occ_first(s d:Str)(e i:Nat)(f:i+d.length<=e/\Builtin.Str.subAt s d i=L):∀(a b:Vu)(free:Nat),(∀j∈a,¬(j+d.length<=e/\Builtin.Str.subAt s d j=L))->free<=i →
  (forIn (a++i :: b) ((#[]:Array Nat),free) (occBody s d e 1)).run.fst=#[i]
 |[],b,free,_,g=>by
  have st:∀(l:Vu)(fr:Nat),(forIn l ((#[i]:Array Nat),fr) (occBody s d e 1)).run.fst=#[i]:=λl=>by
   induction l with
   |nil=>exact λ_=>rfl
   |cons x l m =>
    intro fr;rw[Wx];unfold occBody;rw[Zl (λh=>by have:=h.1.1.1;simp at this)];exact m fr
  rw[Yc,Wx];unfold occBody;rw[Zo ⟨⟨⟨by simp,g⟩,f.1⟩,f.2⟩];exact st b _
 |x :: a,b,free,h,g=>by
  rw[YB,Wx];have:occBody s d e 1 x ((#[]:Array Nat),free)=pure (ForInStep.yield ((#[]:Array Nat),free)):=by
   unfold occBody;rw[Zl (λq=>h x Zx ⟨q.1.2,q.2⟩)]
  rw[this];exact occ_first s d e i f a b free (λj n=>h j (Zv _ n)) g
def EU(h:c∈a):kZ (m,.str a) [(n,.str [c])]=Y (.fr,.int (a.idxOf c:Int)):=by
 have o:a.idxOf c<a.length:=Wy.mpr h;have so:∀i,(i+(sx [c]).length<=(sx a).length/\Builtin.Str.subAt (sx a) (sx [c]) i=L)↔a[i]?=Y c:=λi=>by
  have:=StrLaws.subAt_one (sx a) c i;simpa[sx] using this
 have e:Builtin.Str.occurrences (sx a) (sx [c]) 0 (sx a).length 1=[a.idxOf c]:=by
  rw[StrLaws.occ_eq];have f:List.range' 0 ((sx a).length+1-0)=List.range' 0 (a.idxOf c)++a.idxOf c :: List.range' (a.idxOf c+1) (a.length-a.idxOf c):=by
   have r:(sx a).length=a.length:=by simp[sx,Str.length]
   rw[show (sx a).length+1-0=a.idxOf c+(a.length-a.idxOf c+1) from by omega,← List.range'_append,Vt];simp
  rw[f,occ_first (sx a) (sx [c]) _ (a.idxOf c) ((so _).mpr (by rw[Zq o,W5])) _ _ 0 (λj d q=>?_) (ZD _)];have d:=(VB.mp d).2;have:=(so j).mp q;have l:j<a.idxOf c:=by omega
  obtain⟨s,g⟩:=ZW.mp this;have b:=List.not_of_lt_findIdx (p:=(· == c)) (xs:=a) (i:=j) l;rw[g]at b;simp at b
 show (match Builtin.Str.occurrences (sx a) (sx [c]) 0 (sx a).length 1 with | i :: _=>some (Md.fr,T.int (i:Int)) | []=>none)=_;rw[e]
end VS
end
section
namespace VS
open PySem PySem.Spec PyProof.Rows L2
noncomputable def wV(x:Xx):Xx:=λU=>(x U).bind λz=>match z.1.2 with
 |.bl b=>Y ({`bv,if b then 1 else 0},z.2)
 |_=>O
def m7(c:Ex)(x:Xt):Xt:=λU=>(c U).bind λv=>(MD v.2).bind λb=>if b then Y (L,U) else x U
def uo(x:Xx)(b d:Option Xx):Xx:=λU=>(x U).bind λz=>match z.1.2 with
 |.lst a=>(eW b z.2).bind λl=>(eW d l.2).bind λh=>if dJ a=L then Y ((.fr,.lst (cut a l.1 h.1)),h.2) else O
 |_=>O
section
variable{lo:Option Expr}
def ED{X:Cx}(g:X.mg "int" = O)(h:PX G X e xc)(i:Gl X "int")(he:K1 e [] X):PX G X (.Call (.Name "int" p) [e] [] pos) (wV xc) :=
 PE.weak (lO wO i g EO (df h ft he) (he:=he) (hpl:=rfl)) λJ H Q f=>by
  obtain⟨Z,U,v,n,s,e,hi,d⟩:=f;obtain⟨z,e1,e2⟩:=Zz.mp e;split at e2
  ·rename_i j hb;cases e2;refine⟨Z,U,z.1,z.2,s,e1,by rw[hb];rfl,λu m l s1 f1 r1=>.inr ⟨j,?_,d _ m l s1 f1 (.int _)⟩⟩;rw[hb]at r1;rw[r1.JL]
  ·cases e2
def BJ(n:Kg G X a ca)(l:Oi G X b xt):Oi G X (.BoolOp .Or [a,b] pos) (m7 ca xt):=(show Px G X (.BoolOp .Or [a,b] pos) (m7 ca xt) from PW.weak (Do n (uU l)) λJ H Q j=>by
 obtain⟨Z,U,r,q,s,e,k⟩:=j;obtain⟨⟨m,t⟩,e1,e2⟩:=Zz.mp e;obtain⟨h,e3,g⟩:=Zz.mp e2;refine⟨Z,U,m,t,h,s,e1,e3,λu d=>?_⟩;cases h with
 |false=>exact xD ⟨Z,U,r,q,s.same d,g,λv o i f=>k v o i ((IE.same d).trans f)⟩
 |true =>
  cases g;exact wW (k u Z (s.same d) (IE.same d))).pxt
def El(h:PXN G X a y)(hl:PXO G X lo xl)(hh:PXO G X hi xh)(hK:X.K=G.K):PXN G X (.Subscript a (.Slice lo hi O p2) pos) (uo y xl xh) :=
 PE.weak (kj qZ h hl hh) λJ H Q g=>by
  obtain⟨Z,U,v,U',s,e,k⟩:=g;obtain⟨z,e1,e2⟩:=Zz.mp e;split at e2
  ·rename_i N QF;obtain⟨l,e3,e4⟩:=Zz.mp e2;obtain⟨h,e5,o⟩:=Zz.mp e4;split at o
   ·rename_i g;cases o;refine⟨Z,U,z.1,z.2,s,e1,λu H1 Z1 F s1 f1 r1 n1=>⟨Z1,z.2,l.1,l.2,s1,e3,λH2 Z2 P f2=>⟨Z2,l.2,h.1,h.2,P,e5,λH3 Z3 C f=>?_⟩⟩⟩;rw[QF]at r1;obtain⟨a,A,r,rfl,rfl,LC,E⟩:=r1.lst_inv;have M:=f2.keep a _ LC λ⟨j,t,S,R⟩=>n1.ap j _ S a Zx R;have k2:=f.keep a _ M.1 M.2;refine⟨a,A,rfl,by rw[hK];exact IF.of k2.1,λp d=>?_⟩;have n:=E.Ir g;have Nb:=(E.keep f2.kept (by rw[n];exact λa h=>nomatch h)).keep f.kept (by rw[n];exact λa h=>nomatch h);have rc:=Nb.cut l.1 h.1;have m:(cut r l.1 h.1).flatten=[]:=by
     have:=m9 (kE r l.1 h.1);rw[n]at this;exact V9.mp this
    have D:Rp G (upd H3 p (.lst (sC A l.1 h.1))) (.ref p) (.lst (cut N l.1 h.1)) (p :: (cut r l.1 h.1).flatten):=.lst aw (rc.same (bh d));rw[m]at D;refine k _ _ Z3 _ (C.same (bh d)) (f1.trans (f2.trans (f.trans (IE.same (bh d))))) D ⟨by simp,λj c hj b hb i=>?_,λb hb=>.inl ?_⟩
    ·cases Zk.mp hb;obtain⟨w,_,q⟩:=C.rp j c hj;exact Iy.oe (q.IH p i) d
    ·cases Zk.mp hb;exact f1.none (f2.none (f.none d))
   ·cases o
  ·cases e2
def oC{X:Cx}(d:Im k X.A)(j:PV G X a ca)(i:PV G X b cb)(g:PV G X c cc)(f:lastMarks [.Eq,.GtE] [b,c]=B):PV G X (.Compare a [.Eq,.GtE] [b,c] pos) (fP oEq R5 ca cb cc) :=
 PE.weak (Aw (r':=rGe) (jU d.units) (Hx.or xO) j i g f) λJ H Q h=>r6 ox Ho h
end
end VS
end
section
namespace VS
open PySem PySem.Spec PyProof.Rows L2
noncomputable def yH:Fn:=λa=>match a with
 |[.scr ns]=>if ns.length<=63 then Y (.fr,.bl L) else O
 |_=>O
section
variable{K:X0}
def CD{G:Gx}(j:G.K=K)(F:FnOk P w K mg base Jk k f b [y] (KO G g))(i:∀ns:Vg,ns.length<=63->g [.scr ns]=Y (.fr,.bl L)) :
  FnOk P w K mg base Jk k f b [y] (KO (Rf K) yH):=F.imp λo H Q E h=>by
 obtain⟨p,s,m,r,l,a,q⟩:=h;unfold yH at a;split at a
 ·rename_i ns;split at a
  ·rename_i e;cases a;cases l with
   |cons r1 r2 =>
    cases r2;cases r1 with
    |scr d=>exact⟨[.scr ns],[[]],.fr,.bl L,.cons (.scr (by rw[j];exact d)) .nil,i ns e,λv n F e1 r f1=>q v n F e1 (by cases r;exact .bl _) f1⟩
  ·cases a
 ·cases a
end
def yg{l:PySem.W.OpenLaw}{d:DefRec}{K:Params->X0}{x:Str}{k:Nat}(j:l.most=Y 63)(t:d.params.defaults=[])(i:Im k callerA)(F:∀(w:XAB)(mg:Wq)(e:KM)(h:XAA),(K w.params).In h->h.Ns mainGlobals mg->mg d.name=Y (.ref e) →
   ∃fd:P3,(∀(s:IR)(u:On),BindsTo s fd ⟨[u],[]⟩ [(x,u)])/\∀base:XAA,(K w.params).In base->base.Ns mainGlobals mg->FnOk l.prog w (K w.params) mg base Jk k e fd [x] (KO (Rf (K w.params)) yH)) :
  PySem.W.WalkO q b r (λw h=>(K w.params).In h) l.row.toRowW d [] (λf g=>PySem.call f g) :=
 L2.jl (n:=63) (k:=k) (x:=x) (CX:=λ_=>Jk) (sp:=λw=>KO (Rf (K w.params)) yH) j `ao t i (λ_ _ h=>h) F (λw H a ns m p o=>D5 (G:=Rf (K w.params)) (Zo m) p o) λ_ _ _ _ _ z=>z
end VS
end
section
namespace VS
open PySem PySem.Spec PyProof.Rows L2
noncomputable def e3(f:Val->Val->Val->Uu)(a b c:Ex):Ex:=λU=>(a U).bind λx=>(b U).bind λy=>(c U).bind λz=>f x y z
end VS
end
section
namespace T39
open VS
def aL:Mt:=Lv 0 4 4 [B,B,L]
  (ak (sX (lT 0 [.fld 1] aV {`bn,1}))
  (ak (sX (lT 0 [.fld 2] aV {`bn,2}))
  (ak (oz 0 [.fld 3] 3)
  (fJ (e2 rO (eN bu (ab (bF 1 (aa 0)) ai)) (Q3 1))))))
def eE:Mt:=Lv 0 1 1 (List.replicate 0 B)
  (ak (rW 0 1 (bW ai))
  (ak (rW 0 2 (bW ai))
  (ak (rW 0 3 (bW ai))
  (PQ (b9 0 [] 0 [B,B,L] aL (ab (Q3 0) (ab (eC .non) (ab (sD 0 []) ai))))))))
def bK:Sx :=
  (ak (fM 0 [.fld 3,.ix (aa 1)] (aa 2) (aa 5))
  (aI 1 (e2 aJ (bF 2 (aa 0)) (aa 1))))
def av:Mt:=Lv 0 3 6 [B,B]
  (ak (aI 3 (e2 Kd (e2 aJ (bF 3 (aa 0)) (aa 1)) (aa 2)))
  (ak (aI 4 (e2 aW (e2 aJ (bF 1 (aa 0)) (aa 1)) (Q3 1)))
  (ak (Jw (e2 oEq (e2 aJ (bF 1 (aa 0)) (aa 3)) (aa 4)) (fA 3) di)
  (ak (cp 5 (b9 0 [] 0 [B,B,L] aL (ab (aa 4) (ab (e2 aJ (bF 2 (aa 0)) (aa 3)) (ab (eN lL (ab (e2 aJ (bF 3 (aa 0)) (aa 3)) ai)) ai)))))
  (ak (fM 0 [.fld 2] (aa 3) (aa 5))
  (ak (lF (oy (gP (aa 1)) (e2 oEq (e2 xQ (e2 aJ (bF 3 (aa 0)) (aa 1)) (aa 2)) (aa 3))) bK)
  (fA 5)))))))
def bI:Sx :=
  (ak (fM 0 [.fld 3,.ix (aa 4)] (aa 2) (aa 3))
  (aI 4 (e2 aJ (bF 2 (aa 0)) (aa 4))))
def bE:Mt:=Lv 0 3 5 [B,B]
  (ak (Jw (e2 kI (aa 2) (e2 aJ (bF 3 (aa 0)) (aa 1))) (kN (b9 0 [] 0 [B,B] av (ab (aa 1) {`bn,2}))) di)
  (ak (cp 3 (b9 0 [] 0 [B,B,L] aL (ab (e2 aW (e2 aJ (bF 1 (aa 0)) (aa 1)) (Q3 1)) (ab (Q3 0) (ab (sD 0 []) ai)))))
  (ak (aI 4 (aa 1))
  (ak (lF (oy (gP (aa 4)) (e2 cR (aa 2) (e2 aJ (bF 3 (aa 0)) (aa 4)))) bI)
  (ak (Jw (gP (aa 4)) (lY 0 [.fld 2] (aa 3) (b9 0 [] 0 [B,B] av (ab (aa 4) {`bn,2}))) di)
  (fA 3))))))
def bU:Sx :=
  (cp 1 (b9 0 [] 0 [B,B] bE (ab (aa 1) {`bn,3})))
def bO:Mt:=Lv 0 3 4 [B,B]
  (ak (gU (aY 3) (c8 (aa 2)) bU)
  (fA 1))
def bj:Sx :=
  (Jw (e2 cR (e2 Kd (aa 4) (aa 5)) (aa 1)) (ak (tf 1 (e2 Kd (aa 4) (aa 5)) (eN bu {`bn,2}))
  (sX (j4 2 [] aV (ab (e2 Kd (aa 4) (aa 5)) ai)))) di)
def bQ:Sx :=
  (ak (aI 4 (e2 aJ (bF 3 (aa 0)) (e2 aJ (aa 2) (aa 3))))
  (ak (gU (aY 5) (c8 (eN gI {`bn,4})) bj)
  (aI 3 (e2 aW (aa 3) (Q3 1)))))
def aK:Fn:=fn 1 6
  (ak (ip 1 (sD 0 [((Q3 0),(Q3 0))]))
  (ak (ip 2 (bW (ab (Q3 0) ai)))
  (ak (aI 3 (Q3 0))
  (ak (lF (e2 oLt (aa 3) (eN bu {`bn,2})) bQ)
  (ak (sS 2)
  (fA 1))))))
def bN:Fn:=fn 3 6
  (ak (aI 3 (e2 aJ (bF 2 (aa 0)) (aa 1)))
  (ak (aI 4 (e2 aJ (bF 3 (aa 0)) (aa 1)))
  (ak (aI 5 (eN kU (ab (bD 1 (aY 0) (c8 (eN gI {`bn,4})) O (jA (ab (aa 0) (ab (e2 pY (aa 3) (e2 Kd (aa 5) (aa 0))) ai)))) ai)))
  (ak (Jw (CJ (aa 3)) (fJ (jA (ab (Q3 0) (ab (Q3 0) (ab (eC .non) {`bn,5}))))) di)
  (fJ (jA (ab (e2 aW (e2 aJ (bF 1 (aa 0)) (aa 3)) (Q3 1)) (ab (e2 aJ (bF 1 (aa 0)) (aa 1)) (ab (e2 pY (aa 2) (aa 3)) {`bn,5})))))))))
def dr:Fn:=fn 1 2
  (ak (ip 1 (gw 0 aK (aa 0) ai))
  (zH 1 (aY 0) (gw 0 bN (aa 1) (ab (aa 0) {`bn,2}))))
def gF:Sx :=
  (PQ (b9 1 [] 0 [B,B] bO (ab (Q3 0) {`bn,2})))
def fO:Fn:=fn 1 3
  (ak (ip 1 (eNew 0 eE ai))
  (ak (gU (aY 2) (c8 (aa 0)) gF)
  (ak (sS 1)
  (fJ (gw 0 dr (aa 1) ai)))))
def cE:Sx :=
  (ak (Jw (e2 cR (aa 7) (aa 6)) (fJ (e2 aW (aa 5) (aa 7))) di)
  (sX (j4 3 [] aV (ab (jA (ab (e2 aW (aa 5) (aa 7)) (ab (e2 Kd (aa 6) (aa 7)) ai))) ai))))
def kh:Sx :=
  (ak (aI 5 (e2 aJ (e2 aJ (aa 3) (aa 4)) (Q3 0)))
  (ak (aI 6 (eN lr (ab (e2 aJ (e2 aJ (aa 2) (e2 aJ (e2 aJ (aa 3) (aa 4)) (Q3 1))) (Q3 3)) ai)))
  (ak (gU (aY 7) (c8 (aa 1)) cE)
  (aI 4 (e2 aW (aa 4) (Q3 1))))))
def cJ:Fn:=fn 2 8
  (ak (aI 2 (cP fO {`bn,0}))
  (ak (ip 3 (bW (ab (jA (ab (eC (.str [])) (ab (Q3 0) ai))) ai)))
  (ak (aI 4 (Q3 0))
  (lF (eC (.bl L)) kh))))
def j8:Fn:=fn 2 2
  (fJ (e2 rO (eN bu (ab (cP cJ (ab (aa 0) {`bn,1})) ai)) (Q3 1)))
def lX:Sx :=
  (ak (aI 5 (bD 1 (aY 0) (b6 (e2 aW (eN bu {`bn,4}) (Q3 1))) (Y (eM pq (LF (aa 5) O (Y (aa 0))) {`bn,2})) (aa 0)))
  (sX (j4 2 [] cN (ab (bD 1 (aY 0) (c8 (aa 5)) O (jA (ab (aa 4) {`bn,0}))) ai))))
def g9:Fn:=fn 2 6
  (ak (ip 2 (bW ai))
  (ak (gU (xf [(aY 3),(aY 4)]) (zV (aa 0)) lX)
  (fA 2)))
def jK:Sx :=
  (sX (j4 2 [] cN (ab (bD 1 (aY 0) (b6 (e2 aW (e2 rO (eN bu {`bn,3}) (aa 1)) (Q3 1))) O (LF (aa 4) (Y (aa 0)) (Y (e2 aW (aa 0) (aa 2))))) ai)))
def eK:Fn:=fn 2 4
  (ak (Jw (e2 oEq (aa 1) (Q3 0)) (fJ (bW (ab (eC (.str [])) ai))) di)
  (ak (ip 2 (bW ai))
  (ak (gU (aY 3) (c8 (aa 0)) jK)
  (ak (sS 2)
  (fJ (eN ny {`bn,2}))))))
def fz:Sx :=
  (ak (aI 3 (e2 oMod (e2 aW (e2 aW (e2 fC (aa 3) (Q3 69621)) (e2 fC (Q3 7) (aa 5))) (Q3 1)) (Q3 2147483647)))
  (ak (aI 6 (e2 oMod (e2 fC (aa 3) (aa 3)) (Q3 2147483629)))
  (aI 4 (e2 aW (e2 fC (aa 4) (Q3 999983)) (e2 oMod (e2 fC (aa 6) (e2 aW (e2 oMod (aa 6) (Q3 65521)) (Q3 3))) (Q3 999983))))))
def cB:Fn:=fn 2 7
  (ak (aI 2 (e2 aW (e2 fC (aa 1) (Q3 7919)) (Q3 104729)))
  (ak (Jw (e2 Nd (eN bu {`bn,0}) (Q3 0)) (aI 2 (e2 aW (e2 aJ (aa 0) (e2 oMod (aa 1) (eN bu {`bn,0}))) (e2 fC (e2 jH (aa 1) (eN bu {`bn,0})) (Q3 48271)))) di)
  (ak (Jw (e2 oEq (e2 oMod (aa 2) (Q3 2)) (Q3 0)) (fJ (bW (ab (e2 jH (aa 2) (Q3 2)) ai))) di)
  (ak (aI 3 (e2 oMod (e2 aW (e2 jH (aa 2) (Q3 2)) (e2 fC (Q3 40503) (aa 1))) (Q3 2147483629)))
  (ak (aI 4 (Q3 0))
  (ak (gU (aY 5) (b6 (Q3 24)) fz)
  (fJ (bW {`bn,4}))))))))
def ar:Ut->Option (Ut×T):=Mo 2 3 [B]
  (ak (aI 2 (e2 oMod (e2 aJ (Pu (aa 0)) (Q3 0)) (aa 1)))
  (ak (fM 0 [.un] (Q3 0) (e2 jH (e2 aJ (Pu (aa 0)) (Q3 0)) (aa 1)))
  (fA 2)))
def eJ:Ut->Option (Ut×T):=Mo 3 3 [B,B]
  (kN (za [] (sy (aF [(.io 0 L),(.px (xI (e2 aW (aa 2) (Q3 1))))] ar) (x2 aJ (xI (aa 2)) {`b3,.io 1 L,eN bu {`bn,2}}))))
def gn:Ut->Option (Ut×T):=Mo 1 5 []
  (ak (aI 1 (eC (.str [97,98,99,100,101,102,103,104,105,106,107,108,109,110,111,112,113,114,115,116,117,118,119,120,121,122])))
  (ak (cp 2 (iZ (bW (ab (Q3 2) (ab (Q3 1) (ab (Q3 3) (ab (Q3 2) (ab (Q3 4) (ab (Q3 2) (ab (Q3 3) (ab (Q3 26) ai))))))))) {`b3,.io 0 L,Q3 8}))
  (ak (cp 3 {`b3,.io 0 L,Q3 26})
  (ak (cp 4 (iZ (bW (ab (Q3 1) (ab (Q3 3) (ab (Q3 25) (ab (Q3 7) ai))))) {`b3,.io 0 L,Q3 4}))
  (fJ (eM iH (eC (.str [])) (ab (bD 1 (aY 0) (b6 (aa 2)) O (e2 aJ (aa 2) (e2 oMod (e2 aW (aa 4) (e2 fC (aa 5) (aa 0))) (Q3 26)))) ai)))))))
def dv:Sx :=
  (ak (cp 5 (aF [(.io 0 L),(.px (xI (aa 1))),(.px (iZ (bW (ab (Q3 6) (ab (Q3 3) (ab (Q3 10) (ab (Q3 8) ai))))) {`b3,.io 0 L,Q3 4}))] eJ))
  (ak (qj (gg (e2 Nd (aa 4) (Q3 0)) (Mg (x2 oEq {`b3,.io 0 L,Q3 4} (xI (Q3 1))))) (ak (cp 6 (rR 3 {`b3,.io 0 L,aa 4}))
  (cp 5 (PF (x2 aW (PF (xI (aa 6)) (Y (aF [(.io 0 L),(.px (xI (e2 aW (eN bu {`bn,6}) (Q3 1))))] ar)) O) (xI (aa 5))) O (Y (xI (Q3 14)))))) di)
  (sX (j4 3 [] aV {`bn,5}))))
def dC:Ut->Option (Ut×T):=Mo 2 7 [B]
  (ak (cp 2 (iZ (bW (ab (Q3 2) (ab (Q3 1) (ab (Q3 3) (ab (Q3 2) (ab (Q3 4) (ab (Q3 0) (ab (Q3 1) (ab (Q3 8) ai))))))))) {`b3,.io 0 L,Q3 8}))
  (ak (ip 3 (bW ai))
  (ak (gU (aY 4) (b6 (aa 2)) dv)
  (ak (qj (gg (fP oLt oLt (Q3 0) (aa 2) (Q3 3)) (Mg (x2 oEq {`b3,.io 0 L,Q3 6} (xI (Q3 1))))) (lY 3 [] (Q3 0) (x2 vG (x2 aW (x2 aW (xI (e2 aJ (aa 3) (Q3 0))) (aF [(.io 0 L),(.px (xI (aa 1))),(.px (xI (Q3 24)))] eJ)) (xI (e2 aJ (aa 3) (Q3 (-1))))) (x2 aW (xI (Q3 1)) {`b3,.io 0 L,Q3 2}))) di)
  (fA 3)))))
def eV:Ut->Option (Ut×T):=Mo 2 5 [B]
  (ak (aI 2 (eC (.str [97,98,99,100,101,102,103,104,105,106,107,108,109,110,111,112,113,114,115,116,117,118,119,120,121,122])))
  (ak (cp 3 {`b3,.io 0 L,Q3 8})
  (ak (Jw (e2 oEq (aa 3) (Q3 0)) (fA 2) di)
  (ak (ip 4 (eN jN {`bn,1}))
  (ak (Jw (e2 oEq (aa 3) (Q3 1)) (qz 4 4 O (Y (x2 aW (xI (Q3 1)) {`b3,.io 0 L,eN bu {`bn,1}}))) di)
  (ak (Jw (e2 oLt (aa 3) (Q3 4)) (oU 4 (x2 aJ (xI (aa 2)) {`b3,.io 0 L,Q3 26})) di)
  (ak (sS 4)
  (ak (Jw (e2 oEq (aa 3) (Q3 4)) (yt 4 (x2 aJ (xI (aa 2)) {`b3,.io 0 L,Q3 26})) di)
  (fJ (eM iH (eC (.str [])) (ab (bD 1 (aY 0) (c8 (aa 2)) (Y (e2 kI (aa 0) (aa 5))) (aa 0)) ai)))))))))))
def i5:Sx :=
  (ak (aI 5 (bD 1 (aY 0) (c8 (cP eK (ab (aa 0) {`bn,4}))) (Y (e2 oEq (bD 1 (aY 0) (c8 (aa 0)) (Y (e2 jF (aa 0) (aa 3))) (aa 0)) (bW ai))) (aa 0)))
  (ak (Jw (e2 Lp (eN bu {`bn,5}) (aa 3)) (fJ (eC (.bl B))) di)
  (aI 3 (e2 fC (aa 3) (eN bu {`bn,1})))))
def i8:Sx :=
  (aI 6 (e2 aW (e2 fC (aa 6) (eN bu {`bn,1})) (eM kZ (aa 1) {`bn,7})))
def gu:Fn:=fn 3 8
  (ak (Jw (Og (e2 oEq (aa 2) (eC (.str []))) (Og (e2 Lp (bD 1 (aY 0) (c8 (aa 2)) (Y (e2 jF (aa 0) (aa 2))) (aa 0)) (bW ai)) (e2 Lp (cP g9 (ab (aa 0) {`bn,2})) (bW ai)))) (fJ (eC (.bl B))) di)
  (ak (aI 3 (Q3 1))
  (ak (gU (aY 4) (b6 (eN bu {`bn,2})) i5)
  (ak (aI 6 (Q3 0))
  (ak (gU (aY 7) (c8 (aa 2)) i8)
  (ak (aI 5 (bD 1 (aY 0) (c8 (cP eK (ab (aa 0) (ab (eN bu {`bn,2}) ai)))) (Y (e2 oEq (bD 1 (aY 0) (c8 (aa 0)) (Y (e2 jF (aa 0) (aa 3))) (aa 0)) (bW ai))) (aa 0)))
  (fJ (e2 oEq (eN bu (ab (bD 1 (aY 0) (c8 (aa 5)) (Y (e2 oLt (aa 0) (aa 3))) (aa 0)) ai)) (aa 6)))))))))
def gT:Sx :=
  (ak (Jw (zA (cP gu (ab (aa 3) (ab (aa 5) {`bn,6})))) (fJ (eC (.bl B))) di)
  (ak (aI 9 (e2 aW (aa 3) (bW {`bn,6})))
  (ak (qj (m7 (e2 oEq (eN bu {`bn,3}) (Q3 8)) (gg (e2 Lp (aa 3) (bW ai)) (Mg (x2 oEq {`b3,.io 4 B,Q3 2} (xI (Q3 1)))))) (ak (cp 10 {`b3,.io 4 B,eN bu {`bn,3}})
  (aI 9 (e2 aW (e2 aW (LF (aa 3) O (Y (aa 10))) (bW (ab (e2 aW (e2 aJ (aa 3) (aa 10)) (aa 6)) ai))) (LF (aa 3) (Y (e2 aW (aa 10) (Q3 1))) O)))) di)
  (ak (Jw (e2 Nd (eN ya (ab (bD 1 (aY 0) (c8 (aa 9)) O (eN bu {`bn,0})) ai)) (Q3 120)) Gj di)
  (ak (aI 11 (cP cJ (ab (aa 9) {`bn,5})))
  (ak (Jw (Og (e2 oEq (cP g9 (ab (aa 9) {`bn,6})) (bW ai)) (e2 EJ (jA (ab (eN bu {`bn,11}) {`bn,11})) (jA (ab (eN bu {`bn,6}) {`bn,6})))) (fJ (eC (.bl B))) di)
  (ak (aI 3 (aa 9))
  (aI 6 (aa 11)))))))))
def xY:Fn:=fn 1 12
  (ak (ip 1 (cP cB (ab (aa 0) (ab (Q3 0) ai))))
  (ak (cp 2 (aF [(.io 1 B)] gn))
  (ak (ue 3 (uo (aF [(.io 1 B),(.px (xI (aa 2)))] dC) O (Y (xI (Q3 5)))))
  (ak (sS 1)
  (ak (ip 4 (cP cB (ab (aa 0) (ab (Q3 1) ai))))
  (ak (cp 5 (aF [(.io 4 B),(.px (xI (aa 2)))] eV))
  (ak (aI 6 (cP cJ (ab (aa 3) {`bn,5})))
  (ak (aI 7 (cP j8 (ab (aa 3) {`bn,5})))
  (ak (sI (aY 8) (iZ (bW (ab (Q3 3) (ab (Q3 40) ai))) (wV (x2 oEq {`b3,.io 4 B,Q3 6} (xI (Q3 5))))) gT)
  (ak (sS 4)
  (fJ (fP oEq R5 (cP j8 (ab (aa 3) {`bn,5})) (e2 rO (eN bu {`bn,6}) (Q3 1)) (aa 7)))))))))))))
end T39
end
section
namespace AU
structure St where
 lg:Vu
 lk:List (Option Nat)
 wy:List (List (Nat×Nat))
noncomputable def gW(w:List (Nat×Nat))(c:Nat):Option Nat:=(w.find? λp=>p.1==c).map (·.2)
noncomputable def pW(w:List (Nat×Nat))(c m:Nat):List (Nat×Nat):=if w.any (λp=>p.1==c) then w.map (λp=>if p.1==c then (p.1,m) else p) else w++[(c,m)]
structure WF(S:St):Prop where
 lk:S.lk.length=S.lg.length
 wy:S.wy.length=S.lg.length
 pos:0<S.lg.length
 up:∀i n,S.lk.getD i none=some n->n<S.lg.length
 on:∀i c n,gW (S.wy.getD i []) c=some n->n<S.lg.length
 nd:∀w∈S.wy,(w.map (·.1)).Nodup
 az:∀w∈S.wy,∀p∈w,97<=p.1/\p.1<=122
theorem sub_len{α:Type}[DecidableEq α]:∀(l r:List α),l.Nodup->(∀x∈l,x∈r)->l.length<=r.length
 |[],_,_,_=>ZD _
 |a :: l,r,nd,h=>by
  obtain⟨g,f⟩:=ZY.mp nd;have d:a∈r:=h a Zx;have:=sub_len l (r.erase a) f λx b=>(List.mem_erase_of_ne (show x≠a from λe=>g (by rw[← e];exact b))).mpr (h x (Zv _ b));rw[List.length_erase_of_mem d]at this;have:0<r.length:=List.length_pos_of_mem d;rw[Zg];lia
def WF.small(W:WF S)(i:Nat):(S.wy.getD i []).length<16777216:=by
 by_cases h:i<S.wy.length
 ·have a:S.wy.getD i []∈S.wy:=by
   rw[Zr,Zq h];exact Ys h
  have:=sub_len ((S.wy.getD i []).map (·.1)) (List.range 123) (W.nd _ a) λx b=>by
   obtain⟨p,d,rfl⟩:=JD.mp b;have:=(W.az _ a p d).2;exact YV.mpr (by exact Nat.lt_succ_of_le this)
  rw[Zt,ZC]at this;lia
 ·rw[Zr,Yy (ZK h)];decide
def EG(w:List (Nat×Nat))(c:Nat):(w.any λp=>p.1==c)=(gW w c).isSome:=by
 unfold gW;rw[Xu,YF,Xm,List.find?_isSome]
def DH(w:List (Nat×Nat))(c m d:Nat):gW (pW w c m) d=if d=c then Y m else gW w d:=by
 unfold pW;split
 ·rename_i h
  induction w with
  |nil=>simp at h
  |cons p w f =>
   rw[Zc];unfold gW;rw[Yq,Yq];by_cases q:p.1=c
   ·rw[Zo (by simpa using q)];by_cases r:p.1=d
    ·have:(p.1==d)=L:=by simpa using r
     simp only[this];rw[Zo (by rw[← r,q])];rfl
    ·have a:(p.1==d)=B:=by simpa using r
     have:d≠c:=λe=>r (by rw[e,q]);simp only[a,Zl this];have key:∀w:List (Nat×Nat),(w.map λp=>if p.1==c then (p.1,m) else p).find? (λp=>p.1==d)=w.find? λp=>p.1==d:=by
      intro w
      induction w with
      |nil=>rfl
      |cons x w f =>
       rw[Zc,Yq,Yq,f];by_cases y:x.1=c
       ·rw[Zo (by simpa using y)];have:(x.1==d)=B:=by simpa using λe=>this (by rw[← e,y])
        simp only[this]
       ·rw[Zl (by simpa using y)]
     rw[key w]
   ·rw[Zl (by simpa using q)];have i:(w.any λp=>p.1==c)=L:=by
     rw[Xy]at h;simpa[q] using h
    have b:=f i;unfold gW at b;by_cases r:p.1=d
    ·have a:(p.1==d)=L:=by simpa using r
     simp only[a];rw[Zl (λe=>q (by rw[r,e]))]
    ·have a:(p.1==d)=B:=by simpa using r
     simp only[a];exact b
 ·rename_i h;unfold gW;rw[List.find?_append];by_cases q:d=c
  ·subst q;have:w.find? (λp=>p.1==d)=O:=by
    rw[Wu];intro p g e;exact h (Xm.mpr ⟨p,g,e⟩)
   rw[this,Zo M];simp
  ·rw[Zl q];have:((c==d)=B):=by simpa using λe=>q e.symm
   simp[this]
def Br(w:List (Nat×Nat))(c m:Nat)(f:(w.map (·.1)).Nodup):((pW w c m).map (·.1)).Nodup:=by
 unfold pW;split
 ·rw[Yp];have:((λp:Nat×Nat=>p.1) ∘ λp=>if (p.1==c)=L then (p.1,m) else p)=λp=>p.1:=by
   funext p;simp only[Function.comp];split<;>rfl
  rw[this];exact f
 ·rename_i h;rw[Yu,ZG];refine⟨f,by simp,λa i b hb e=>?_⟩;have d:b=c:=by simpa using hb
  subst e d;obtain⟨p,g,e⟩:=JD.mp i;exact h (Xm.mpr ⟨p,g,by simpa using e⟩)
def En(h:p∈pW w c m):p.1=c\/p∈w:=by
 unfold pW at h;split at h
 ·obtain⟨q,a,rfl⟩:=JD.mp h;by_cases r:(q.1==c)=L
  ·rw[Zo r];exact .inl (by simpa using r)
  ·rw[Zl r];exact .inr a
 ·rcases Zi.mp h with h | h
  ·exact .inr h
  ·rw[Zk.mp h];exact .inl M
def g8{α:Type}(l:List α)(i j:Nat)(x d:α):(l.set i x).getD j d=if i=j/\i<l.length then x else l.getD j d:=by
 rw[Zr,Zr,V0];by_cases h:i=j
 ·subst h;by_cases a:i<l.length
  ·rw[Zo M,Zo a,Zo ⟨rfl,a⟩];rfl
  ·rw[Zo M,Zl a,Zl (λz=>a z.2),Yy (ZK a)]
 ·rw[Zl h,Zl (λz=>h z.1)]
def bZ{α:Type}(l:List α)(x d:α)(j:Nat):(l++[x]).getD j d=if j=l.length then x else l.getD j d:=by
 rw[Zr,Zr];by_cases h:j<l.length
 ·rw[Mu h,Zl (Ze h)]
 ·rw[Mv (ZK h)];by_cases a:j=l.length
  ·rw[Zo a,a,VH];rfl
  ·rw[Zl a,Yy (ZK h),Yy (by simp;lia)]
def WF.way(W:WF S){n c v:Nat}(g:v<S.lg.length)(j:97<=c/\c<=122):WF ⟨S.lg,S.lk,S.wy.set n (pW `bi c v)⟩:=by
 refine⟨W.lk,by rw[Yg];exact W.wy,W.pos,W.up,λi d m h=>?_,λw hw=>?_,λw hw p f=>?_⟩
 ·show m<S.lg.length;have b:gW ((S.wy.set n (pW `bi c v)).getD i []) d=Y m:=h;rw[g8]at b;split at b
  ·rw[DH]at b;split at b
   ·cases b;exact g
   ·exact W.on n d m b
  ·exact W.on i d m b
 ·by_cases a:n<S.wy.length
  ·rcases List.mem_or_eq_of_mem_set hw with h | h
   ·exact W.nd w h
   ·rw[h];refine Br _ c v (W.nd _ ?_);rw[Zr,Zq a];exact Ys a
  ·rw[List.set_eq_of_length_le (ZK a)]at hw;exact W.nd w hw
 ·by_cases a:n<S.wy.length
  ·rcases List.mem_or_eq_of_mem_set hw with h | h
   ·exact W.az w h p f
   ·rw[h]at f;rcases En f with e | e
    ·rw[e];exact j
    ·refine W.az _ ?_ p e;rw[Zr,Zq a];exact Ys a
  ·rw[List.set_eq_of_length_le (ZK a)]at hw;exact W.az w hw p f
def WF.link{S:St}(W:WF S){n v:Nat}(b:v<S.lg.length):WF ⟨S.lg,S.lk.set n (Y v),S.wy⟩:=by
 refine⟨by rw[Yg];exact W.lk,W.wy,W.pos,λi m h=>?_,W.on,W.nd,W.az⟩;have a:(S.lk.set n (Y v)).getD i O=Y m:=h;rw[g8]at a;split at a
 ·cases a;exact b
 ·exact W.up i m a
def WF.more(W:WF S){l:Nat}{o:Option Nat}{w:List (Nat×Nat)}(f:∀n,o=Y n->n<S.lg.length)(hw:∀c n,gW w c=Y n->n<S.lg.length)(e:(w.map (·.1)).Nodup)(g:∀p∈w,97<=p.1/\p.1<=122):WF ⟨S.lg++[l],S.lk++[o],S.wy++[w]⟩:=by
 have b:∀{n},n<S.lg.length->n<(S.lg++[l]).length:=λh=>by rw[Zw,LI];exact Ym h
 refine⟨by rw[Zw,Zw,W.lk];rfl,by rw[Zw,Zw,W.wy];rfl,by rw[Zw];exact ZZ W.pos (ZQ _ _),λi n h=>?_,λi c n h=>?_,λx d=>?_,λx d=>?_⟩
 ·have a:(S.lk++[o]).getD i O=Y n:=h;rw[bZ]at a;split at a
  ·exact b (f n a)
  ·exact b (W.up i n a)
 ·have a:gW ((S.wy++[w]).getD i []) c=Y n:=h;rw[bZ]at a;split at a
  ·exact b (hw c n a)
  ·exact b (W.on i c n a)
 ·rcases Zi.mp d with h | h
  ·exact W.nd x h
  ·rw[Zk.mp h];exact e
 ·rcases Zi.mp d with h | h
  ·exact W.az x h
  ·rw[Zk.mp h];exact g
def up1(c v:Nat):Nat->St->Option Nat->Option (St×Option Nat)
 |_,S,none=>Y (S,O)
 |0,_,some _=>O
 |k+1,S,some n=>if (gW `bi c).isSome then Y (S,Y n) else up1 c v k ⟨S.lg,S.lk,S.wy.set n (pW `bi c v)⟩ (S.lk.getD n O)
def NX(c a v:Nat):Nat->St->Option Nat->Option St
 |_,S,none=>Y S
 |0,_,some _=>O
 |k+1,S,some n=>if gW `bi c=Y a then NX c a v k ⟨S.lg,S.lk,S.wy.set n (pW `bi c v)⟩ (S.lk.getD n O) else Y S
def NC(S:St)(n c:Nat):Option (St×Nat):=(gW `bi c).bind λold=>if S.lg.getD old 0=S.lg.getD n 0+1 then Y (S,old) else
 (NX c old S.lg.length 1000 ⟨S.lg++[S.lg.getD n 0+1],(S.lk++[S.lk.getD old O]).set old (Y S.lg.length),S.wy++[S.wy.getD old []]⟩ (Y n)).map λa=>(a,S.lg.length)
def hb(S:St)(h c:Nat):Option (St×Nat):=if (gW (S.wy.getD h []) c).isSome then NC S h c else
 (up1 c S.lg.length 1000 ⟨S.lg++[S.lg.getD h 0+1],S.lk++[Y 0],S.wy++[[]]⟩ (Y h)).bind λz=>match z.2 with
  |none=>Y (z.1,S.lg.length)
  |some n=>(NC z.1 n c).map λy=>(⟨y.1.lg,y.1.lk.set S.lg.length (Y y.2),y.1.wy⟩,S.lg.length)
def hg(S:St)(h:Nat):Vu->Option (St×Nat)
 |[]=>Y (S,h)
 |c :: r=>(hb S h c).bind λz=>hg z.1 z.2 r
noncomputable def Sm(S:St):Prop:=S.lg.length<=100001
def WF.PH(W:WF S)(i:Nat):((S.wy.getD i []).map (·.1)).Nodup/\∀p∈S.wy.getD i [],97<=p.1/\p.1<=122:=by
 by_cases h:i<S.wy.length
 ·have a:S.wy.getD i []∈S.wy:=by
   rw[Zr,Zq h];exact Ys h
  exact⟨W.nd _ a,W.az _ a⟩
 ·rw[Zr,Yy (ZK h)];exact⟨Yt,λp b=>nomatch b⟩
noncomputable def S0:St:=⟨[0],[O],[[]]⟩
def Dj:WF S0:=by
 refine⟨rfl,rfl,by decide,λi n h=>?_,λi c n h=>?_,λw hw=>?_,λw hw p a=>?_⟩
 ·cases i with
  |zero=>cases h
  |succ i=>cases h
 ·cases i with
  |zero=>cases h
  |succ i=>cases h
 ·rw[Zk.mp hw];exact Yt
 ·rw[Zk.mp hw]at a;cases a
end AU
end
section
namespace VS
def e2v{f:Val->Val->Uu}{a b:Ex}{U:Env}{x y z:Val}(g:a U=Y x)(e:b U=Y y)(d:f x y=Y z):e2 f a b U=Y z:=by
 show (a U).bind _=_;rw[g,Zs,e];exact d
def xv{r:IZ}{U:Env}{x:Val}(e:a U=Y x)(d:r U=Y b):ab a r U=Y (x :: b):=by
 show (a U).bind _=_;rw[e,Zs,d];rfl
def lu{m:Md}(h:c U=Y (m,.bl L)):Jw c a b U=a U:=by
 show (c U).bind _=_;rw[h];rfl
def k7{c:Ex}{a b:Sx}{m:Md}(h:c U=Y (m,.bl B)):Jw c a b U=b U:=by
 show (c U).bind _=_;rw[h];rfl
def k8{v:Val}(h:a U=Y b)(d:f b=Y v):eN f a U=Y v:=by
 show (a U).bind f=_;rw[h,Zs,d]
def d7{e:Ex}{U:Env}{t:T}(h:e U=Y (.fr,t)):fJ e U=Y (.rt (.fr,t) U):=by
 show (e U).bind _=_;rw[h];rfl
def gp(h:a U=Y (.rt v d)):ak a b U=Y (.rt v d):=by
 show (a U).bind _=_;rw[h];rfl
def ah{b:Sx}{U U1:Env}(h:a U=Y (.nx U1)):ak a b U=b U1:=by
 show (a U).bind _=_;rw[h];rfl
def sq{b:Sx}{U1:Env}{r:Option Out}(h:a U=Y (.nx U1))(q:b U1=r):ak a b U=r:=(ah h).trans q
def ift{m:Md}(h:c U=Y (m,.bl L))(q:a U=r):Jw c a b U=r:=(lu h).trans q
def xp{b:Sx}{m:Md}{r:Option Out}(h:c U=Y (m,.bl B))(q:b U=r):Jw c a b U=r:=(k7 h).trans q
def iD{a:Ut}{v:Val}{U:Env}(f:a.length=d)(h:b (a.map (λt=>Y (.pu t))++List.replicate (e-d) O)=Y (.rt v U)):fn d e b a=Y v:=by
 unfold fn;rw[Zo f,h];rfl
def AM{m:Md}{x:Bool}(f:a U=Y (m,.bl x))(e:x=L->b U=Y v)(d:x=B->v=(.fr,.bl B)):oy a b U=Y v:=by
 show (a U).bind _=_;rw[f,Zs];cases x with
 |true=>exact e M
 |false=>exact congrArg Y (d M).symm
def Hf(f:a U=Y (m,.bl x))(e:x=B->b U=Y v)(d:x=L->v=(.fr,.bl L)):Og a b U=Y v:=by
 show (a U).bind _=_;rw[f,Zs];cases x with
 |false=>exact e M
 |true=>exact congrArg Y (d M).symm
def S4{m n:Md}{x y:Bool}(f:a U=Y (m,.bl x))(d:b U=Y (.fr,.bl y)):Og a b U=Y (.fr,.bl (x||y)):=Hf f (λe=>by rw[e];exact d) (λe=>by rw[e];rfl)
def DM{m:Md}{b:Bool}(h:a U=Y (m,.bl b)):zA a U=Y (.fr,.bl (!b)):=by
 show (a U).bind _=_;rw[h];rfl
def qX{x y z:Val}(j:a U=Y x)(i:b U=Y y)(h:f x y=Y (.fr,.bl L))(e:c U=Y z)(d:g y z=Y v):fP f g a b c U=Y v:=by
 show (a U).bind _=_;rw[j,Zs,i,Zs,h,Zs];show (c U).bind _=_;rw[e];exact d
def C7{x y:Val}(h:a U=Y x)(e:b U=Y y)(d:f x y=Y (.fr,.bl B)):fP f g a b c U=Y (.fr,.bl B):=by
 show (a U).bind _=_;rw[h,Zs,e,Zs,d];rfl
def vL{n:Nat}{i:Int}(b:0<=i)(a:i<n):Jx n i=Y i.toNat:=by rw[Jx,Zo b,Zo a]
def CK{i:Nat}(a:i<n):Jx n (i:Int)=Y i:=by
 rw[Jx,Zo (W6 i),Zo (Int.ofNat_lt.mpr a)];rfl
def BS(l:Vg)(i:Int)(b:0<=i)(a:i<l.length):aJ (m,.scr l) (n,.int i)=Y {`bv,l.getD i.toNat 0}:=by
 have d:i.toNat<l.length:=by lia
 show (Jx l.length i).bind _=_;rw[vL b a,Zs,Zr,Zq d];rfl
def uO(t:Tx)(i:Int)(b:0<=i)(a:i<t.length):aJ (m,.str t) (n,.int i)=Y (.fr,.str [t.getD i.toNat 0]):=by
 have d:i.toNat<t.length:=by lia
 show (Jx t.length i).bind _=_;rw[vL b a,Zs,Zr,Zq d];rfl
def iG{m n:Md}{r:Bool}(e:JK 60 a=L)(d:JK 60 b=L)(h:eqT a b=r):oEq (m,a) (n,b)=Y (.fr,.bl r):=by
 show (if JK 60 a/\JK 60 b then Y (Md.fr,T.bl (eqT a b)) else O)=_;rw[Zo ⟨e,d⟩,h]
def zF{m:Md}{r:Bool}(e:JK 60 a=L)(d:JK 60 b=L)(h:eqT a b=r):Lp (m,a) (n,b)=Y (.fr,.bl (!r)):=by
 show (if JK 60 a/\JK 60 b then Y (Md.fr,T.bl (!eqT a b)) else O)=_;rw[Zo ⟨e,d⟩,h]
def t5{i:Nat}{U:Env}{l:Ut}{v:T}(f:U[i]?=Y (Y (.ow (.lst l))))(d:e U=Y (.fr,v))(b:l.length<16777216):sX (j4 i [] aV (ab e ai)) U=Y (.nx (U.set i (Y (.ow (.lst (l++[v])))))):=by
 have a:ab e ai U=Y [(.fr,v)]:=xv d M;unfold sX j4;rw[f];show ((Y ([]:List Ky)).bind _ |>.map _)=_;rw[Zs,a,Zs];show ((aV (.lst l) [(.fr,v)]).map _ |>.map _)=_;rw[fQ b];rfl
def zu{m n:Md}{x y:Tx}(e:a U=Y (m,.str x))(d:b U=Y (n,.str y))(h:x.length+y.length<=16777216):e2 aW a b U=Y (.fr,.str (x++y)):=e2v e d (ki h)
def D3(l:List Tx)(h:a U=Y (l.map λx=>(Md.fr,T.str x)))(b:l.length<=16777216):bW a U=Y (.fr,.lst (l.map .str)):=by
 unfold bW;rw[h,Zs];have e:trees (l.map λx=>(Md.fr,T.str x))=l.map T.str:=by unfold trees;rw[Yp];rfl
 rw[e,k9 (by rw[Zt];exact b),show dJ (l.map T.str)=L from gQ _ (λ_=>rfl) l];rfl
def uL{m n:Md}{x y:List Tx}(e:a U=Y (m,.lst (x.map .str)))(d:b U=Y (n,.lst (y.map .str)))(h:x.length+y.length<=16777216):e2 aW a b U=Y (.fr,.lst ((x++y).map .str)):=by
 refine e2v e d ?_;rw[Af,← Yu,k9 (by rw[Zt,Zw];exact h),show dJ ((x++y).map T.str)=L from gQ _ (λ_=>rfl) _];rfl
end VS
end
section
namespace T39
open VS AU
noncomputable abbrev pc(t:T):Uw:=Y (.pu t)
abbrev Q0(i:Int):Option Cell:=Y (.pu (.int i))
abbrev Q2(t:Tx):Option Cell:=Y (.pu (.str t))
noncomputable abbrev oc(t:T):Uw:=Y (.ow t)
noncomputable def ID(w:List (Nat×Nat)):T:=.dct 0 (w.map λp=>(T.str [p.1],T.int (p.2:Int)))
noncomputable def IW:Option Nat->T
 |none=>.non
 |some n=>.int (n:Int)
def KQ(S:St):uk:=[(1,.lst (S.lg.map λ(n:Nat)=>T.int (n:Int))),(2,.lst (S.lk.map IW)),(3,.lst (S.wy.map ID))]
def Io(S:St)(b:Bool):T:=.obj 1 ((0,.bl b) :: KQ S)
def lQ(o:Option Nat):Ir (IW o)=L:=by cases o<;>rfl
theorem jv{α:Type}(f:α->T)(h:∀a,fW (f a)=L):∀l:List α,cq (l.map f)=L
 |[]=>rfl
 |a :: l=>ZU.mpr ⟨h a,jv f h l⟩
def xU(w:List (Nat×Nat)):fW (ID w)=L:=by
 show si (w.map λp=>(T.str [p.1],T.int (p.2:Int)))=L
 induction w with
 |nil=>rfl
 |cons p w a=>exact a
def mI(S:St):hZ (KQ S)=L:=by
 have d:fW (.lst (S.lg.map λ(n:Nat)=>T.int (n:Int)))=L:=jv _ (λ_=>rfl) _;have b:fW (.lst (S.lk.map IW))=L:=jv _ (λo=>nW _ (lQ o)) _;have a:fW (.lst (S.wy.map ID))=L:=jv _ xU _;show ((fW _ && !(1==0&&Pg _))&&((fW _ && !(2==0&&Pg _))&&((fW _ && !(3==0&&Pg _))&&L)))=L;rw[d,b,a];rfl
def GU(S:St)(b:Bool):wJ 1 (Io S b)=Y (.lst (S.lg.map λ(n:Nat)=>T.int (n:Int))):=rfl
def Ii(S:St)(b:Bool):wJ 2 (Io S b)=Y (.lst (S.lk.map IW)):=rfl
def Ij(S:St)(b:Bool):wJ 3 (Io S b)=Y (.lst (S.wy.map ID)):=rfl
def pN(h:a U=Y (m,t))(b:wJ k t=Y u):bF k a U=Y (sub m u):=by
 unfold bF;rw[h,Zs,b];rfl
def l6{α:Type}{n:Md}(f:α->T)(l:List α)(i:Nat)(d:α)(h:i<l.length):aJ (m,.lst (l.map f)) (n,.int (i:Int))=Y (sub m (f (l.getD i d))):=by
 show (Jx (l.map f).length (i:Int)).bind _=_;rw[Zt,CK h,Zs,ZP,Zq h,Zr,Zq h];rfl
section
def sA{i:Nat}(h:a U=Y (m,Io S b))(he:e U=Y (n,.int (i:Int)))(d:i<S.lg.length):e2 aJ (bF 1 a) e U=Y {`bv,((S.lg.getD i 0:Nat):Int)}:=e2v (pN h (GU S b)) he (l6 _ _ i 0 d)
def vp{i:Nat}(h:a U=Y (m,Io S b))(he:e U=Y (n,.int (i:Int)))(d:i<S.lk.length):e2 aJ (bF 2 a) e U=Y (.fr,IW (S.lk.getD i O)):=(e2v (pN h (Ii S b)) he (l6 _ _ i O d)).trans (by
 show Y (up _ _)=_;unfold up;rw[lQ];rfl)
def nN{i:Nat}(h:a U=Y (m,Io S b))(he:e U=Y (n,.int (i:Int)))(d:i<S.wy.length):e2 aJ (bF 3 a) e U=Y (m,ID (S.wy.getD i [])):=e2v (pN h (Ij S b)) he (l6 _ _ i [] d)
def E4(h:a U=Y (m,Io S b)):eN bu (ab (bF 1 a) ai) U=Y (.fr,.int (S.lg.length:Nat)):=k8 (xv (pN h (GU S b)) M) (by
 show Y (Md.fr,T.int (((S.lg.map λ(n:Nat)=>T.int (n:Int)).length:Nat):Int))=_;rw[Zt])
end
def Bt(a c:Nat):eqT (.str [a]) (.str [c])=(a==c):=by
 simp only[eqT];by_cases h:a=c
 ·simp[h]
 ·simp[h]
def qQ(w:List (Nat×Nat))(c:Nat):fq (w.map λp=>(T.str [p.1],T.int (p.2:Int))) (.str [c])=(gW w c).map λ(n:Nat)=>T.int (n:Int):=by
 unfold fq gW;rw[List.find?_map];have:((λp:T×T=>eqT p.1 (.str [c])) ∘ λp:Nat×Nat=>(T.str [p.1],T.int (p.2:Int)))=λp:Nat×Nat=>p.1==c:=by
  funext p;exact Bt p.1 c
 rw[this];cases w.find? λp=>p.1==c with
 |none=>rfl
 |some p=>rfl
def GZ(w:List (Nat×Nat))(c m:Nat):dput (w.map λp=>(T.str [p.1],T.int (p.2:Int))) (.str [c]) (.int (m:Int))=(pW w c m).map λp=>(T.str [p.1],T.int (p.2:Int)):=by
 have a:(w.map λp=>(T.str [p.1],T.int (p.2:Int))).any (λp=>eqT p.1 (.str [c]))=w.any λp=>p.1==c:=by
  rw[List.any_map];congr 1;funext p;exact Bt p.1 c
 unfold dput pW;rw[a];split
 ·rw[Yp,Yp];apply VX;intro p _;simp only[Function.comp,Bt];split<;>rfl
 ·rw[Yu];rfl
section
def HL(h:a U=Y (m,ID w))(he:e U=Y (n,.str [c])):e2 kI e a U=Y (.fr,.bl (gW w c).isSome):=e2v he h (by
 show (if L=L then Y (Md.fr,T.bl (fq _ _).isSome) else O)=_;rw[Zo M,qQ,Xu])
def Dv(h:a U=Y (m,ID w))(he:e U=Y (n,.str [c])):e2 cR e a U=Y (.fr,.bl (!(gW w c).isSome)):=e2v he h (by
 show (match (if L=L then Y (Md.fr,T.bl (fq (w.map λp=>(T.str [p.1],T.int (p.2:Int))) (.str [c])).isSome) else O) with | some (_,.bl b)=>some (Md.fr,T.bl (!b)) | _=>none)=_;rw[Zo M,qQ,Xu])
def wu(h:a U=Y (m,ID w))(he:e U=Y (n,.str [c]))(d:gW w c=Y v):e2 Kd a e U=Y (.fr,.int (v:Int)):=e2v h he (by
 show (if L=L then (fq _ _).map (sub m) else O)=_;rw[Zo M,qQ,d];rfl)
def Gz(h:a U=Y (m,ID w))(he:e U=Y (n,.str [c])):e2 xQ a e U=Y (.fr,IW (gW w c)):=e2v h he (by
 show (if L=L then Y (match fq (w.map λp=>(T.str [p.1],T.int (p.2:Int))) (.str [c]) with | some t=>sub m t | none=>(.fr,.non)) else none)=_;rw[Zo M,qQ];cases gW w c with
 |none=>rfl
 |some v=>rfl)
def Ai{S:St}{v:Nat}(d:i<S.wy.length)(he:e (oc (Io S b) :: r)=Y (n,.int (i:Int)))(l:ec (oc (Io S b) :: r)=Y (m,.str [c]))(g:ev (oc (Io S b) :: r)=Y (k,.int (v:Int)))(f:(S.wy.getD i []).length<16777216) :
  fM 0 [.fld 3,.ix e] ec ev (oc (Io S b) :: r)=Y (.nx (oc (Io ⟨S.lg,S.lk,S.wy.set i (pW (S.wy.getD i []) c v)⟩ b) :: r)):=by
 unfold fM;rw[g,Zs];show ((keys [.fld 3,.ix e] (oc (Io S b) :: r)).bind _)=_;have j:keys [.fld 3,.ix e] (oc (Io S b) :: r)=Y [.fld 3,.at (.int (i:Int))]:=by
  show ((e _).bind _).map _=_;rw[he];rfl
 rw[j,Zs,l,Zs];have h:pm (qY (m,.str [c]) (k,.int (v:Int))) [.fld 3,.at (.int (i:Int))] (Io S b)=Y (Io ⟨S.lg,S.lk,S.wy.set i (pW (S.wy.getD i []) c v)⟩ b,()):=by
  show ((pm (qY (m,.str [c]) (k,.int (v:Int))) [.at (.int (i:Int))] (.lst (S.wy.map ID))).map _)=_;have:pm (qY (m,.str [c]) (k,.int (v:Int))) [.at (.int (i:Int))] (.lst (S.wy.map ID))=Y (.lst ((S.wy.set i (pW (S.wy.getD i []) c v)).map ID),()):=by
   show ((Jx (S.wy.map ID).length (i:Int)).bind _)=_;rw[Zt,CK d,Zs,ZP,Zq d];show ((qY (m,.str [c]) (k,.int (v:Int)) (ID S.wy[i])).map _)=_;have e1:S.wy.getD i []=S.wy[i]:=by rw[Zr,Zq d];rfl
   rw[e1]at f ⊢;show ((if L=L/\L=L/\(S.wy[i].map _).length<dZ then Y (T.dct 0 (dput _ _ _),()) else O).map _)=_;rw[Zo ⟨rfl,rfl,by rw[Zt];exact f⟩,GZ,VA];rfl
  rw[this];rfl
 rw[h];rfl
def Ar{S:St}{v:Nat}{r:List (Uw)}(h:i<S.lk.length)(he:e (oc (Io S b) :: r)=Y (n,.int (i:Int)))(d:ev (oc (Io S b) :: r)=Y (.fr,.int (v:Int))) :
  fM 0 [.fld 2] e ev (oc (Io S b) :: r)=Y (.nx (oc (Io ⟨S.lg,S.lk.set i (Y v),S.wy⟩ b) :: r)):=by
 unfold fM;rw[d,Zs];show ((keys [.fld 2] (oc (Io S b) :: r)).bind _)=_;have g:keys [.fld 2] (oc (Io S b) :: r)=Y [.fld 2]:=rfl;rw[g,Zs,he,Zs];have f:pm (qY (n,.int (i:Int)) (.fr,.int (v:Int))) [.fld 2] (Io S b)=Y (Io ⟨S.lg,S.lk.set i (Y v),S.wy⟩ b,()):=by
  show ((qY (n,.int (i:Int)) (.fr,.int (v:Int)) (.lst (S.lk.map IW))).map _)=_;have:qY (n,.int (i:Int)) (.fr,.int (v:Int)) (.lst (S.lk.map IW))=Y (.lst ((S.lk.set i (Y v)).map IW),()):=by
   show ((Jx (S.lk.map IW).length (i:Int)).map _)=_;rw[Zt,CK h,VA];rfl
  rw[this];rfl
 rw[f];rfl
end
end T39
end
section
namespace VS
def wr(a:Bool)(k:Nat)(t:T):T:=if a then Nf k t else t
def Of(l:Ut):List Ia:=l.map λt=>Ia.ex (eC t)
theorem zw(U:Env):∀l:Ut,kb U (Of l)=Y l
 |[]=>rfl
 |t :: l=>by
  show ((Y (Md.fr,t):Uu).bind λv=>(Rk v).bind λt=>(kb U (Of l)).map (t :: ·))=_;rw[zw U l];rfl
theorem vO(U:Env):∀l:Ut,iJ (Of l) [] U=U
 |[]=>rfl
 |t :: l=>vO U l
theorem DI:∀l:Ut,Jb (Of l)=[]
 |[]=>rfl
 |t :: l=>DI l
section
def ci{r:List Ia}(d:U[i]?=Y (Y (.ow (wr un k t0))))(e:kb U r=Y l)(w:Jb r=[])(n:∀U,iJ r [] U=U)(p:oA t0=L)(o:fW t0=L)(q:cq l=L)(v:g (t0 :: l)=Y ([t1],y)) :
  lP (.io i un :: r) g U=Y ((.fr,y),U.set i (Y (.ow (wr un k t1)))):=by
 have e2:kb U (.io i un :: r)=Y (t0 :: l):=by
  show (OE un U[i]?).bind _=_;rw[d];have:OE un (Y (Y (.ow (wr un k t0))))=Y t0:=by
   cases un
   ·show (if oA t0 then Y t0 else O)=_;rw[Zo p]
   ·rfl
  rw[this];show (kb U r).map _=_;rw[e];rfl
 unfold lP;rw[e2,Zs,Zo ⟨ZU.mpr ⟨o,q⟩,by show (i :: Jb r).Nodup;rw[w];exact ZY.mpr ⟨(λh=>nomatch h),Yt⟩⟩,v];show Y ((Md.fr,y),iJ r [] (U.set i (Y (.ow (pD un U[i]? t1)))))=_;rw[n,d];cases un<;>rfl
def cx{U:Env}(q:U[i]?=Y (Y c0))(d:jz r U=Y (Of l,U1))(p:U1[i]?=Y (Y (.ow (wr un k t0))))(h:oA t0=L)(e:fW t0=L)(n:cq l=L)(o:g (t0 :: l)=Y ([t1],y)) :
  aF (.io i un :: r) g U=Y ((.fr,y),U1.set i (Y (.ow (wr un k t1)))):=by
 have e1:jz (.io i un :: r) U=Y (.io i un :: Of l,U1):=by
  unfold jz;rw[q];show (jz r U).map _=_;rw[d];rfl
 unfold aF;rw[e1];exact ci p (zw U1 l) (DI l) (λU=>vO U l) h e n o
def sG(d:x U=Y ((.fr,t),U1))(h:Ir t=L)(e:jz r U1=Y (Of l,U2)):jz (.px x :: r) U=Y (Of (t :: l),U2):=by
 unfold jz;rw[d,Zs,Zo h,e];rfl
def bR(h:c U=Y (m,t))(hi:Ir t=L):xI c U=Y ((.fr,t),U):=by
 unfold xI;rw[h,Zs,Zo hi]
def jE(p:a U=Y ((.fr,s),U1))(o:b U1=Y ((.fr,t),U2))(n:f (.fr,s) (.fr,t)=Y (m,u))(h:Ir s=L)(e:Ir t=L)(d:Ir u=L):x2 f a b U=Y ((.fr,u),U2):=by
 unfold x2;rw[p,Zs,o,Zs,n,Zs,Zo ⟨h,e,d⟩]
def dX(h:x U=Y ((.fr,t),U1))(hi:Ir t=L)(d:j<U1.length):cp j x U=Y (.nx (U1.set j (Y (.pu t)))):=by
 unfold cp;rw[h,Zs,Zo ⟨hi,d⟩]
def Cv(h:x U=Y ((.fr,t),U1))(d:Ir t=L):kN x U=Y (.rt (.fr,t) U1):=by
 unfold kN;rw[h,Zs,Zo d]
def wL(l:Vg):dJ (l.map .int)=L:=by
 induction l with
 |nil=>rfl
 |cons a l d=>exact d
def jy{i:Int}(l:Vg)(h:c U=Y (.fr,.lst (l.map .int)))(e:b U=Y ({`bv,i},U1))(n:0<=i)(d:i<l.length):iZ c b U=Y ({`bv,l.getD i.toNat 0},U1):=by
 unfold iZ;rw[h,Zs];show (b U).bind _=_;rw[e,Zs];show (Jx (l.map T.int).length i).bind _=_;rw[Zt,vL n d,Zs,ZP,Zq (by omega)];show (if dJ (l.map .int)=L/\Ir (T.int (l[i.toNat]'(by omega)))=L then Y ((Md.fr,T.int (l[i.toNat]'(by omega))),U1) else O)=_;rw[Zo ⟨wL l,rfl⟩,Zr,Zq (by omega)];rfl
def B4{U:Env}{n:Nat}{c:Cell}{i:Int}(l:List Tx)(h:U[n]?=Y (Y c))(q:b U=Y ({`bv,i},U1))(p:U1[n]?=Y (Y d))(o:iF d=.lst (l.map .str))(v:0<=i)(e:i<l.length):rR n b U=Y ((.fr,.str (l.getD i.toNat [])),U1):=by
 unfold rR;rw[h];show (b U).bind _=_;rw[q,Zs];dsimp only;rw[p];dsimp only;rw[o];show (Jx (l.map T.str).length i).bind _=_;rw[Zt,vL v e,Zs,ZP,Zq (by omega)];show Y ((Md.fr,T.str (l[i.toNat]'(by omega))),U1)=_;rw[Zr,Zq (by omega)];rfl
def mD{i:Int}(h:x U=Y ({`bv,i},U1)):eW (Y x) U=Y (Y i,U1):=by
 show (x U).bind _=_;rw[h];rfl
def Df{lo hi:Option Xx}(h:a U=Y ((.fr,.str w),U1))(e:eW lo U1=Y (p,U2))(d:eW hi U2=Y (q,U3)):PF a lo hi U=Y ((.fr,.str (cut w p q)),U3):=by
 unfold PF;rw[h,Zs];show (eW lo U1).bind _=_;rw[e,Zs];show (eW hi U2).map _=_;rw[d];rfl
def CV{U:Env}{l:Ut}(q:U[n]?=Y (Y (.ow (.lst d))))(h:x U=Y ((.fr,t),U1))(p:U1[n]?=Y (Y (.ow (.lst l))))(o:Ir t=L)(e:l.length<16777216):oU n x U=Y (.nx (U1.set n (Y (.ow (.lst (l++[t])))))):=by
 unfold oU;rw[q];show (x U).bind _=_;rw[h,Zs];dsimp only;rw[p];show (if Ir t=L then (aV (.lst l) [(.fr,t)]).map _ else _)=_;rw[Zo o,fQ e];rfl
def jL{e:List Bool}{h n:Ut}{v:Val}(z:h.length+1=o/\e.length=h.length)(A:d ((Y (.ow (Nf 1 t0)) :: List.zipWith je e (markL 1 e h))++List.replicate (p-o) O)=Y (.rt v U))(q:l5 U 0 (L :: e)=Y n)(C:wC n v=L)(w:cq n=L):Mo o p e d (t0 :: h)=Y (n,v.2):=by
 dsimp only[Mo];rw[Zo z,A,Zs];dsimp only;rw[q,Zs,Zo ⟨C,w⟩]
def vH(h:d U=Y (L,U1)):qj d p q U=p U1:=by
 unfold qj;rw[h];rfl
def pd(h:d U=Y (B,U1)):qj d p q U=q U1:=by
 unfold qj;rw[h];rfl
def uR(h:c U=Y (m,.bl B)):gg c d U=Y (B,U):=by
 unfold gg;rw[h];rfl
def uu(h:c U=Y (m,.bl L)):gg c d U=d U:=by
 unfold gg;rw[h];rfl
def Ha{b:Bool}(h:x U=Y ((.fr,.bl b),U1)):Mg x U=Y (b,U1):=by
 unfold Mg;rw[h];rfl
def qV{i j:Int}(e:a U=Y ({`bv,i},U1))(d:b U1=Y ({`bv,j},U2)):Mg (x2 oEq a b) U=Y (i==j,U2):=Ha (jE e d (iG M M (by simp only[eqT])) M M M)
def qb{f:Val->Uv->Uu}{x:Val}(p:o U=Y x)(n:e U=Y d)(h:f x d=Y v):eM f o e U=Y v:=by
 unfold eM;rw[p,Zs,n];exact h
end
end VS
end
section
namespace T39
open VS
abbrev sp(un:Bool)(n:Int):Uw:=oc (wr un 1 (.lst [.int n]))
def DX(n m:Int)(h:0<m/\m<1073741824):ar [.lst [.int n],.int m]=Y ([.lst [.int (n/m)]],.int (n%m)):=by
 have s1:aI 2 (e2 oMod (e2 aJ (Pu (aa 0)) (Q3 0)) (aa 1)) [sp L n,Q0 m,O]=Y (.nx [sp L n,Q0 m,Q0 (n%m)]) :=
  aH (m:=.fr) (e2v (x:={`bv,n}) (y:={`bv,m}) M M (fF h.1)) `ao (by show 2<3;decide)
 have d:fM 0 [.un] (Q3 0) (e2 jH (e2 aJ (Pu (aa 0)) (Q3 0)) (aa 1)) [sp L n,Q0 m,Q0 (n%m)]=Y (.nx [sp L (n/m),Q0 m,Q0 (n%m)]):=by
  unfold fM;rw[e2v (f:=jH) (x:={`bv,n}) (y:={`bv,m}) (U:=[sp L n,Q0 m,Q0 (n%m)]) (a:=e2 aJ (Pu (aa 0)) (Q3 0)) (b:=aa 1) M M (kL h)];rfl
 exact jL (v:={`bv,n%m}) ⟨rfl,rfl⟩ ((ah s1).trans ((ah d).trans M)) M M M
section
variable{n m:Int}
def nx{U:Env}(a:0<m/\m<1073741824)(g:U[i]?=Y (Y c0))(e:x U=Y ({`bv,m},U1))(f:U1[i]?=Y (sp un n)):∃d b,0<=d/\d<m/\aF [.io i un,.px x] ar U=Y ({`bv,d},U1.set i (sp un b)) :=
 ⟨n%m,n/m,XJ _ `am,Xl _ a.1,cx g (sG e M M) f M M M (DX n m a)⟩
end
def uq{i:Int}(h:x (Q0 i :: U)=Y ((.fr,t),c :: a))(f:Ir t=L)(e:iI x r a=Y (b,d)):iI x (i :: r) U=Y (t :: b,d):=by
 unfold iI;rw[h,Zs];show (if Ir t=L then (iI x r a).map _ else _)=_;rw[Zo f,e];rfl
def Fm(L:Tx)(a n:Int)(A:0<L.length)(E:L.length<1000)(D:0<=a)(C:a<1000):∃(b:Int)(t:Tx),eJ [.lst [.int n],.str L,.int a]=Y ([.lst [.int b]],.str t)/\t.length<=a.toNat/\∀c∈t,c∈L:=by
 have loop:∀(r:Vg)(n:Int),∃(b:Int)(s:Tx),iI (x2 aJ (xI (aa 2)) {`b3,.io 1 true,eN bu {`bn,2}}) r [sp true n,Q2 L,Q0 a]=Y (s.map λc=>T.str [c],[sp true b,Q2 L,Q0 a])/\s.length=r.length/\∀c∈s,c∈L:=by
  intro r
  induction r with
  |nil=>intro n;exact⟨n,[],rfl,rfl,λ_ h=>nomatch h⟩
  |cons i r q =>
   intro n;obtain⟨d,f,l,p,e⟩:=nx (i:=1) (un:=true) (m:=(L.length:Int)) (n:=n) (x:=xI (eN bu {`bn,2})) (U:=[Q0 i,sp true n,Q2 L,Q0 a]) (U1:=[Q0 i,sp true n,Q2 L,Q0 a]) `am M (bR (m:=.fr) M M) M;obtain⟨b,s,o,g,j⟩:=q f;have hd:d.toNat<L.length:=by lia
   refine⟨b,L.getD d.toNat 0 :: s,uq (jE (bR (m:=.fr) M M) e (uO L d l p) M M M) M o,by rw[Zg,Zg,g],λc y=>?_⟩;rcases Zj.mp y with rfl | h
   ·rw[Zr,Zq hd];exact Ys hd
   ·exact j c h
 obtain⟨d,f,l,p,e⟩:=nx (i:=0) (un:=true) (m:=a+1) (n:=n) (x:=xI (e2 aW (aa 2) (Q3 1))) (U:=[sp true n,Q2 L,Q0 a]) `am M (bR (m:=.fr) M M) M;obtain⟨b,s,o,g,j⟩:=loop (OD 0 d.toNat) f;have u:s.length=d.toNat:=by rw[g];unfold OD;rw[Zt,W3]
 refine⟨b,s,?_,by lia,j⟩;have w:sy (aF [(.io 0 true),(.px (xI (e2 aW (aa 2) (Q3 1))))] ar) (x2 aJ (xI (aa 2)) {`b3,.io 1 true,eN bu {`bn,2}}) [sp true n,Q2 L,Q0 a]=Y (s.map λc=>T.str [c],[sp true b,Q2 L,Q0 a]):=by
  unfold sy;rw[e,Zs];show (if 0<=d/\d<1000000 then iI _ (OD 0 d.toNat) _ else O)=_;rw[Zo ⟨l,by lia⟩];exact o
 refine jL (v:=(.fr,.str s)) (U:=[sp true b,Q2 L,Q0 a]) ⟨rfl,rfl⟩ (Cv ?_ M) M M M;unfold za;refine(congrArg (λz=>Option.bind z _) w).trans ?_;have:=lN (m:=.fr) (n:=.fr) (strs_map (λx=>[x]) s) (by rw[de];lia);rw[de]at this;show (iH (.fr,.str []) [(.fr,.lst (s.map λc=>T.str [c]))]).map _=_;rw[this];rfl
noncomputable def az:Tx:=[97,98,99,100,101,102,103,104,105,106,107,108,109,110,111,112,113,114,115,116,117,118,119,120,121,122]
def qq:∀c∈az,97<=c/\c<=122:=by decide
def getD_mem'{l:Tx}{i:Nat}(h:i<l.length):l.getD i 0∈l:=by
 rw[Zr,Zq h];exact Ys h
def AZ(n:Int):∃(r:Int)(s:Tx),gn [.lst [.int n]]=Y ([.lst [.int r]],.str s)/\0<s.length/\s.length<=26/\∀c∈s,97<=c/\c<=122:=by
 obtain⟨d,o,D,C,e⟩:=nx (i:=0) (un:=L) (m:=8) (n:=n) (x:=xI (Q3 8)) (U:=[sp L n,Q2 az,O,O,O]) `ao M (bR (m:=.fr) M M) M;have u:∀k,k<8->1<=([2,1,3,2,4,2,3,26]:Vg).getD k 0/\([2,1,3,2,4,2,3,26]:Vg).getD k 0<=26:=by decide
 have f1:=u d.toNat `am;have g:=dX (j:=2) (jy (c:=(bW (ab (Q3 2) (ab (Q3 1) (ab (Q3 3) (ab (Q3 2) (ab (Q3 4) (ab (Q3 2) (ab (Q3 3) (ab (Q3 26) ai)))))))))) ([2,1,3,2,4,2,3,26]:Vg) M e D C) M (by show 2<5;decide);generalize ([2,1,3,2,4,2,3,26]:Vg).getD d.toNat 0=Jo at f1 g;obtain⟨a,l,N,J,e3⟩:=nx (i:=0) (un:=L) (m:=26) (n:=o) (x:=xI (Q3 26)) (U:=[sp L o,Q2 az,Q0 Jo,O,O]) `ao M (bR (m:=.fr) M M) M;obtain⟨q,h,G,F,A⟩:=nx (i:=0) (un:=L) (m:=4) (n:=l) (x:=xI (Q3 4)) (U:=[sp L l,Q2 az,Q0 Jo,Q0 a,O]) `ao M (bR (m:=.fr) M M) M;have f:=dX (j:=4) (jy (c:=(bW (ab (Q3 1) (ab (Q3 3) (ab (Q3 25) (ab (Q3 7) ai)))))) ([1,3,25,7]:Vg) M A G F) M (by show 4<5;decide);have t:∀k,k<4->0<=([1,3,25,7]:Vg).getD k 0/\([1,3,25,7]:Vg).getD k 0<=26:=by decide
 have z:=t q.toNat `am;generalize ([1,3,25,7]:Vg).getD q.toNat 0=st at z f;have E:=fG (k:=1) (tg:=aY 0) (it:=b6 (aa 2)) (elt:=e2 aJ (aa 2) (e2 oMod (e2 aW (aa 4) (e2 fC (aa 5) (aa 0))) (Q3 26))) (m:=.fr) (U:=[sp L h,Q2 az,Q0 Jo,Q0 a,Q0 st]) (λ(j:Nat)=>T.int (j:Int)) (λj=>T.str [az.getD ((a+st*(j:Int))%26).toNat 0]) (List.range Jo.toNat) (by
   rw[dF (m:=.fr) (j:=Jo) M `am,fS]) M (by rw[ZC];lia) λj H=>⟨_,rfl,by
   refine e2v (x:=(.fr,.str az)) M (e2v (x:={`bv,a+st*(j:Int)}) (y:={`bv,26}) (e2v (x:={`bv,a}) M (e2v (x:={`bv,st}) (y:=(.fr,.int (j:Int))) M M (jO (by omega))) M) M (fF `ao)) (uO az _ (XJ _ `ao) (Xl _ `ao))⟩
 have p:=lN (m:=.fr) (n:=.fr) (strs_map (λ(j:Nat)=>[az.getD ((a+st*(j:Int))%26).toNat 0]) (List.range Jo.toNat)) (by rw[show (List.range Jo.toNat).map (λ(j:Nat)=>[az.getD ((a+st*(j:Int))%26).toNat 0])=((List.range Jo.toNat).map λ(j:Nat)=>az.getD ((a+st*(j:Int))%26).toNat 0).map (λx=>[x]) from by rw[Yp];rfl,de,Zt,ZC];lia);rw[show (List.range Jo.toNat).map (λ(j:Nat)=>[az.getD ((a+st*(j:Int))%26).toNat 0])=((List.range Jo.toNat).map λ(j:Nat)=>az.getD ((a+st*(j:Int))%26).toNat 0).map (λx=>[x]) from by rw[Yp];rfl,de]at p;refine⟨h,(List.range Jo.toNat).map λ(j:Nat)=>az.getD ((a+st*(j:Int))%26).toNat 0,jL (v:=(.fr,.str _)) ⟨rfl,rfl⟩ ((ah (U1:=[sp L n,Q2 az,O,O,O]) M).trans ((ah g).trans ((ah (dX e3 M (by show 3<5;decide))).trans ((ah f).trans (d7 ?_))))) M M M,by rw[Zt,ZC];lia,by rw[Zt,ZC];lia,λc w=>?_⟩
 ·exact qb M (xv E M) p
 ·obtain⟨j,_,rfl⟩:=JD.mp w;have:=XJ (a+st*(j:Int)) (b:=26) `ao;have:=Xl (a+st*(j:Int)) (b:=26) `ao;exact qq _ (getD_mem' (by show _<26;lia))
theorem fI{β:Type}{tg:Tg}{body:Sx}(g:β->T)(Inv:List β->Env->Prop)(h:∀t r U,Inv (t :: r) U->∃i a,tg (g t) U=Y i/\body i=Y (.nx a)/\Inv r a):∀(l:List β)(U:Env),Inv l U->∃b,forL tg body (l.map g) U=Y (.nx b)/\Inv [] b
 |[],U,f=>⟨U,rfl,f⟩
 |t :: l,U,f=>by
  obtain⟨i,a,e1,e2,e⟩:=h t l U f;obtain⟨b,e3,d⟩:=fI g Inv h l a e;exact⟨b,(iq e1 e2).trans e3,d⟩
noncomputable def Az(t:Tx):Prop:=∀c∈t,97<=c/\c<=122
abbrev EB(n:Int)(L:Tx)(a:Int)(f:List Tx)(e d b:Uw):Env:=[sp true n,Q2 L,Q0 a,oc (.lst (f.map .str)),e,d,b]
section
variable{L:Tx}{many:Int}
def Pe(n m:Int)(b:0<m/\m<1073741824){c:Ex}(e:c (EB n L many bk z4 z5 z6)=Y {`bv,m}):∃d a,0<=d/\d<m/\aF [.io 0 true,.px (xI c)] ar (EB n L many bk z4 z5 z6)=Y ({`bv,d},EB a L many bk z4 z5 z6) :=
 nx (i:=0) (un:=true) (n:=n) b M (bR e M) M
def Pb(g:0<L.length/\L.length<=26/\Az L)(n b a:Int)(f:0<=a/\a<1000){x:Xx}(j:x (EB n L many bk z4 z5 z6)=Y ({`bv,a},EB b L many bk z4 z5 z6)):∃(d:Int)(t:Tx),t.length<=a.toNat/\Az t/\aF [.io 0 true,.px (xI (aa 1)),.px x] eJ (EB n L many bk z4 z5 z6)=Y ((.fr,.str t),EB d L many bk z4 z5 z6):=by
 obtain⟨d,t,e,p,o⟩:=Fm L a b g.1 `am f.1 f.2;exact⟨d,t,p,λc h=>g.2.2 c (o c h),cx (i:=0) (un:=true) (k:=1) (r:=[.px (xI (aa 1)),.px x]) (l:=[.str L,.int a]) (U1:=EB b L many bk z4 z5 z6) M (sG (t:=.str L) (bR (m:=.fr) M M) M (sG j M M)) M M M M e⟩
end
def yC(h:Az t):Az (cut t p q):=λc a=>h c (Bn t p q a)
def nR(h:Az s)(g:Az t):Az (s++t):=λc a=>(Zi.mp a).elim (h c) (g c)
def yw(t:Tx)(k:Nat):(cut t O (Y (k:Int))).length<=k:=by
 rw[nc];exact List.length_take_le _ _
def B0:∀k,k<8->0<=([2,1,3,2,4,0,1,8]:Vg).getD k 0/\([2,1,3,2,4,0,1,8]:Vg).getD k 0<=8:=by decide
def Bo:∀k,k<4->0<=([6,3,10,8]:Vg).getD k 0/\([6,3,10,8]:Vg).getD k 0<=10:=by decide
def jh{l:List Tx}{i:Nat}(h:i<l.length):l.getD i []∈l:=by
 rw[Zr,Zq h];exact Ys h
def xy{L:Tx}(Z:0<L.length/\L.length<=26/\Az L){many:Int}(X:∀t∈bk,t.length<=14/\Az t)(h8:bk.length<8)(n:Int)(z5 z6:Uw) :
  ∃(h:Int)(t:Tx)(E o:Uw),dv (EB n L many bk (Q0 (bk.length:Int)) z5 z6)=Y (.nx (EB h L many (bk++[t]) (Q0 (bk.length:Int)) E o))/\t.length<=14/\Az t:=by
 obtain⟨d,U,d0,d1,e⟩:=Pe (L:=L) (many:=many) (bk:=bk) (z4:=Q0 (bk.length:Int)) (z5:=z5) (z6:=z6) n 4 `ao (c:=Q3 4) M;have g:=Bo d.toNat `am;obtain⟨z,t,ht,C,JC⟩:=Pb Z n U _ ⟨g.1,by lia⟩ (jy (c:=bW (ab (Q3 6) (ab (Q3 3) (ab (Q3 10) (ab (Q3 8) ai))))) ([6,3,10,8]:Vg) M e d0 d1);have r:t.length<=14:=by lia
 have s1:=dX (j:=5) JC M (by show 5<7;decide);have fin:∀(h:Int)(t:Tx)(o:Uw),t.length<=14->Az t->∃(A:Int)(u:Tx)(E SE:Uw),sX (j4 3 [] aV {`bn,5}) (EB h L many bk (Q0 (bk.length:Int)) (Q2 t) o)=Y (.nx (EB A L many (bk++[u]) (Q0 (bk.length:Int)) E SE))/\u.length<=14/\Az u:=λh t o h1 h2=>by
  refine⟨h,t,Q2 t,o,?_,h1,h2⟩;rw[t5 (i:=3) (l:=bk.map T.str) (v:=.str t) M M (by rw[Zt];lia)];show Y (Out.nx [sp true h,Q2 L,Q0 many,oc (.lst (bk.map T.str++[.str t])),Q0 (bk.length:Int),Q2 t,o])=_;rw[show bk.map T.str++[.str t]=(bk++[t]).map T.str from by rw[Yu];rfl]
 by_cases hk:bk.length=0
 ·obtain⟨q,p,a,b,f1,f2⟩:=fin z t z6 r C;refine⟨q,p,a,b,(ah s1).trans ((ah ((pd (uR (m:=.fr) ?_)).trans M)).trans f1),f2⟩;refine e2v (x:=(.fr,.int (bk.length:Int))) (y:={`bv,0}) M M ?_;show Y (Md.fr,T.bl (decide ((0:Int)<(bk.length:Int))))=_;rw[ZM `am]
 ·obtain⟨J,q,a0,a1,e3⟩:=Pe (L:=L) (many:=many) (bk:=bk) (z4:=Q0 (bk.length:Int)) (z5:=Q2 t) (z6:=z6) z 4 `ao (c:=Q3 4) M;have tt:gg (e2 Nd (aa 4) (Q3 0)) (Mg (x2 oEq {`b3,.io 0 true,Q3 4} (xI (Q3 1)))) (EB z L many bk (Q0 (bk.length:Int)) (Q2 t) z6)=Y (J==1,EB q L many bk (Q0 (bk.length:Int)) (Q2 t) z6):=by
   refine(uu (m:=.fr) ?_).trans (qV e3 (bR (m:=.fr) M M));refine e2v (x:=(.fr,.int (bk.length:Int))) (y:={`bv,0}) M M ?_;show Y (Md.fr,T.bl (decide ((0:Int)<(bk.length:Int))))=_;rw[decide_eq_true `am]
  cases hd:(J==1) with
  |false =>
   rw[hd]at tt;obtain⟨s,p,a,b,f1,f2⟩:=fin q t z6 r C;exact⟨s,p,a,b,(ah s1).trans ((ah ((pd tt).trans M)).trans f1),f2⟩
  |true =>
   rw[hd]at tt;obtain⟨H,s,b0,b1,e4⟩:=Pe (L:=L) (many:=many) (bk:=bk) (z4:=Q0 (bk.length:Int)) (z5:=Q2 t) (z6:=z6) q (bk.length:Int) `am (c:=aa 4) M;have F:=dX (j:=6) (B4 (n:=3) bk M e4 M M b0 b1) M (by show 6<7;decide);have G:=X _ (jh (l:=bk) (i:=H.toNat) `am);generalize bk.getD H.toNat []=old at F G;obtain⟨D,w,_,_,e5⟩:=Pe (L:=L) (many:=many) (bk:=bk) (z4:=Q0 (bk.length:Int)) (z5:=Q2 t) (z6:=Q2 old) s ((old.length:Int)+1) `am (c:=e2 aW (eN bu {`bn,6}) (Q3 1)) M;have QU:(cut old (Y D) O).length<=old.length:=zf old (Y D) O;have Q:xI (aa 6) (EB s L many bk (Q0 (bk.length:Int)) (Q2 t) (Q2 old))=Y ((.fr,.str old),_):=bR (m:=.fr) M M;have P:xI (aa 5) (EB w L many bk (Q0 (bk.length:Int)) (Q2 t) (Q2 old))=Y ((.fr,.str t),_):=bR (m:=.fr) M M;have N:xI (Q3 14) (EB w L many bk (Q0 (bk.length:Int)) (Q2 t) (Q2 old))=Y ({`bv,14},_):=bR (m:=.fr) M M;have R:=dX (j:=5) (Df (jE (f:=aW) (Df (hi:=O) Q (mD e5) M) P (ki `am) M M M) (lo:=O) M (mD N)) M (by show 5<7;decide);obtain⟨S,p,a,b,f1,f2⟩:=fin w (cut (cut old (Y D) O++t) O (Y 14)) (Q2 old) (yw _ 14) (yC (nR (yC G.2) C));exact⟨S,p,a,b,(ah s1).trans ((ah ((vH tt).trans ((ah F).trans R))).trans f1),f2⟩
def Fo{b:List Tx}(h:∀t∈b,t.length<=14):(b.map List.length).sum<=14*b.length:=by
 induction b with
 |nil=>exact Zp _
 |cons a l d =>
  have:=d λt e=>h t (Zv _ e);have:=h a Zx;rw[Zc,X9,Zg];lia
def yu(n:Int)(a:List Tx):wC [.lst [.int n]] (.fr,.lst (a.map .str))=L:=by
 unfold wC;rw[Bool.or_eq_true];refine .inr ?_;show (a.map T.str).all zZ=L;rw[V2];exact Yr.mpr λ_ _=>rfl
def yR{m:Md}(l:List Tx)(h:0<l.length):aJ (m,.lst (l.map .str)) (n,.int (-1))=Y (.fr,.str (l.getD (l.length-1) [])):=by
 show ((Jx (l.map T.str).length (-1)).bind _)=_;have:Jx (l.map T.str).length (-1)=Y (l.length-1):=by
  unfold Jx;rw[Zt,Zl `ao,Zo `am];congr 1;lia
 rw[this,Zs,ZP,Zr,Zq (by omega)];rfl
theorem vt(w:Tx):∀k,(List.replicate k w).flatten.length=k*w.length
 |0=>by rw[Nat.zero_mul];rfl
 |k+1=>by rw[X5,ZI,Zw,vt w k,WE,WC]
def FC{L:Tx}(hL:0<L.length/\L.length<=26/\Az L)(n:Int):∃(E:Int)(bk:List Tx),dC [.lst [.int n],.str L]=Y ([.lst [.int E]],.lst (bk.map .str))/\bk.length<=8/\(bk.map List.length).sum<=120/\∀t∈bk,Az t:=by
 obtain⟨d,s,d0,d1,e⟩:=nx (i:=0) (un:=true) (m:=8) (n:=n) (x:=xI (Q3 8)) (U:=[sp true n,Q2 L,O,O,O,O,O]) `ao M (bR (m:=.fr) M M) M;have hf:=B0 d.toNat `am;have s1:=dX (j:=2) (jy (c:=(bW (ab (Q3 2) (ab (Q3 1) (ab (Q3 3) (ab (Q3 2) (ab (Q3 4) (ab (Q3 0) (ab (Q3 1) (ab (Q3 8) ai)))))))))) ([2,1,3,2,4,0,1,8]:Vg) M e d0 d1) M (by show 2<7;decide);generalize ([2,1,3,2,4,0,1,8]:Vg).getD d.toNat 0=many at hf s1;obtain⟨U',f1,q,bk,z4,z5,z6,rfl,_,hb,hlen⟩:=fI (tg:=aY 4) (body:=dv) (λ(k:Nat)=>T.int (k:Int)) (λr U=>∃(n:Int)(bk:List Tx)(z4 z5 z6:Uw),U=EB n L many bk z4 z5 z6/\r=List.range' bk.length r.length/\(∀t∈bk,t.length<=14/\Az t)/\bk.length+r.length=many.toNat) (by
  rintro k r _ ⟨n,bk,z4,z5,z6,rfl,hr,hb,hl⟩;rw[Zg]at hl;rw[Zg,Vt]at hr;obtain⟨rfl,H⟩:=List.cons.inj hr;obtain⟨E,t,Oo,NW,e,h1,h2⟩:=xy (many:=many) hL hb `am n z5 z6;refine⟨EB n L many bk (Q0 (bk.length:Int)) z5 z6,_,rfl,e,E,bk++[t],_,Oo,NW,rfl,by rw[Zw];exact H,λu G=>?_,by rw[Zw,LI];lia⟩;rcases Zi.mp G with h | h
  ·exact hb u h
  ·rw[Zk.mp h];exact⟨h1,h2⟩) (List.range many.toNat) (EB s L many [] O O O) ⟨s,[],O,O,O,rfl,by rw[ZC];exact List.range_eq_range',(λ_ h=>nomatch h),by rw[ZC];exact Xg _⟩
 have QS:bk.length=many.toNat:=hlen;have s3:gU (aY 4) (b6 (aa 2)) dv (EB s L many [] O O O)=Y (.nx (EB q L many bk z4 z5 z6)):=by
  refine(dY (m:=.fr) ?_ M).trans f1;rw[dF (m:=.fr) (j:=many) M `am,fS]
 have fin:∀{p:Int}{J9:List Tx}(b:Sx),b (EB q L many bk z4 z5 z6)=Y (.nx (EB p L many J9 z4 z5 z6))->Mo 2 7 [false] (ak (cp 2 (iZ (bW (ab (Q3 2) (ab (Q3 1) (ab (Q3 3) (ab (Q3 2) (ab (Q3 4) (ab (Q3 0) (ab (Q3 1) (ab (Q3 8) ai))))))))) {`b3,.io 0 true,Q3 8})) (ak (ip 3 (bW ai)) (ak (gU (aY 4) (b6 (aa 2)) dv) (ak b (fA 3))))) [.lst [.int n],.str L]=Y ([.lst [.int p]],.lst (J9.map .str)):=λb hb =>
  jL (v:=(.fr,.lst (_:Ut))) ⟨rfl,rfl⟩ ((ah s1).trans ((ah (U1:=EB s L many [] O O O) M).trans ((ah s3).trans ((ah hb).trans M)))) M (yu _ _) M
 have Rj:bk.length<=8/\(bk.map List.length).sum<=120/\∀t∈bk,Az t:=⟨by lia,by have:=Fo λt g=>(hb t g).1;lia,λt g=>(hb t g).2⟩
 obtain⟨d2,p,a0,a1,e3⟩:=Pe (L:=L) (many:=many) (bk:=bk) (z4:=z4) (z5:=z5) (z6:=z6) q 6 `ao (c:=Q3 6) M;by_cases hm:0<many/\many<3
 ·have tt:gg (fP oLt oLt (Q3 0) (aa 2) (Q3 3)) (Mg (x2 oEq {`b3,.io 0 true,Q3 6} (xI (Q3 1)))) (EB q L many bk z4 z5 z6)=Y (d2==1,EB p L many bk z4 z5 z6):=by
   refine(uu (m:=.fr) (qX (x:={`bv,0}) (y:={`bv,many}) (z:={`bv,3}) M M ?_ M ?_)).trans (qV e3 (bR (m:=.fr) M M))
   ·show Y (Md.fr,T.bl (decide ((0:Int)<many)))=_;rw[decide_eq_true hm.1]
   ·show Y (Md.fr,T.bl (decide (many<3)))=_;rw[decide_eq_true hm.2]
  cases hd:(d2==1) with
  |false =>
   rw[hd]at tt;exact⟨p,bk,fin _ ((pd tt).trans M),Rj⟩
  |true =>
   rw[hd]at tt;have C:0<bk.length:=by lia
   obtain⟨X,t,g,hz,e4⟩:=Pb (bk:=bk) (z4:=z4) (z5:=z5) (z6:=z6) (many:=many) hL p p 24 `ao (x:=xI (Q3 24)) (bR (m:=.fr) M M);obtain⟨o,D,b0,b1,e5⟩:=Pe (L:=L) (many:=many) (bk:=bk) (z4:=z4) (z5:=z5) (z6:=z6) X 2 `ao (c:=Q3 2) M;have i0:e2 aJ (aa 3) (Q3 0) (EB p L many bk z4 z5 z6)=Y (.fr,.str (bk.getD 0 [])):=e2v (x:=(.bo,.lst (bk.map .str))) (y:={`bv,((0:Nat):Int)}) M M (l6 T.str bk 0 [] C);have Z:e2 aJ (aa 3) (Q3 (-1)) (EB X L many bk z4 z5 z6)=Y (.fr,.str (bk.getD (bk.length-1) [])):=e2v (x:=(.bo,.lst (bk.map .str))) (y:={`bv,-1}) M M (yR bk C);have S:=hb _ (jh (l:=bk) C);have R:=hb _ (jh (l:=bk) (i:=bk.length-1) `am);generalize hA:bk.getD 0 []=A at i0 S;generalize bk.getD (bk.length-1) []=B at Z R;have Q:=jE (jE (bR i0 M) e4 (ki `am) M M M) (bR Z M) (ki (by rw[Zw];lia)) M M M;have xr:=jE (f:=aW) (bR (c:=Q3 1) (m:=.fr) M M) e5 (u:=.int (1+o)) M M M M;have N:(A++t++B).length<=52:=by rw[Zw,Zw];lia
   have QX:Az (A++t++B):=nR (nR S.2 hz) R.2;generalize A++t++B=w at Q N QX;have P:=jE Q xr (f:=vG) (m:=.fr) (u:=.str (List.replicate (1+o).toNat w).flatten) (by
    show (if w.length*(1+o).toNat<=16777216/\-4611686018427387904<=1+o/\1+o<4611686018427387904 then _ else _)=_;rw[Zo ⟨by
     have:w.length*(1+o).toNat<=52*2:=Nat.mul_le_mul N `am;lia,by lia,by lia⟩]) M M M
   have F:(List.replicate (1+o).toNat w).flatten.length<=104:=by
    rw[vt];have:(1+o).toNat*w.length<=2*52:=Nat.mul_le_mul `am N;omega
   have J:Az (List.replicate (1+o).toNat w).flatten:=λc hc=>by
    obtain⟨u,G,Jy⟩:=Uz.mp hc;rw[(List.mem_replicate.mp G).2]at Jy;exact QX c Jy
   generalize (List.replicate (1+o).toNat w).flatten=W at P F J;refine⟨D,bk.set 0 W,fin _ ((vH tt).trans ?_),?_⟩
   ·refine(congrArg (λz=>Option.bind z _) P).trans ?_;show fM 3 [] (Q3 0) (λ_=>Y (.fr,.str W)) (EB D L many bk z4 z5 z6)=_;show ((((Jx (bk.map T.str).length 0).map λj=>(T.lst ((bk.map T.str).set j (.str W)),())).map _):Option Out)=_;rw[Zt,show Jx bk.length 0=Y 0 from CK (i:=0) C];show Y (Out.nx [sp true D,Q2 L,Q0 many,oc (.lst ((bk.map T.str).set 0 (.str W))),z4,z5,z6])=_;rw[show (bk.map T.str).set 0 (.str W)=(bk.set 0 W).map T.str from by rw[VA]]
   ·have:bk.length=1\/bk.length=2:=by lia
    rcases this with h | h
    ·obtain⟨a,rfl⟩:=List.length_eq_one_iff.mp h;refine⟨by show 1<=8;decide,by show W.length+0<=120;lia,λt g=>?_⟩;rw[Zk.mp (show t∈[W] from g)];exact J
    ·match bk,h with
     |[a,b],_ =>
      have Uh:=hb b (by simp);refine⟨by show 2<=8;decide,by show W.length+(b.length+0)<=120;lia,λt g=>?_⟩;rcases Zj.mp (show t∈[W,b] from g) with rfl | g
      ·exact J
      ·rw[Zk.mp g];exact Uh.2
 ·have tt:gg (fP oLt oLt (Q3 0) (aa 2) (Q3 3)) (Mg (x2 oEq {`b3,.io 0 true,Q3 6} (xI (Q3 1)))) (EB q L many bk z4 z5 z6)=Y (false,EB q L many bk z4 z5 z6):=by
   refine uR (m:=.fr) ?_;by_cases h0:0<many
   ·refine qX (x:={`bv,0}) (y:={`bv,many}) (z:={`bv,3}) M M ?_ M ?_
    ·show Y (Md.fr,T.bl (decide ((0:Int)<many)))=_;rw[decide_eq_true h0]
    ·show Y (Md.fr,T.bl (decide (many<3)))=_;rw[ZM `am]
   ·refine C7 (x:={`bv,0}) (y:={`bv,many}) M M ?_;show Y (Md.fr,T.bl (decide ((0:Int)<many)))=_;rw[ZM h0]
  exact⟨q,bk,fin _ ((pd tt).trans M),Rj⟩
noncomputable abbrev s1(c:Nat):T:=.str [c]
abbrev EL(n:Int)(L:Tx)(w c:Uw):Env:=[sp true n,Q2 L,Q2 az,w,c]
def Bw(l:Tx):dJ (l.map s1)=L:=by
 induction l with
 |nil=>rfl
 |cons a l b=>exact b
def eq_int{m:Md}{i:Int}(k:Int)(h:a U=Y (m,.int i)):e2 oEq a (Q3 k) U=Y (.fr,.bl (i==k)):=e2v h M (iG M M (by simp only[eqT]))
def rY:az.Pairwise (· < ·):=by decide
def Hc(h:97<=c/\c<=122):c∈az:=by
 have:∀k,k<26->97+k∈az:=by decide
 have:=this (c-97) (by omega)
 rwa [show 97+(c-97)=c by omega]at this
def wY{L:Tx}(G:0<L.length/\L.length<=26/\Az L)(n:Int):∃(p:Int)(h:Tx),eV [.lst [.int n],.str L]=Y ([.lst [.int p]],.str h)/\0<h.length/\h.length<=26/\h.Pairwise (· < ·)/\Az h:=by
 obtain⟨d,o,d0,d1,e⟩:=nx (i:=0) (un:=true) (m:=8) (n:=n) (x:=xI (Q3 8)) (U:=EL n L O O) `ao M (bR (m:=.fr) M M) M;have J:=dX (j:=3) e M (by show 3<5;decide);have cond:∀(n k:Int)(c:Uw),e2 oEq (aa 3) (Q3 k) (EL n L (Q0 d) c)=Y (.fr,.bl (d==k)):=λn k c=>eq_int k (m:=.fr) M;have RC:∀(g:Tx),(az.filter λc=>g.any (· == c)).length<=26:=λg=>Xk _ _;have N:∀(n:Int)(c:Uw),∃(p:Int)(x:Nat),97<=x/\x<=122/\x2 aJ (xI (aa 2)) {`b3,.io 0 true,Q3 26} (EL n L (Q0 d) c)=Y ((.fr,s1 x),EL p L (Q0 d) c):=λn c=>by
  obtain⟨t,p,a0,a1,e⟩:=nx (i:=0) (un:=true) (m:=26) (n:=n) (x:=xI (Q3 26)) (U:=EL n L (Q0 d) c) `ao M (bR (m:=.fr) M M) M;have:=qq _ (getD_mem' (l:=az) (i:=t.toNat) (by show _<26;lia));exact⟨p,_,this.1,this.2,jE (bR (m:=.fr) M M) e (uO az t a0 a1) M M M⟩
 have fin:∀(p:Int)(g:Tx)(c:Uw)(m:Md),0<g.length->Az g->(∀z,aa 5 (z :: EL p L (Q0 d) c)=Y (m,.lst (g.map s1)))->∃h:Tx,fJ (eM iH (eC (.str [])) (ab (bD 1 (aY 0) (c8 (aa 2)) (Y (e2 kI (aa 0) (aa 5))) (aa 0)) ai)) (EL p L (Q0 d) c)=Y (.rt (.fr,.str h) (EL p L (Q0 d) c))/\0<h.length/\h.length<=26/\h.Pairwise (· < ·)/\Az h:=λp g c m Z hz hv=>by
  refine⟨az.filter λc=>g.any (· == c),d7 ?_,?_,RC g,rY.sublist VU,λc w=>qq c (Y4.mp w).1⟩
  ·have c1:=dR (k:=1) (tg:=aY 0) (it:=c8 (aa 2)) (c:=e2 kI (aa 0) (aa 5)) (elt:=aa 0) (m:=.fr) (U:=EL p L (Q0 d) c) s1 (λc=>g.any (· == c)) s1 az M M `ao λa ha=>⟨_,(.fr,.bl (g.any (· == a))),rfl,e2v (x:=(.fr,s1 a)) M (hv _) (by
     show (if (flat (s1 a)&&(g.map s1).all flat)=true then Y (Md.fr,T.bl ((g.map s1).any λy=>eqT y (s1 a))) else O)=_;rw[Zo (by rw[V2];exact ZU.mpr ⟨rfl,Yr.mpr λ_ _=>rfl⟩),List.any_map];congr 3;exact congrArg (λf=>g.any f) (funext λb=>Bt b a)),rfl,λ_=>rfl⟩
   have X:=lN (m:=.fr) (n:=.fr) (strs_map (λx=>[x]) (az.filter λc=>g.any (· == c))) (by rw[de];have:=RC g;lia);rw[de]at X;exact qb M (xv c1 M) X
  ·refine List.length_pos_of_mem (a:=g.getD 0 0) (Y4.mpr ⟨Hc (hz _ (getD_mem' Z)),Xm.mpr ⟨_,getD_mem' Z,beq_self_eq_true _⟩⟩)
 by_cases h0:d=0
 ·refine⟨o,az,jL (v:=(.fr,.str az)) (U:=EL o L (Q0 d) O) ⟨rfl,rfl⟩ ((ah (U1:=EL n L O O) M).trans ((ah J).trans (gp ((lu ((cond o 0 O).trans (by rw[h0];rfl))).trans M)))) M M M,by decide,by decide,rY,qq⟩
 ·have Q:=(k7 (a:=fA 2) (b:=di) ((cond o 0 O).trans (by rw[KS.mpr h0]))).trans (show di (EL o L (Q0 d) O)=_ from rfl);have P:ip 4 (eN jN {`bn,1}) (EL o L (Q0 d) O)=Y (.nx (EL o L (Q0 d) (oc (.lst (L.map s1))))):=by
   have:eN jN {`bn,1} (EL o L (Q0 d) O)=Y (.fr,.lst (L.map s1)):=k8 (xv (x:=(.fr,.str L)) (r:=ai) M M) (by
    show K9 .fr (L.map s1)=_;rw[k9 (by rw[Zt];lia),ite_self])
   show (eN jN {`bn,1} _).bind _=_;rw[this];rfl
  have F:∃(A:Int)(g:Tx),0<g.length/\g.length<=26/\Az g/\Jw (e2 oEq (aa 3) (Q3 1)) (qz 4 4 O (Y (x2 aW (xI (Q3 1)) {`b3,.io 0 true,eN bu {`bn,1}}))) di (EL o L (Q0 d) (oc (.lst (L.map s1))))=Y (.nx (EL A L (Q0 d) (oc (.lst (g.map s1))))):=by
   by_cases h1:d=1
   ·obtain⟨t,p,a0,a1,e⟩:=nx (i:=0) (un:=true) (m:=(L.length:Int)) (n:=o) (x:=xI (eN bu {`bn,1})) (U:=EL o L (Q0 d) (oc (.lst (L.map s1)))) (by omega) M (bR (m:=.fr) M M) M;have C:=mD (jE (f:=aW) (bR (c:=Q3 1) (m:=.fr) M M) e (u:=.int (1+t)) M M M M);refine⟨p,L.take (1+t).toNat,by rw[Kw];lia,by rw[Kw];omega,λc w=>G.2.2 c (YC w),(lu ((cond o 1 _).trans (by rw[h1];rfl))).trans ?_⟩;show ((eW (Y _) _).bind _)=_;rw[C,Zs];show (if dJ (L.map s1)=true/\(L.map s1).length<=16777216/\4<5 then Y (Out.nx (EL p L (Q0 d) (oc (.lst (cut (L.map s1) O (Y (1+t))))))) else O)=_;refine Eq.trans (Zo ⟨Bw L,by rw[Zt];lia,by decide⟩) ?_;rw[pS,show (1+t)=((1+t).toNat:Int) by lia,nc,Yl]
   ·exact⟨o,L,G.1,G.2.1,G.2.2,(k7 ((cond o 1 _).trans (by rw[KS.mpr h1]))).trans M⟩
  obtain⟨A,g,p1,p2,R,F⟩:=F;have E:∃(q:Int)(s:Tx),0<s.length/\Az s/\Jw (e2 oLt (aa 3) (Q3 4)) (oU 4 (x2 aJ (xI (aa 2)) {`b3,.io 0 true,Q3 26})) di (EL A L (Q0 d) (oc (.lst (g.map s1))))=Y (.nx (EL q L (Q0 d) (oc (.lst (s.map s1))))):=by
   have c4:e2 oLt (aa 3) (Q3 4) (EL A L (Q0 d) (oc (.lst (g.map s1))))=Y (.fr,.bl (decide (d<4))):=e2v (x:={`bv,d}) (y:={`bv,4}) M M M;by_cases D:d<4
   ·obtain⟨q,x,H,C,e⟩:=N A (oc (.lst (g.map s1)));refine⟨q,g++[x],by rw[Zw];lia,nR R λc w=>by rw[Zk.mp w];exact⟨H,C⟩,(lu (c4.trans (by rw[decide_eq_true D]))).trans ((CV M e M M (by rw[Zt];lia)).trans ?_)⟩;rw[Yu];rfl
   ·exact⟨A,g,p1,R,(k7 (c4.trans (by rw[ZM D]))).trans M⟩
  obtain⟨q,s,p4,p5,E⟩:=E;by_cases D:d=4
  ·obtain⟨S,x,H,C,e⟩:=N q (pc (.lst (s.map s1)));obtain⟨h,f1,f2⟩:=fin S [x] (oc (.lst [s1 x])) .bo Nat.one_pos (λc w=>by rw[Zk.mp w];exact⟨H,C⟩) λz=>rfl;refine⟨S,h,jL (v:=(.fr,.str h)) ⟨rfl,rfl⟩ ((ah (U1:=EL n L O O) M).trans ((ah J).trans ((ah Q).trans ((ah P).trans ((ah F).trans ((ah E).trans ((ah (U1:=EL q L (Q0 d) (pc (.lst (s.map s1)))) M).trans ((ah ((lu ((cond q 4 _).trans (by rw[D];rfl))).trans ?_)).trans f1)))))))) M M M,f2⟩;unfold yt;rw[e];rfl
  ·obtain⟨h,f1,f2⟩:=fin q s (pc (.lst (s.map s1))) .pu p4 p5 λz=>by
    show Y (up .pu (.lst (s.map s1)))=_;rfl
   exact⟨q,h,jL (v:=(.fr,.str h)) ⟨rfl,rfl⟩ ((ah (U1:=EL n L O O) M).trans ((ah J).trans ((ah Q).trans ((ah P).trans ((ah F).trans ((ah E).trans ((ah (U1:=EL q L (Q0 d) (pc (.lst (s.map s1)))) M).trans ((ah ((k7 ((cond q 4 _).trans (by rw[KS.mpr D]))).trans M)).trans f1)))))))) M M M,f2⟩
def mul_r{i j:Int}(h:-18446744073709551616<j/\j<18446744073709551616):fC (m,.int i) (n,.int j)=Y {`bv,i*j}:=Zo (.inr h)
def se(d:Vg)(N8:d.length<=63)(k:Nat)(R:k<1000):∃n,cB [.scr d,.int k]=Y (.fr,.lst [.int n]):=by
 have s1:aI 2 (e2 aW (e2 fC (aa 1) (Q3 7919)) (Q3 104729)) [pc (.scr d),Q0 k,O,O,O,O,O]=Y (.nx [pc (.scr d),Q0 k,Q0 ((k:Int)*7919+104729),O,O,O,O]) :=
  aH (m:=.fr) (e2v (e2v (x:={`bv,k}) (y:={`bv,7919}) M M (jO `am)) (y:={`bv,104729}) M M) `ao (by show 2<7;decide)
 have p:∃c,Jw (e2 Nd (eN bu {`bn,0}) (Q3 0)) (aI 2 (e2 aW (e2 aJ (aa 0) (e2 oMod (aa 1) (eN bu {`bn,0}))) (e2 fC (e2 jH (aa 1) (eN bu {`bn,0})) (Q3 48271)))) di [pc (.scr d),Q0 k,Q0 ((k:Int)*7919+104729),O,O,O,O]=Y (.nx [pc (.scr d),Q0 k,Q0 c,O,O,O,O]):=by
  have A:e2 Nd (eN bu {`bn,0}) (Q3 0) [pc (.scr d),Q0 k,Q0 ((k:Int)*7919+104729),O,O,O,O]=Y (.fr,.bl (decide ((0:Int)<(d.length:Int)))):=e2v (x:=(.fr,.int (d.length:Int))) (y:={`bv,0}) M M M;by_cases h:0<d.length
  ·have G:=XJ (k:Int) (b:=(d.length:Int)) `am;have F:=Xl (k:Int) (b:=(d.length:Int)) `am;exact⟨_,(lu (A.trans (by rw[decide_eq_true `am]))).trans (aH (m:=.fr) (e2v (e2v (x:=(.fr,.scr d)) M (e2v (x:={`bv,k}) (y:=(.fr,.int (d.length:Int))) M M (fF `am)) (BS d _ G F)) (e2v (e2v (x:={`bv,k}) (y:=(.fr,.int (d.length:Int))) M M (kL `am)) (y:={`bv,48271}) M (mul_r `ao)) M) `ao (by show 2<7;decide))⟩
  ·exact⟨_,(k7 (A.trans (by rw[ZM `am]))).trans M⟩
 obtain⟨c,p⟩:=p;have s:e2 oEq (e2 oMod (aa 2) (Q3 2)) (Q3 0) [pc (.scr d),Q0 k,Q0 c,O,O,O,O]=Y (.fr,.bl (c%2==0)):=eq_int 0 (m:=.fr) (e2v (x:={`bv,c}) (y:={`bv,2}) M M (fF `ao));cases hb:(c%2==0) with
 |true =>
  rw[hb]at s;refine⟨c/2,iD M ((ah s1).trans ((ah p).trans (gp ((lu s).trans (d7 ?_)))))⟩;unfold bW;rw[xv (r:=ai) (e2v (x:={`bv,c}) (y:={`bv,2}) M M (kL `ao)) M];rfl
 |false =>
  rw[hb]at s;have t:=aH (U:=[pc (.scr d),Q0 k,Q0 c,O,O,O,O]) (i:=3) (m:=.fr) (e2v (e2v (f:=aW) (z:={`bv,c/2+40503*(k:Int)}) (e2v (x:={`bv,c}) (y:={`bv,2}) (a:=aa 2) (b:=Q3 2) M M (kL `ao)) (e2v (x:={`bv,40503}) (y:={`bv,k}) (a:=Q3 40503) (b:=aa 1) M M (jO `ao)) M) (y:={`bv,2147483629}) (b:=Q3 2147483629) M (fF `ao)) `ao (by show 3<7;decide);have u:=XJ (c/2+40503*(k:Int)) (b:=2147483629) `ao;have H:=Xl (c/2+40503*(k:Int)) (b:=2147483629) `ao;generalize (c/2+40503*(k:Int))%2147483629=left at t u H;obtain⟨Z,f1,l,n,o,g,rfl,_⟩:=fI (tg:=aY 5) (body:=fz) (λ(j:Nat)=>T.int (j:Int)) (λr U=>∃(l n:Int)(o g:Uw),U=[pc (.scr d),Q0 k,Q0 c,Q0 l,Q0 n,o,g]/\0<=l/\l<2147483647/\∀j∈r,j<24) (by
   rintro j r _ ⟨l,n,o,g,rfl,X,S,q⟩;have J5:=q j Zx;have D:aI 3 (e2 oMod (e2 aW (e2 aW (e2 fC (aa 3) (Q3 69621)) (e2 fC (Q3 7) (aa 5))) (Q3 1)) (Q3 2147483647)) [pc (.scr d),Q0 k,Q0 c,Q0 l,Q0 n,Q0 (j:Int),g]=Y (.nx [pc (.scr d),Q0 k,Q0 c,Q0 ((l*69621+7*(j:Int)+1)%2147483647),Q0 n,Q0 (j:Int),g]) :=
    aH (m:=.fr) (e2v (e2v (e2v (e2v (x:={`bv,l}) (y:={`bv,69621}) M M (jO `am)) (e2v (x:={`bv,7}) (y:=(.fr,.int (j:Int))) M M (jO `ao)) M) (y:={`bv,1}) M M) (y:={`bv,2147483647}) M (fF `ao)) `ao (by show 3<7;decide)
   have w:=XJ (l*69621+7*(j:Int)+1) (b:=2147483647) `ao;have v:=Xl (l*69621+7*(j:Int)+1) (b:=2147483647) `ao;generalize (l*69621+7*(j:Int)+1)%2147483647=e at D w v;have C:aI 6 (e2 oMod (e2 fC (aa 3) (aa 3)) (Q3 2147483629)) [pc (.scr d),Q0 k,Q0 c,Q0 e,Q0 n,Q0 (j:Int),g]=Y (.nx [pc (.scr d),Q0 k,Q0 c,Q0 e,Q0 n,Q0 (j:Int),Q0 (e*e%2147483629)]) :=
    aH (m:=.fr) (e2v (e2v (x:={`bv,e}) (y:={`bv,e}) M M (jO `am)) (y:={`bv,2147483629}) M (fF `ao)) `ao (by show 6<7;decide)
   have N:=XJ (e*e) (b:=2147483629) `ao;have J:=Xl (e*e) (b:=2147483629) `ao;generalize e*e%2147483629=mo at C N J;have Q:aI 4 (e2 aW (e2 fC (aa 4) (Q3 999983)) (e2 oMod (e2 fC (aa 6) (e2 aW (e2 oMod (aa 6) (Q3 65521)) (Q3 3))) (Q3 999983))) [pc (.scr d),Q0 k,Q0 c,Q0 e,Q0 n,Q0 (j:Int),Q0 mo]=Y (.nx [pc (.scr d),Q0 k,Q0 c,Q0 e,Q0 (n*999983+mo*(mo%65521+3)%999983),Q0 (j:Int),Q0 mo]) :=
    aH (m:=.fr) (e2v (e2v (x:={`bv,n}) (y:={`bv,999983}) M M (mul_r `ao)) (e2v (e2v (x:={`bv,mo}) M (e2v (e2v (x:={`bv,mo}) (y:={`bv,65521}) M M (fF `ao)) (y:={`bv,3}) M M) (jO `am)) (y:={`bv,999983}) M (fF `ao)) M) `ao (by show 4<7;decide)
   exact⟨_,_,rfl,(ah D).trans ((ah C).trans Q),e,_,_,_,rfl,w,v,λi P=>q i (Zv _ P)⟩) (List.range 24) [pc (.scr d),Q0 k,Q0 c,Q0 left,Q0 0,O,O] ⟨left,0,O,O,rfl,u,by lia,λj q=>YV.mp q⟩
  have E:gU (aY 5) (b6 (Q3 24)) fz [pc (.scr d),Q0 k,Q0 c,Q0 left,Q0 0,O,O]=Y (.nx [pc (.scr d),Q0 k,Q0 c,Q0 l,Q0 n,o,g]):=by
   refine(dY (m:=.fr) ?_ M).trans f1;rw[dF (m:=.fr) (j:=24) M `ao,fS];rfl
  refine⟨n,iD M ((ah s1).trans ((ah p).trans ((ah ((k7 s).trans M)).trans ((ah t).trans ((ah (U1:=[pc (.scr d),Q0 k,Q0 c,Q0 left,Q0 0,O,O]) M).trans ((ah E).trans (d7 ?_)))))))⟩;rfl
end T39
end
section
namespace T39
open VS AU
def mR{c:Ex}{n:Nat}{m:Md}(e:c U=Y (m,.bl L))(d:a U=Y (.nx b)):dE c a (n+1) U=dE c a n b:=by
 show (c U).bind _=_;rw[e];show (if L=L then (a U).bind _ else Y (.nx U))=_;rw[Zo M,d];rfl
def gh{m:Md}(b:c U=Y (m,.bl B)):dE c a (n+1) U=Y (.nx U):=by
 show (c U).bind _=_;rw[b];rfl
def i9{mv:List Bool}{as:IZ}{xs:Uv}{S:St}{v:T}{b:Bool}{r:List (Uw)}(h:as (oc (Io S b) :: r)=Y xs)(i:argsOk mv xs=L)(j:cq (trees xs)=L)(f:g (KQ S) (trees xs)=Y (KQ a,v))(e:Ir v=L) :
  b9 0 [] 0 mv g as (oc (Io S b) :: r)=Y ((.fr,v),oc (Io a b) :: r):=by
 show ((Y ([]:List Ky)).bind λd=>(as (oc (Io S b) :: r)).bind λxs=>(pm (vW 0 mv g xs) d (Io S b)).map λz=>(z.2,(oc (Io S b) :: r).set 0 (oc z.1)))=_;rw[Zs,h,Zs];show ((if 1=0+1/\hZ (KQ S)=L/\argsOk mv xs=L/\cq (trees xs)=L then (g (KQ S) (trees xs)).bind λz=>if hZ z.1=L/\Ir z.2=L then Y (T.obj 1 ((0,.bl b) :: z.1),(Md.fr,z.2)) else O else O).map _)=_;rw[Zo ⟨rfl,mI S,i,j⟩,f,Zs,Zo ⟨mI a,e⟩];rfl
def FT{e:Ex}{S:St}{b:Bool}{r:List (Uw)}{v:Nat}(h:e (oc (Io S b) :: r)=Y (.fr,.int (v:Int)))(f:S.lg.length<16777216):sX (lT 0 [.fld 1] aV (ab e ai)) (oc (Io S b) :: r)=Y (.nx (oc (Io ⟨S.lg++[v],S.lk,S.wy⟩ b) :: r)):=by
 show (((Y [Ky.fld 1]).bind λd=>(ab e ai (oc (Io S b) :: r)).bind λa=>(pm (λx=>aV x a) d (Io S b)).map _).map _)=_;rw[Zs,xv (r:=ai) h M,Zs];show (((aV (.lst (S.lg.map λ(n:Nat)=>T.int (n:Int))) [(.fr,.int (v:Int))]).map _).map _ |>.map _)=_;rw[fQ (by rw[Zt];exact f),show (S.lg.map λ(n:Nat)=>T.int (n:Int))++[.int (v:Int)]=(S.lg++[v]).map λ(n:Nat)=>T.int (n:Int) from by rw[Yu];rfl];rfl
def FD{e:Ex}{S:St}{b:Bool}{r:List (Uw)}{v:Option Nat}(h:e (oc (Io S b) :: r)=Y (.fr,IW v))(f:S.lk.length<16777216):sX (lT 0 [.fld 2] aV (ab e ai)) (oc (Io S b) :: r)=Y (.nx (oc (Io ⟨S.lg,S.lk++[v],S.wy⟩ b) :: r)):=by
 show (((Y [Ky.fld 2]).bind λd=>(ab e ai (oc (Io S b) :: r)).bind λa=>(pm (λx=>aV x a) d (Io S b)).map _).map _)=_;rw[Zs,xv (r:=ai) h M,Zs];show (((aV (.lst (S.lk.map IW)) [(.fr,IW v)]).map _).map _ |>.map _)=_;rw[fQ (by rw[Zt];exact f),show (S.lk.map IW)++[IW v]=(S.lk++[v]).map IW from by rw[Yu];rfl];rfl
def FH(o:Option Nat):up .pu (IW o)=(.fr,IW o):=by
 unfold up;rw[lQ];rfl
def Aa(S:St)(l:Nat)(o:Option Nat)(w:List (Nat×Nat))(f:S.lg.length<16777216)(d:S.lk.length<16777216)(a:S.wy.length<16777216):aL (KQ S) [.int (l:Int),IW o,ID w]=Y (KQ ⟨S.lg++[l],S.lk++[o],S.wy++[w]⟩,.int (S.lg.length:Int)):=by
 have j:=FT (S:=S) (b:=L) (r:=[Q0 (l:Int),pc (IW o),oc (ID w)]) (e:=aa 1) (v:=l) M f;have i:=FD (S:=⟨S.lg++[l],S.lk,S.wy⟩) (b:=L) (r:=[Q0 (l:Int),pc (IW o),oc (ID w)]) (e:=aa 2) (v:=o) (congrArg Y (FH o)) d;have h:oz 0 [.fld 3] 3 [oc (Io ⟨S.lg++[l],S.lk++[o],S.wy⟩ L),Q0 (l:Int),pc (IW o),oc (ID w)]=Y (.nx [oc (Io ⟨S.lg++[l],S.lk++[o],S.wy++[w]⟩ L),Q0 (l:Int),pc (IW o),O]):=by
  show ((aV (.lst (S.wy.map ID)) [(.fr,ID w)]).map _ |>.map _)=_;rw[fQ (by rw[Zt];exact a),show (S.wy.map ID)++[ID w]=(S.wy++[w]).map ID from by rw[Yu];rfl];rfl
 have g:=d7 (e:=e2 rO (eN bu (ab (bF 1 (aa 0)) ai)) (Q3 1)) (U:=[oc (Io ⟨S.lg++[l],S.lk++[o],S.wy++[w]⟩ L),Q0 (l:Int),pc (IW o),O]) (t:=.int (S.lg.length:Int)) (e2v (E4 (m:=.bo) M) M (by
  show Y (Md.fr,T.int ((((S.lg++[l]).length:Nat):Int)-1))=_;rw[Zw,LI,show (((S.lg.length+1:Nat)):Int)-1=(S.lg.length:Int) by omega]))
 unfold aL Lv;rw[Zo ⟨rfl,rfl⟩];have body:=(ah (b:=ak (sX (lT 0 [.fld 2] aV {`bn,2})) (ak (oz 0 [.fld 3] 3) (fJ (e2 rO (eN bu (ab (bF 1 (aa 0)) ai)) (Q3 1))))) j).trans ((ah i).trans ((ah h).trans g));exact congrArg (λz:Option Out=>z.bind _) body
def Er(C:97<=c/\c<=122):∀(k:Nat)(S b:St)(o:Option Nat),WF S->v<S.lg.length->(∀n,o=Y n->n<S.lg.length)->NX c a v k S o=Y b->WF b/\b.lg=S.lg/\∃d,∀N,k<N->∀z:Uw,
  dE (oy (gP (aa 1)) (e2 oEq (e2 xQ (e2 aJ (bF 3 (aa 0)) (aa 1)) (aa 2)) (aa 3))) bK N [oc (Io S L),pc (IW o),Q2 ([c]),Q0 (a:Int),z,Q0 (v:Int)] =
   Y (.nx [oc (Io b L),pc (IW d),Q2 ([c]),Q0 (a:Int),z,Q0 (v:Int)]):=by
 intro k
 induction k with
 |zero =>
  intro S b o W f j e;cases o with
  |none =>
   cases (show Y S=Y b from e);refine⟨W,rfl,O,λN hN z=>?_⟩;obtain⟨N,rfl⟩:∃M,N=M+1:=⟨N-1,by omega⟩
   exact gh (m:=.fr) rfl
  |some n=>cases e
 |succ k w =>
  intro S b o W f j e;cases o with
  |none =>
   cases (show Y S=Y b from e);refine⟨W,rfl,O,λN hN z=>?_⟩;obtain⟨N,rfl⟩:∃M,N=M+1:=⟨N-1,by omega⟩
   exact gh (m:=.fr) rfl
  |some n =>
   have l:=j n rfl;have p:n<S.wy.length:=by rw[W.wy];exact l
   have cond:∀z:Uw,oy (gP (aa 1)) (e2 oEq (e2 xQ (e2 aJ (bF 3 (aa 0)) (aa 1)) (aa 2)) (aa 3)) [oc (Io S L),Q0 (n:Int),Q2 ([c]),Q0 (a:Int),z,Q0 (v:Int)]=Y (.fr,.bl (decide (gW `bi c=Y a))):=λz=>by
    refine AM (m:=.fr) (x:=L) rfl (λ_=>?_) (λh=>by cases h);refine e2v (Gz (m:=.bo) (nN (m:=.bo) (n:=.fr) rfl rfl p) (n:=.fr) rfl) (y:=(.fr,.int (a:Int))) rfl ?_;cases hg:gW `bi c with
    |none=>rw[ZM (by simp)];exact iG rfl rfl rfl
    |some q =>
     refine(iG rfl rfl (show eqT (.int (q:Int)) (.int (a:Int))=decide (Y q=Y a) from ?_));simp only[eqT];by_cases h:q=a
     ·subst h;simp
     ·have E:¬(q:Int)=(a:Int):=by omega
      have D:¬Y q=Y a:=λz=>h (Zh z);rw[ZM D];exact KS.mpr E
   unfold NX at e;split at e
   ·rename_i g;have F:=W.way (n:=n) (c:=c) (v:=v) f C;obtain⟨u,s,d,r⟩:=w _ b (S.lk.getD n O) F f (λm A=>W.up n m A) e;refine⟨u,s,d,λN hN z=>?_⟩;obtain⟨N,rfl⟩:∃M,N=M+1:=⟨N-1,by omega⟩
    refine(mR (m:=.fr) ((cond z).trans (by rw[decide_eq_true g])) ?_).trans (r N (by omega) z);unfold bK;refine(ah (Ai (S:=S) (i:=n) (n:=.fr) (m:=.fr) (k:=.fr) (c:=c) (v:=v) p rfl rfl rfl (W.small n))).trans ?_;have G:n<S.lk.length:=by rw[W.lk];exact l
    exact aH (m:=.fr) (t:=IW (S.lk.getD n O)) (vp (S:=⟨S.lg,S.lk,S.wy.set n (pW `bi c v)⟩) (m:=.bo) (n:=.fr) rfl rfl G) `ao (by decide:1<6)
   ·rename_i g;cases e;refine⟨W,rfl,Y n,λN hN z=>?_⟩;obtain⟨N,rfl⟩:∃M,N=M+1:=⟨N-1,by omega⟩
    exact gh (m:=.fr) ((cond z).trans (by rw[ZM g]))
end T39
end
section
namespace T39
open VS
noncomputable def Pt(a:List Tx)(w:Tx):Prop:=w=[]\/∃t∈a,w <:+: t
noncomputable def bf(P:Tx->Bool)(a:Tx):Nat->List Tx->Option Tx
 |0,_=>O
 |_+1,[]=>O
 |n+1,w :: q=>match a.find? λc=>!P (w++[c]) with
  |some c=>Y (w++[c])
  |none=>bf P a n (q++a.map λc=>w++[c])
noncomputable def ext(a:Tx)(l:List Tx):List Tx:=l.flatMap λw=>a.map λc=>w++[c]
def ext_mem:x∈ext b l ↔ ∃w∈l,∃c∈b,x=w++[c]:=by
 unfold ext;rw[Uy];constructor
 ·rintro⟨w,hw,h⟩;obtain⟨c,a,rfl⟩:=JD.mp h;exact⟨w,hw,c,a,rfl⟩
 ·rintro⟨w,hw,c,a,rfl⟩;exact⟨w,hw,JD.mpr ⟨c,a,rfl⟩⟩
theorem lH{f:Tx}(g:f.Nodup):∀{l:List Tx},l.Nodup->(ext f l).Nodup
 |[],_=>Yt
 |w :: l,h=>by
  have i:=ZY.mp h;show ((f.map λc=>w++[c])++ext f l).Nodup;refine ZG.mpr ⟨List.Pairwise.map (λc=>w++[c]) (λa b n e=>n (by simpa using e)) g,lH g i.2,λa m b hb e=>?_⟩;subst e;obtain⟨c,_,rfl⟩:=JD.mp m;obtain⟨v,j,d,_,e⟩:=ext_mem.mp hb;have:=(List.append_inj' e M).1;exact i.1 (this ▸ j)
theorem qg(a:Tx):∀l:List Tx,(ext a l).length=a.length*l.length
 |[]=>rfl
 |w :: l=>by
  show ((a.map λc=>w++[c])++ext a l).length=_;rw[Zw,Zt,qg a l,Zg,Nat.mul_succ,WC]
def Ei{a:Tx}(j:0<a.length)(i:a.Nodup)(L:List Tx)(p:∀w,P w=true->w∈L):∀(n:Nat)(l q:List Tx),l++q=[] :: ext a l->(l++q).Nodup->(∀w∈l++q,P w=true)->bf P a n q=O->l.length+n<=L.length:=by
 intro n
 induction n with
 |zero =>
  intro l q e nd b _;have:=AU.sub_len _ L nd λx f=>p x (b x f);rw[Zw]at this;lia
 |succ n d =>
  intro l q e nd b h;cases q with
  |nil =>
   have:=congrArg List.length e;rw[ZE,Zg,qg]at this;have:1*l.length<=a.length*l.length:=Ve _ j;lia
  |cons w q =>
   unfold bf at h;split at h
   ·cases h
   ·rename_i m;have e2:(l++[w])++(q++a.map λc=>w++[c])=[] :: ext a (l++[w]):=by
     unfold ext;rw[VW,← YB];show _=([] :: ext a l)++_;rw[← e];simp
    have r:∀v∈(l++[w])++(q++a.map λc=>w++[c]),P v=true:=λv g=>by
     have:v∈(l++w :: q)++a.map λc=>w++[c]:=by simpa using g
     rcases Zi.mp this with z | z
     ·exact b v z
     ·obtain⟨c,o,rfl⟩:=JD.mp z;have:=Wu.mp m c o;simpa using this
    have s:(l++[w]).Nodup:=nd.sublist (by
     rw[show l++w :: q=(l++[w])++q from by simp];exact Wz _ _)
    have:=d (l++[w]) _ e2 (by
     rw[e2];refine ZY.mpr ⟨λz=>?_,lH i s⟩;obtain⟨v,_,c,_,e⟩:=ext_mem.mp z;have:=congrArg List.length e;simp at this) r h
    rw[Zw,LI]at this;lia
def C1{P:Tx->Bool}{a:Tx}(d:0<a.length)(b:a.Nodup)(L:List Tx)(e:∀w,P w=true->w∈L)(f:P []=true):∃x,bf P a (L.length+1) [[]]=Y x:=by
 cases h:bf P a (L.length+1) [[]] with
 |some x=>exact⟨x,rfl⟩
 |none =>
  have:=Ei d b L e (L.length+1) [] [[]] M (ZY.mpr ⟨(λz=>nomatch z),Yt⟩) (λw hw=>by rw[Zk.mp hw];exact f) h;simp at this;lia
def Gh:∀(n:Nat)(q:List Tx),(∀w∈q,P w=L)->bf P b n q=Y x->P x=B/\∃w c,P w=L/\c∈b/\x=w++[c]:=by
 intro n
 induction n with
 |zero=>intro q _ h;cases h
 |succ n e =>
  intro q d h;cases q with
  |nil=>cases h
  |cons w q =>
   unfold bf at h;split at h
   ·rename_i c a;cases h;have i:=List.find?_some a;exact⟨by simpa using i,w,c,d w Zx,List.mem_of_find?_eq_some a,rfl⟩
   ·rename_i g;refine e _ (λv f=>?_) h;rcases Zi.mp f with z | z
    ·exact d v (Zv _ z)
    ·obtain⟨c,a,rfl⟩:=JD.mp z;have:=Wu.mp g c a;simpa using this
def yb{m:Md}(e:c U=Y (m,.bl L))(d:a U=Y (.rt v b)):dE c a (n+1) U=Y (.rt v b):=by
 unfold dE;rw[e];show (a U).bind _=_;rw[d];rfl
end T39
end
section
namespace T39
open VS AU
def FU(y:97<=c/\c<=122):∀(k:Nat)(S a:St)(o b:Option Nat),WF S->v<S.lg.length->(∀n,o=Y n->n<S.lg.length)->up1 c v k S o=Y (a,b)->WF a/\a.lg=S.lg/\(∀n,b=Y n->n<S.lg.length)/\∀N,k<N->∀z:Uw,
  dE (oy (gP (aa 4)) (e2 cR (aa 2) (e2 aJ (bF 3 (aa 0)) (aa 4)))) bI N [oc (Io S L),z,Q2 ([c]),Q0 (v:Int),pc (IW o)] =
   Y (.nx [oc (Io a L),z,Q2 ([c]),Q0 (v:Int),pc (IW b)]):=by
 intro k
 induction k with
 |zero =>
  intro S a o b W d g e;cases o with
  |none =>
   cases (show Y (S,O)=Y (a,b) from e);refine⟨W,rfl,(λn h=>nomatch h),λN hN z=>?_⟩;obtain⟨N,rfl⟩:∃M,N=M+1:=⟨N-1,by omega⟩
   exact gh (m:=.fr) rfl
  |some n=>cases e
 |succ k u =>
  intro S a o b W d g e;cases o with
  |none =>
   cases (show Y (S,O)=Y (a,b) from e);refine⟨W,rfl,(λn h=>nomatch h),λN hN z=>?_⟩;obtain⟨N,rfl⟩:∃M,N=M+1:=⟨N-1,by omega⟩
   exact gh (m:=.fr) rfl
  |some n =>
   have j:=g n rfl;have l:n<S.wy.length:=by rw[W.wy];exact j
   have cond:∀z:Uw,oy (gP (aa 4)) (e2 cR (aa 2) (e2 aJ (bF 3 (aa 0)) (aa 4))) [oc (Io S L),z,Q2 ([c]),Q0 (v:Int),Q0 (n:Int)]=Y (.fr,.bl (!(gW `bi c).isSome)):=λz =>
    AM (m:=.fr) (x:=L) rfl (λ_=>Dv (m:=.bo) (n:=.fr) (nN (m:=.bo) (n:=.fr) rfl rfl l) rfl) (λh=>by cases h)
   unfold up1 at e;split at e
   ·rename_i f;cases e;refine⟨W,rfl,g,λN hN z=>?_⟩;obtain⟨N,rfl⟩:∃M,N=M+1:=⟨N-1,by omega⟩
    exact gh (m:=.fr) ((cond z).trans (by rw[f];rfl))
   ·rename_i f;have A:=W.way (n:=n) (c:=c) (v:=v) d y;obtain⟨s,r,p,q⟩:=u _ a (S.lk.getD n O) b A d (λm w=>W.up n m w) e;refine⟨s,r,p,λN hN z=>?_⟩;obtain⟨N,rfl⟩:∃M,N=M+1:=⟨N-1,by omega⟩
    have D:(gW `bi c).isSome=B:=by simpa using f
    refine(mR (m:=.fr) ((cond z).trans (by rw[D];rfl)) ?_).trans (q N (by omega) z);unfold bI;refine(ah (Ai (S:=S) (i:=n) (n:=.fr) (m:=.fr) (k:=.fr) (c:=c) (v:=v) l rfl rfl rfl (W.small n))).trans ?_;have C:n<S.lk.length:=by rw[W.lk];exact j
    exact aH (m:=.fr) (t:=IW (S.lk.getD n O)) (vp (S:=⟨S.lg,S.lk,S.wy.set n (pW `bi c v)⟩) (m:=.bo) (n:=.fr) rfl rfl C) `ao (by decide:4<5)
def EC(a b:Nat):oEq (m,.int (a:Int)) (n,.int (b:Int))=Y (.fr,.bl (decide (a=b))):=iG M M (by
 simp only[eqT];by_cases h:a=b
 ·subst h;simp
 ·rw[ZM h];exact KS.mpr (by omega))
def Aj{S:St}{n r:Nat}(W:WF S)(G:Sm S)(q:n<S.lg.length)(H:97<=c/\c<=122)(e:NC S n c=Y (a,r)):WF a/\r<a.lg.length/\S.lg.length<=a.lg.length/\a.lg.length<=S.lg.length+1/\av (KQ S) [.int (n:Int),.str [c]]=Y (KQ a,.int (r:Int)):=by
 unfold NC at e;obtain⟨old,j,e⟩:=Zz.mp e;have hold:=W.on n c old j;have R:n<S.wy.length:=by rw[W.wy];exact q
 have how:old<S.wy.length:=by rw[W.wy];exact hold
 have Ip:old<S.lk.length:=by rw[W.lk];exact hold
 have OL:S.lg.length<=100001:=G;unfold av Lv;rw[Zo ⟨rfl,rfl⟩];have s1:=aH (i:=3) (m:=.fr) (e:=e2 Kd (e2 aJ (bF 3 (aa 0)) (aa 1)) (aa 2)) (U:=[oc (Io S L),Q0 (n:Int),Q2 ([c]),O,O,O]) (wu (m:=.bo) (n:=.fr) (nN (m:=.bo) (n:=.fr) M M R) M j) `ao (by decide:3<6);have h:=aH (i:=4) (m:=.fr) (e:=e2 aW (e2 aJ (bF 1 (aa 0)) (aa 1)) (Q3 1)) (U:=[oc (Io S L),Q0 (n:Int),Q2 ([c]),Q0 (old:Int),O,O]) (t:=.int ((S.lg.getD n 0+1:Nat):Int)) (e2v (sA (m:=.bo) (n:=.fr) M M q) M M) `ao (by decide:4<6);have cd:e2 oEq (e2 aJ (bF 1 (aa 0)) (aa 3)) (aa 4) [oc (Io S L),Q0 (n:Int),Q2 ([c]),Q0 (old:Int),Q0 ((S.lg.getD n 0+1:Nat):Int),O]=Y (.fr,.bl (decide (S.lg.getD old 0=S.lg.getD n 0+1))):=e2v (sA (m:=.bo) (n:=.fr) M M hold) (y:={`bv,((S.lg.getD n 0+1:Nat):Int)}) M (EC _ _);split at e
 ·rename_i g;obtain⟨rfl,rfl⟩:=W8 (Zh e);rw[decide_eq_true g]at cd;refine⟨W,hold,Zp _,XT _,?_⟩;have body:∀b:Sx,ak (aI 3 (e2 Kd (e2 aJ (bF 3 (aa 0)) (aa 1)) (aa 2))) (ak (aI 4 (e2 aW (e2 aJ (bF 1 (aa 0)) (aa 1)) (Q3 1))) (ak (Jw (e2 oEq (e2 aJ (bF 1 (aa 0)) (aa 3)) (aa 4)) (fA 3) di) b)) [oc (Io S L),Q0 (n:Int),Q2 ([c]),O,O,O]=Y (.rt (.fr,.int (old:Int)) [oc (Io S L),Q0 (n:Int),Q2 ([c]),Q0 (old:Int),Q0 ((S.lg.getD n 0+1:Nat):Int),O]):=λb =>
   (ah s1).trans ((ah h).trans (gp ((lu cd).trans M)))
  exact congrArg (λz:Option Out=>z.bind _) (body _)
 ·rename_i g;rw[ZM g]at cd;obtain⟨s,X,e3⟩:=Zy.mp e;obtain⟨rfl,rfl⟩:=W8 e3;have wn:=W.PH old;have Q:=W.more (l:=S.lg.getD n 0+1) (o:=S.lk.getD old O) (w:=S.wy.getD old []) (λm f=>W.up old m f) (λd m f=>W.on old d m f) wn.1 wn.2;have hlen:(S.lg++[S.lg.getD n 0+1]).length=S.lg.length+1:=by rw[Zw];rfl
  have P:=Q.link (n:=old) (v:=S.lg.length) (by show S.lg.length<(S.lg++[S.lg.getD n 0+1]).length;omega);obtain⟨C,A,Z,u⟩:=Er H 1000 _ s (Y n) P (by show S.lg.length<(S.lg++[S.lg.getD n 0+1]).length;omega) (λm f=>by cases f;show n<(S.lg++[S.lg.getD n 0+1]).length;omega) X;have x:s.lg.length=S.lg.length+1:=by rw[A];exact hlen
  refine⟨C,by omega,by omega,by omega,?_⟩;have nw:=Aa S (S.lg.getD n 0+1) (S.lk.getD old O) (S.wy.getD old []) (by omega) (by rw[W.lk];omega) (by rw[W.wy];omega);have args:ab (aa 4) (ab (e2 aJ (bF 2 (aa 0)) (aa 3)) (ab (eN lL (ab (e2 aJ (bF 3 (aa 0)) (aa 3)) ai)) ai)) [oc (Io S L),Q0 (n:Int),Q2 ([c]),Q0 (old:Int),Q0 ((S.lg.getD n 0+1:Nat):Int),O]=Y [{`bv,((S.lg.getD n 0+1:Nat):Int)},(.fr,IW (S.lk.getD old O)),(.fr,ID (S.wy.getD old []))] :=
   xv M (xv (vp (m:=.bo) (n:=.fr) M M Ip) (xv (k8 (xv (nN (m:=.bo) (n:=.fr) M M how) M) (by
    show (if dJ (((S.wy.getD old []).map λp=>(T.str [p.1],T.int (p.2:Int))).map (·.2))=L then Y (Md.fr,ID (S.wy.getD old [])) else O)=_;rw[Zo (by rw[Yp];exact gQ _ (λ_=>rfl) _)])) M))
  have N:argsOk [B,B,L] [{`bv,((S.lg.getD n 0+1:Nat):Int)},(.fr,IW (S.lk.getD old O)),(.fr,ID (S.wy.getD old []))]=L:=by
   show (L&&(Ir (IW (S.lk.getD old O))&&L))=L;rw[lQ];rfl
  have an:cq (trees [(Md.fr,T.int ((S.lg.getD n 0+1:Nat):Int)),(.fr,IW (S.lk.getD old O)),(.fr,ID (S.wy.getD old []))])=L:=by
   show (L&&(fW (IW (S.lk.getD old O))&&(fW (ID (S.wy.getD old []))&&L)))=L;rw[nW _ (lQ _),xU];rfl
  have J:=i9 (b:=L) args N an nw M;have F:cp 5 (b9 0 [] 0 [B,B,L] aL (ab (aa 4) (ab (e2 aJ (bF 2 (aa 0)) (aa 3)) (ab (eN lL (ab (e2 aJ (bF 3 (aa 0)) (aa 3)) ai)) ai)))) [oc (Io S L),Q0 (n:Int),Q2 ([c]),Q0 (old:Int),Q0 ((S.lg.getD n 0+1:Nat):Int),O]=Y (.nx [oc (Io ⟨S.lg++[S.lg.getD n 0+1],S.lk++[S.lk.getD old O],S.wy++[S.wy.getD old []]⟩ L),Q0 (n:Int),Q2 ([c]),Q0 (old:Int),Q0 ((S.lg.getD n 0+1:Nat):Int),Q0 (S.lg.length:Int)]):=by
   unfold cp;rw[J];rfl
  have E:=Ar (S:=⟨S.lg++[S.lg.getD n 0+1],S.lk++[S.lk.getD old O],S.wy++[S.wy.getD old []]⟩) (b:=L) (r:=[Q0 (n:Int),Q2 ([c]),Q0 (old:Int),Q0 ((S.lg.getD n 0+1:Nat):Int),Q0 (S.lg.length:Int)]) (i:=old) (v:=S.lg.length) (n:=.fr) (e:=aa 3) (ev:=aa 5) (by show old<(S.lk++[S.lk.getD old O]).length;rw[Zw];omega) M M;have D:=u xC `ao (Q0 ((S.lg.getD n 0+1:Nat):Int));exact congrArg (λz:Option Out=>z.bind _) ((ah s1).trans ((ah h).trans ((ah ((k7 cd).trans M)).trans ((ah F).trans ((ah E).trans ((ah D).trans M))))))
def GC{S S':St}{r:Nat}(W:WF S)(Z:S.lg.length<=100000)(x:h<S.lg.length)(y:97<=c/\c<=122)(e:hb S h c=Y (S',r)):WF S'/\r<S'.lg.length/\S.lg.length<=S'.lg.length/\S'.lg.length<=S.lg.length+2/\bE (KQ S) [.int (h:Int),.str [c]]=Y (KQ S',.int (r:Int)):=by
 have hw:h<S.wy.length:=by rw[W.wy];exact x
 unfold hb at e;unfold bE Lv;rw[Zo ⟨rfl,rfl⟩];have cd:e2 kI (aa 2) (e2 aJ (bF 3 (aa 0)) (aa 1)) [oc (Io S L),Q0 (h:Int),Q2 ([c]),O,O]=Y (.fr,.bl (gW (S.wy.getD h []) c).isSome):=HL (m:=.bo) (n:=.fr) (nN (m:=.bo) (n:=.fr) M M hw) M;split at e
 ·rename_i u;rw[u]at cd;obtain⟨s,q,t,A,E⟩:=Aj W (VF Z) x y e;refine⟨s,q,t,by omega,?_⟩;have j:=i9 (mv:=[B,B]) (as:=ab (aa 1) {`bn,2}) (xs:=[(.fr,.int (h:Int)),(.fr,.str [c])]) (b:=L) (r:=[Q0 (h:Int),Q2 ([c]),O,O]) M M M E M;have s1:kN (b9 0 [] 0 [B,B] av (ab (aa 1) {`bn,2})) [oc (Io S L),Q0 (h:Int),Q2 ([c]),O,O]=Y (.rt (.fr,.int (r:Int)) [oc (Io S' L),Q0 (h:Int),Q2 ([c]),O,O]):=by
   unfold kN;rw[j];rfl
  exact congrArg (λz:Option Out=>z.bind _) (gp ((lu cd).trans s1))
 ·rename_i u;have Ly:(gW (S.wy.getD h []) c).isSome=B:=by simpa using u
  rw[Ly]at cd;obtain⟨⟨a,o⟩,e1,D⟩:=Zz.mp e;have X:=W.more (l:=S.lg.getD h 0+1) (o:=Y 0) (w:=[]) (λm g=>by cases g;exact W.pos) (λd m g=>by cases g) Yt (λp Q=>nomatch Q);have hlen:(S.lg++[S.lg.getD h 0+1]).length=S.lg.length+1:=by rw[Zw];rfl
  obtain⟨s,q,t,A⟩:=FU y 1000 _ a (Y h) o X (by show S.lg.length<(S.lg++[S.lg.getD h 0+1]).length;omega) (λm g=>by cases g;show h<(S.lg++[S.lg.getD h 0+1]).length;omega) e1;have F:a.lg.length=S.lg.length+1:=by rw[q];exact hlen
  have nw:=Aa S (S.lg.getD h 0+1) (Y 0) [] (by omega) (by rw[W.lk];omega) (by rw[W.wy];omega);have args:ab (e2 aW (e2 aJ (bF 1 (aa 0)) (aa 1)) (Q3 1)) (ab (Q3 0) (ab (sD 0 []) ai)) [oc (Io S L),Q0 (h:Int),Q2 ([c]),O,O]=Y [{`bv,((S.lg.getD h 0+1:Nat):Int)},{`bv,0},(.fr,.dct 0 [])] :=
   xv (e2v (sA (m:=.bo) (n:=.fr) M M x) M M) (xv M (xv M M))
  have j:=i9 (mv:=[B,B,L]) (b:=L) args M M nw M;have s1:cp 3 (b9 0 [] 0 [B,B,L] aL (ab (e2 aW (e2 aJ (bF 1 (aa 0)) (aa 1)) (Q3 1)) (ab (Q3 0) (ab (sD 0 []) ai)))) [oc (Io S L),Q0 (h:Int),Q2 ([c]),O,O]=Y (.nx [oc (Io ⟨S.lg++[S.lg.getD h 0+1],S.lk++[Y 0],S.wy++[[]]⟩ L),Q0 (h:Int),Q2 ([c]),Q0 (S.lg.length:Int),O]):=by
   unfold cp;rw[j];rfl
  have P:=A xC `ao (Q0 (h:Int));have hd:∀b:Sx,ak (Jw (e2 kI (aa 2) (e2 aJ (bF 3 (aa 0)) (aa 1))) (kN (b9 0 [] 0 [B,B] av (ab (aa 1) {`bn,2}))) di)
    (ak (cp 3 (b9 0 [] 0 [B,B,L] aL (ab (e2 aW (e2 aJ (bF 1 (aa 0)) (aa 1)) (Q3 1)) (ab (Q3 0) (ab (sD 0 []) ai)))))
    (ak (aI 4 (aa 1)) (ak (lF (oy (gP (aa 4)) (e2 cR (aa 2) (e2 aJ (bF 3 (aa 0)) (aa 4)))) bI) b))) [oc (Io S L),Q0 (h:Int),Q2 ([c]),O,O] =
    b [oc (Io a L),Q0 (h:Int),Q2 ([c]),Q0 (S.lg.length:Int),pc (IW o)]:=λb =>
   (ah ((k7 cd).trans M)).trans ((ah s1).trans ((ah M).trans (ah P)))
  cases o with
  |none =>
   obtain⟨rfl,rfl⟩:=W8 (Zh D);have fin:ak (Jw (gP (aa 4)) (lY 0 [.fld 2] (aa 3) (b9 0 [] 0 [B,B] av (ab (aa 4) {`bn,2}))) di) (fA 3) [oc (Io a L),Q0 (h:Int),Q2 ([c]),Q0 (S.lg.length:Int),pc (IW O)] =
     Y (.rt (.fr,.int (S.lg.length:Int)) [oc (Io a L),Q0 (h:Int),Q2 ([c]),Q0 (S.lg.length:Int),pc (IW O)]):=(ah ((k7 (m:=.fr) M).trans M)).trans M
   refine⟨s,by show S.lg.length<a.lg.length;omega,by show S.lg.length<=a.lg.length;omega,by show a.lg.length<=_;omega,?_⟩;exact congrArg (λz:Option Out=>z.bind _) ((hd _).trans fin)
  |some n =>
   obtain⟨⟨f,m⟩,e3,U⟩:=Zy.mp D;obtain⟨rfl,rfl⟩:=W8 U;have R:n<a.lg.length:=by
    have:=t n M;rw[q];exact this
   obtain⟨C,J,v3,v4,H⟩:=Aj s (by show a.lg.length<=100001;omega) R y e3;have G:=C.link (n:=S.lg.length) (v:=m) J;have j:=i9 (mv:=[B,B]) (as:=ab (aa 4) {`bn,2}) (xs:=[(.fr,.int (n:Int)),(.fr,.str [c])]) (b:=L) (r:=[Q0 (h:Int),Q2 ([c]),Q0 (S.lg.length:Int),Q0 (n:Int)]) M M M H M;have pl:=Ar (S:=f) (b:=L) (r:=[Q0 (h:Int),Q2 ([c]),Q0 (S.lg.length:Int),Q0 (n:Int)]) (i:=S.lg.length) (v:=m) (n:=.fr) (e:=aa 3) (ev:=λ_=>Y (.fr,.int (m:Int))) (by rw[C.lk];omega) M M;have N:lY 0 [.fld 2] (aa 3) (b9 0 [] 0 [B,B] av (ab (aa 4) {`bn,2})) [oc (Io a L),Q0 (h:Int),Q2 ([c]),Q0 (S.lg.length:Int),Q0 (n:Int)]=Y (.nx [oc (Io ⟨f.lg,f.lk.set S.lg.length (Y m),f.wy⟩ L),Q0 (h:Int),Q2 ([c]),Q0 (S.lg.length:Int),Q0 (n:Int)]):=by
    unfold lY;rw[j];exact pl
   have fin:ak (Jw (gP (aa 4)) (lY 0 [.fld 2] (aa 3) (b9 0 [] 0 [B,B] av (ab (aa 4) {`bn,2}))) di) (fA 3) [oc (Io a L),Q0 (h:Int),Q2 ([c]),Q0 (S.lg.length:Int),Q0 (n:Int)] =
     Y (.rt (.fr,.int (S.lg.length:Int)) [oc (Io ⟨f.lg,f.lk.set S.lg.length (Y m),f.wy⟩ L),Q0 (h:Int),Q2 ([c]),Q0 (S.lg.length:Int),Q0 (n:Int)]):=(ah ((lu (m:=.fr) M).trans N)).trans M
   refine⟨G,by show S.lg.length<f.lg.length;omega,by show S.lg.length<=f.lg.length;omega,by show f.lg.length<=_;omega,?_⟩;exact congrArg (λz:Option Out=>z.bind _) ((hd _).trans fin)
theorem yO{S S':St}:∀{word:Vu}{h r:Nat},WF S->S.lg.length+2*word.length<=100000->h<S.lg.length->(∀c∈word,97<=c/\c<=122)->hg S h word=Y (S',r) →
  WF S'/\r<S'.lg.length/\S'.lg.length<=S.lg.length+2*word.length/\∀f:Uw,∀a:T,∃j,forL (aY 3) bU (word.map λc=>T.str [c]) [oc (Io S L),Q0 (h:Int),pc a,f]=Y (.nx [oc (Io S' L),Q0 (r:Int),pc a,j])
 |[],h,r,W,l,g,i,e=>by
  obtain⟨rfl,rfl⟩:=W8 (Zh e);exact⟨W,g,by simp,λf a=>⟨f,rfl⟩⟩
 |c :: word,h,r,W,l,g,i,e=>by
  obtain⟨⟨v,A⟩,e1,w⟩:=Zz.mp e;rw[Zg]at l;obtain⟨o,n,y,x,m⟩:=GC W (by omega) g (i c Zx) e1;obtain⟨t,s,z,p⟩:=yO (S:=v) (S':=S') (word:=word) o (by omega) n (λd hd=>i d (Zv _ hd)) w;refine⟨t,s,by rw[Zg];omega,λf a=>?_⟩;obtain⟨j,q⟩:=p (Q2 ([c])) a;refine⟨j,?_⟩;rw[Zc];refine(iq (U1:=[oc (Io S L),Q0 (h:Int),pc a,Q2 ([c])]) M ?_).trans q;have u:=i9 (mv:=[B,B]) (as:=ab (aa 1) {`bn,3}) (xs:=[(.fr,.int (h:Int)),(.fr,.str [c])]) (b:=L) (r:=[Q0 (h:Int),pc a,Q2 ([c])]) M M M m M;unfold bU cp;rw[u];rfl
def GM{S S':St}{a:Tx}(W:WF S)(i:S.lg.length+2*a.length<=100000)(j:h<S.lg.length)(n:∀c∈a,97<=c/\c<=122)(e:hg S h a=Y (S',r)) :
  WF S'/\r<S'.lg.length/\S'.lg.length<=S.lg.length+2*a.length/\bO (KQ S) [.int (h:Int),.str a]=Y (KQ S',.int (r:Int)):=by
 obtain⟨g,f,d,b⟩:=yO W i j n e;obtain⟨o,q⟩:=b O (.str a);refine⟨g,f,d,?_⟩;unfold bO Lv;rw[Zo ⟨rfl,rfl⟩];have s1:=(dY (tg:=aY 3) (it:=c8 (aa 2)) (body:=bU) (U:=[oc (Io S L),Q0 (h:Int),Q2 a,O]) (m:=.fr) (l:=a.map λc=>T.str [c]) M M).trans q;exact congrArg (λz:Option Out=>z.bind _) ((ah s1).trans M)
end T39
end
section
namespace AU
noncomputable abbrev Wd:=Vu
noncomputable abbrev W(a:List Wd)(n:Nat):Wd:=a.getD n []
structure I(fr:Option Nat)(S:St)(nd:Wd->Option Nat)(wd:List Wd):Prop where
 wf:WF S
 len:wd.length=S.lg.length
 lg:∀n,n<wd.length->S.lg.getD n 0=(W wd n).length
 z:nd []=some 0
 wz:W wd 0=[]
 lt:∀{x n},nd x=some n->n<wd.length
 sf:∀{x n},nd x=some n->x <:+ W wd n
 top:∀{n},n<wd.length->nd (W wd n)=some n
 iv:∀{x y n},nd x=some n->x <:+ y->y <:+ W wd n->nd y=some n
 pre:∀{x c n},nd (x++[c])=some n->∃m,nd x=some m
 Ny:∀{x y n},nd y=some n->x <:+ y->∃m,nd x=some m
 Qx:S.lk.getD 0 none=none
 lk:∀{n},0<n->n<wd.length->some n≠fr->∃m,S.lk.getD n none=some m/\(m<wd.length/\some m≠fr)/\W wd m <:+ W wd n/\(W wd m).length<(W wd n).length/\∀y,y <:+ W wd n->(W wd m).length<y.length->nd y=some n
 wy:∀{x n},nd x=some n->∀c,gW `bi c=nd (x++[c])
def dg{α:Type}{x y w:List α}(d:x <:+ w)(b:y <:+ w)(a:x.length<=y.length):x <:+ y:=List.suffix_of_suffix_length_le d b a
section
def I.up(H:I fr S nd wd):∀(k n:Nat)(x:Wd),(W wd n).length<=k->n<wd.length->Y n≠fr->x <:+ W wd n->∃m,nd x=Y m/\W wd m <:+ W wd n:=by
 intro k
 induction k with
 |zero =>
  intro n x f b g a;have e:W wd n=[]:=Xs.mp (Nat.le_zero.mp f);rw[e]at a;have:x=[]:=Xh.mp a;subst this;exact⟨0,H.z,by rw[H.wz];exact WM⟩
 |succ k o =>
  intro n x f b g a;by_cases i:n=0
  ·subst i;rw[H.wz]at a;have:x=[]:=Xh.mp a;subst this;exact⟨0,H.z,Yf _⟩
  ·obtain⟨m,u,⟨r,s⟩,h,t,p⟩:=H.lk (KR i) b g;by_cases d:(W wd m).length<x.length
   ·exact⟨n,p x a d,Yf _⟩
   ·obtain⟨q,l,j⟩:=o m x `am r s (dg a h (by exact ZK d));exact⟨q,l,j.trans h⟩
def I.RR(H:I fr S nd wd)(b:n<wd.length)(d:Y n≠fr)(a:x <:+ W wd n):∃m,nd x=Y m/\W wd m <:+ W wd n:=H.up _ n x (Zp _) b d a
def I.all(H:I fr S nd wd)(e:q<wd.length)(f:Y q≠fr)(d:nd x=Y n)(b:nd y=Y n)(h:x <:+ W wd q):y <:+ W wd q:=by
 obtain⟨m,a,g⟩:=H.RR e f h;rw[d]at a;cases a;exact(H.sf b).trans g
def I.inj(H:I fr S nd wd)(b:m<wd.length)(a:n<wd.length)(h:W wd m=W wd n):m=n:=by
 have:=H.top b;rw[h,H.top a]at this;exact(Zh this).symm
def I.way(H:I fr S nd wd){n c:Nat}(b:n<wd.length)(h:gW `bi c=Y a):nd (W wd n++[c])=Y a:=by
 rw[← H.wy (H.top b) c];exact h
def I.zero(H:I fr S nd wd)(h:nd x=Y 0):x=[]:=by
 have:=H.sf h;rw[H.wz]at this;exact Xh.mp this
def I.low(H:I fr S nd wd)(h:Y n≠fr)(a:S.lk.getD n O=Y m)(b:nd y=Y n):(W wd m).length<y.length/\m<wd.length/\W wd m <:+ W wd n/\Y m≠fr:=by
 have g:=H.lt b;by_cases f:n=0
 ·subst f;rw[H.Qx]at a;cases a
 ·obtain⟨o,j,⟨e,l⟩,d,i,p⟩:=H.lk (KR f) g h;rw[j]at a;cases a;refine⟨V7 λhle=>?_,e,d,l⟩;have:=H.iv b (dg (H.sf b) d hle) d;rw[H.top e]at this;cases this;exact YA _ i
def I.below(H:I fr S nd wd)(e:n<wd.length)(g:Y n≠fr)(a:S.lk.getD n O=Y q)(f:m<wd.length)(b:W wd m <:+ W wd n)(l:m≠n):W wd m <:+ W wd q:=by
 by_cases d:n=0
 ·subst d;rw[H.Qx]at a;cases a
 ·obtain⟨p,j,⟨s,_⟩,i,r,h⟩:=H.lk (KR d) e g;rw[j]at a;cases a;refine dg b i (ZK λo=>l ?_);have:=h _ b o;rw[H.top f]at this;exact Zh this
def I.root(H:I fr S nd wd)(b:n<wd.length)(g:Y n≠fr)(d:S.lk.getD n O=O)(f:m<wd.length)(a:W wd m <:+ W wd n):m=n:=by
 have i:n=0:=Nat.eq_zero_of_not_pos λe=>by
  obtain⟨q,h,_⟩:=H.lk e b g;rw[h]at d;cases d
 subst i;rw[H.wz]at a;exact H.inj f b (by rw[H.wz,Xh.mp a])
def fR(a:List (List (Nat×Nat)))(n m c v d:Nat)(b:n<a.length):gW ((a.set n (pW (a.getD n []) c v)).getD m []) d=if m=n/\d=c then Y v else gW (a.getD m []) d:=by
 rw[g8];by_cases h:n=m
 ·subst h;rw[Zo ⟨rfl,b⟩,DH];by_cases hd:d=c
  ·rw[Zo hd,Zo ⟨rfl,hd⟩]
  ·rw[Zl hd,Zl (λz=>hd z.2)]
 ·rw[Zl (λz=>h z.1),Zl (λz=>h z.1.symm)]
def I.O3(H:I fr S nd wd){c old v:Nat}:∀(k:Nat)(T:St)(n:Nat),n<wd.length->Y n≠fr->(W wd n).length<k->(∀m,m<wd.length->W wd m <:+ W wd n->T.lk.getD m O=S.lk.getD m O)->wd.length<=T.wy.length →
  (∀m b,m<wd.length->b<wd.length->W wd m <:+ W wd b->W wd b <:+ W wd n->gW (T.wy.getD m []) c=Y old->gW (T.wy.getD b []) c=Y old) →
  ∃l,NX c old v k T (Y n)=Y ⟨T.lg,T.lk,l⟩/\l.length=T.wy.length/\∀m d,gW (l.getD m []) d=if d=c/\m<wd.length/\W wd m <:+ W wd n/\gW (T.wy.getD m []) c=Y old then Y v else gW (T.wy.getD m []) d:=by
 intro k
 induction k with
 |zero=>intro T n _ _ h;lia
 |succ k C =>
  intro T n f s F x hw mono;have j:n<T.wy.length:=ZZ f hw;unfold NX;by_cases i:gW (T.wy.getD n []) c=Y old
  ·rw[Zo i,x n f (Yf _)];cases r:S.lk.getD n O with
   |none =>
    refine⟨T.wy.set n (pW (T.wy.getD n []) c v),by cases k<;>rfl,Yg,λm d=>?_⟩;rw[fR _ _ _ _ _ _ j];by_cases a:m=n/\d=c
    ·rw[Zo a,Zo ⟨a.2,by rw[a.1];exact f,by rw[a.1];exact Yf _,by rw[a.1];exact i⟩]
    ·rw[Zl a,Zl λz=>a ⟨H.root f s r z.2.1 z.2.2.1,z.1⟩]
   |some q =>
    obtain⟨E,A,p,y⟩:=H.low s r (H.top f);have ne:∀m,W wd m <:+ W wd q->m≠n:=λm a e=>by
     rw[e]at a;have:=a.length_le;lia
    obtain⟨l,e1,e2,e3⟩:=C ⟨T.lg,T.lk,T.wy.set n (pW (T.wy.getD n []) c v)⟩ q A y `am (λm a o=>x m a (o.trans p)) (by show _<=(T.wy.set _ _).length;rw[Yg];exact hw) (λm b a D o t h=>by
     have u:gW ((T.wy.set n (pW (T.wy.getD n []) c v)).getD m []) c=Y old:=h;show gW ((T.wy.set n (pW (T.wy.getD n []) c v)).getD b []) c=Y old;rw[fR _ _ _ _ _ _ j,Zl (λz=>ne m (o.trans t) z.1)]at u;rw[fR _ _ _ _ _ _ j,Zl (λz=>ne b t z.1)];exact mono m b a D o (t.trans p) u)
    refine⟨l,e1,by rw[e2];exact Yg,λm d=>?_⟩;rw[e3 m d];show (if d=c/\m<wd.length/\W wd m <:+ W wd q/\gW ((T.wy.set n (pW (T.wy.getD n []) c v)).getD m []) c=Y old then Y v else gW ((T.wy.set n (pW (T.wy.getD n []) c v)).getD m []) d)=_;by_cases a:m=n
    ·subst a;rw[Zl (λz=>ne m z.2.2.1 M),fR _ _ _ _ _ _ j];by_cases hd:d=c
     ·rw[Zo ⟨rfl,hd⟩,Zo ⟨hd,f,Yf _,i⟩]
     ·rw[Zl (λz=>hd z.2),Zl (λz=>hd z.1)]
    ·have w:∀d,gW ((T.wy.set n (pW (T.wy.getD n []) c v)).getD m []) d=gW (T.wy.getD m []) d:=λd=>by rw[fR _ _ _ _ _ _ j,Zl (λz=>a z.1)]
     rw[w,w];by_cases g:d=c/\m<wd.length/\W wd m <:+ W wd n/\gW (T.wy.getD m []) c=Y old
     ·rw[Zo g,Zo ⟨g.1,g.2.1,H.below f s r g.2.1 g.2.2.1 a,g.2.2.2⟩]
     ·rw[Zl g,Zl λz=>g ⟨z.1,z.2.1,z.2.2.1.trans p,z.2.2.2⟩]
  ·rw[Zl i];refine⟨T.wy,rfl,rfl,λm d=>?_⟩;rw[Zl λz=>i (mono m n z.2.1 f z.2.2.1 (Yf _) z.2.2.2)]
def I.O4(H:I fr S nd wd){c v:Nat}:∀(k:Nat)(T:St)(n:Nat),n<wd.length->Y n≠fr->(W wd n).length<k->(∀m,m<wd.length->W wd m <:+ W wd n->T.lk.getD m O=S.lk.getD m O)->wd.length<=T.wy.length →
  (∀m g,m<wd.length->g<wd.length->W wd m <:+ W wd g->W wd g <:+ W wd n->(gW (T.wy.getD g []) c).isSome->(gW (T.wy.getD m []) c).isSome) →
  ∃y s,up1 c v k T (Y n)=Y (⟨T.lg,T.lk,y⟩,s)/\y.length=T.wy.length/\(∀m d,gW (y.getD m []) d=if d=c/\m<wd.length/\W wd m <:+ W wd n/\gW (T.wy.getD m []) c=O then Y v else gW (T.wy.getD m []) d) ∧
   (s=O->∀m,m<wd.length->W wd m <:+ W wd n->gW (T.wy.getD m []) c=O) ∧
   ∀p,s=Y p->p<wd.length/\W wd p <:+ W wd n/\(gW (T.wy.getD p []) c).isSome/\∀m,m<wd.length->W wd m <:+ W wd n->(W wd p).length<(W wd m).length->gW (T.wy.getD m []) c=O:=by
 intro k
 induction k with
 |zero=>intro T n _ _ h;lia
 |succ k X =>
  intro T n f o hk J hw mono;have r:n<T.wy.length:=ZZ f hw;unfold up1;by_cases l:(gW (T.wy.getD n []) c).isSome=L
  ·rw[Zo l];refine⟨T.wy,Y n,rfl,rfl,λm d=>?_,(λh=>nomatch h),λp t=>?_⟩
   ·rw[Zl λz=>?_];have:=mono m n z.2.1 f z.2.2.1 (Yf _) l;rw[z.2.2.2]at this;cases this
   ·cases t;refine⟨f,Yf _,l,λm a b j=>?_⟩;have:=b.length_le;lia
  ·have w:gW (T.wy.getD n []) c=O:=by
    cases h:gW (T.wy.getD n []) c with
    |none=>rfl
    |some x=>rw[h]at l;exact absurd M l
   rw[Zl l,J n f (Yf _)];cases j:S.lk.getD n O with
   |none =>
    refine⟨T.wy.set n (pW (T.wy.getD n []) c v),O,by cases k<;>rfl,Yg,λm d=>?_,λ_ m a b=>?_,(λp t=>nomatch t)⟩
    ·rw[fR _ _ _ _ _ _ r];by_cases a:m=n/\d=c
     ·rw[Zo a,Zo ⟨a.2,by rw[a.1];exact f,by rw[a.1];exact Yf _,by rw[a.1];exact w⟩]
     ·rw[Zl a,Zl λz=>a ⟨H.root f o j z.2.1 z.2.2.1,z.1⟩]
    ·rw[H.root f o j a b];exact w
   |some q =>
    obtain⟨l1,U,A,R⟩:=H.low o j (H.top f);have ne:∀m,W wd m <:+ W wd q->m≠n:=λm a e=>by
     rw[e]at a;have:=a.length_le;lia
    obtain⟨y,s,e1,e2,e3,e4,e5⟩:=X ⟨T.lg,T.lk,T.wy.set n (pW (T.wy.getD n []) c v)⟩ q U R `am (λm a b=>J m a (b.trans A)) (by show _<=(T.wy.set _ _).length;rw[Yg];exact hw) (λm g a JH b C h=>by
     have E:(gW ((T.wy.set n (pW (T.wy.getD n []) c v)).getD g []) c).isSome:=h;show (gW ((T.wy.set n (pW (T.wy.getD n []) c v)).getD m []) c).isSome;rw[fR _ _ _ _ _ _ r,Zl (λz=>ne g C z.1)]at E;rw[fR _ _ _ _ _ _ r,Zl (λz=>ne m (b.trans C) z.1)];exact mono m g a JH b (C.trans A) E)
    have old:∀m,W wd m <:+ W wd q->gW ((T.wy.set n (pW (T.wy.getD n []) c v)).getD m []) c=gW (T.wy.getD m []) c:=λm a=>by rw[fR _ _ _ _ _ _ r,Zl (λz=>ne m a z.1)]
    refine⟨y,s,e1,by rw[e2];exact Yg,λm d=>?_,λZ m a b=>?_,λp t=>?_⟩
    ·rw[e3 m d];show (if d=c/\m<wd.length/\W wd m <:+ W wd q/\gW ((T.wy.set n (pW (T.wy.getD n []) c v)).getD m []) c=O then Y v else gW ((T.wy.set n (pW (T.wy.getD n []) c v)).getD m []) d)=_;by_cases a:m=n
     ·subst a;rw[Zl (λz=>ne m z.2.2.1 M),fR _ _ _ _ _ _ r];by_cases hd:d=c
      ·rw[Zo ⟨rfl,hd⟩,Zo ⟨hd,f,Yf _,w⟩]
      ·rw[Zl (λz=>hd z.2),Zl (λz=>hd z.1)]
     ·have F:∀d,gW ((T.wy.set n (pW (T.wy.getD n []) c v)).getD m []) d=gW (T.wy.getD m []) d:=λd=>by rw[fR _ _ _ _ _ _ r,Zl (λz=>a z.1)]
      rw[F,F];by_cases i:d=c/\m<wd.length/\W wd m <:+ W wd n/\gW (T.wy.getD m []) c=O
      ·rw[Zo i,Zo ⟨i.1,i.2.1,H.below f o j i.2.1 i.2.2.1 a,i.2.2.2⟩]
      ·rw[Zl i,Zl λz=>i ⟨z.1,z.2.1,z.2.2.1.trans A,z.2.2.2⟩]
    ·by_cases u:m=n
     ·rw[u];exact w
     ·have hb:=H.below f o j a b u;rw[← old m hb];exact e4 Z m a hb
    ·obtain⟨Q,D,P,N⟩:=e5 p t;have G:(gW ((T.wy.set n (pW (T.wy.getD n []) c v)).getD p []) c).isSome:=P;rw[old p D]at G;refine⟨Q,D.trans A,G,λm a b IS=>?_⟩;by_cases u:m=n
     ·rw[u];exact w
     ·have hb:=H.below f o j a b u;rw[← old m hb];exact N m a hb IS
end
def Ey(g:97<=c/\c<=122):∀(k:Nat)(S a:St)(o:Option Nat),WF S->v<S.lg.length->NX c b v k S o=Y a->WF a:=by
 intro k
 induction k with
 |zero =>
  intro S a o H d e;cases o with
  |none=>cases (show Y S=Y a from e);exact H
  |some n=>cases e
 |succ k f =>
  intro S a o H d e;cases o with
  |none=>cases (show Y S=Y a from e);exact H
  |some n =>
   unfold NX at e;split at e
   ·exact f ⟨S.lg,S.lk,S.wy.set n (pW `bi c v)⟩ a _ (H.way (n:=n) d g) d e
   ·cases e;exact H
def Ep(g:97<=c/\c<=122):∀(k:Nat)(S a:St)(o b:Option Nat),WF S->v<S.lg.length->up1 c v k S o=Y (a,b)->WF a:=by
 intro k
 induction k with
 |zero =>
  intro S a o b H d e;cases o with
  |none=>cases (show Y (S,O)=Y (a,b) from e);exact H
  |some n=>cases e
 |succ k f =>
  intro S a o b H d e;cases o with
  |none=>cases (show Y (S,O)=Y (a,b) from e);exact H
  |some n =>
   unfold up1 at e;split at e
   ·cases e;exact H
   ·exact f ⟨S.lg,S.lk,S.wy.set n (pW `bi c v)⟩ a _ b (H.way (n:=n) d g) d e
def i7{α:Type}{x y:List α}{a b:α}(h:x++[a] <:+ y++[b]):a=b/\x <:+ y:=by
 obtain⟨t,e⟩:=h;rw[← Zf]at e;obtain⟨e1,e2⟩:=List.append_inj' e M;exact⟨by simpa using e2,⟨t,e1⟩⟩
def g6{α:Type}{x y:List α}(a:α)(h:x <:+ y):x++[a] <:+ y++[a]:=by
 obtain⟨t,e⟩:=h;exact⟨t,by rw[← e,Zf]⟩
noncomputable def iL(b:Wd->Option Nat)(a l h:Nat)(x:Wd):Option Nat:=if b x=Y a/\x.length<=l then Y h else b x
theorem I.split(H:I P S j a)(J:n<a.length)(hf:Y n≠P)(hc:97<=c/\c<=122)(ho:gW `bi c=Y old)(OO:Y old≠P)(Ob:P≠Y a.length)(Js:S.lg.getD old 0≠S.lg.getD n 0+1)(hk:(W a n).length<1000) :
  ∃S',NC S n c=Y (S',S.lg.length)/\I P S' (iL j old ((W a n).length+1) a.length) (a++[W a n++[c]]):=by
 have N:S.lg.length=a.length:=H.len.symm;have hw:=H.way J ho;have hold:=H.lt hw;have u:=H.sf hw;have lw:(W a n++[c]).length=(W a n).length+1:=by rw[Zw];rfl
 rw[H.lg old hold,H.lg n J]at Js;have IS:(W a n).length+1<(W a old).length:=by
  have:=u.length_le;rw[lw]at this;lia
 have Z:old≠0:=λe=>by
  rw[e,H.wz]at IS;simp at IS
 have QZ:0<a.length:=by rw[H.len];exact H.wf.pos
 have l1:S.lk.length=a.length:=by rw[H.wf.lk,N]
 have l2:S.wy.length=a.length:=by rw[H.wf.wy,N]
 have Mn:∀m,((S.lk++[S.lk.getD old O]).set old (Y S.lg.length)).getD m O=if m=old then Y a.length else if m=a.length then S.lk.getD old O else S.lk.getD m O:=λm=>by
  rw[g8,bZ,l1,N];by_cases h:m=old
  ·rw[Zo ⟨h.symm,by rw[Zw,l1];lia⟩,Zo h]
  ·rw[Zl (λz=>h z.1.symm),Zl h]
 have KY:∀m,(S.wy++[S.wy.getD old []]).getD m []=if m=a.length then S.wy.getD old [] else S.wy.getD m []:=λm=>by rw[bZ,l2]
 have Mz:∀m,m<a.length->(S.wy++[S.wy.getD old []]).getD m []=S.wy.getD m []:=λm b=>by rw[KY,Zl (Ze b)]
 obtain⟨w2,e1,e2,e3⟩:=H.O3 (c:=c) (old:=old) (v:=S.lg.length) 1000 ⟨S.lg++[S.lg.getD n 0+1],(S.lk++[S.lk.getD old O]).set old (Y S.lg.length),S.wy++[S.wy.getD old []]⟩ n J hf hk (λm b hs=>by
   have:=hs.length_le;show ((S.lk++[S.lk.getD old O]).set old (Y S.lg.length)).getD m O=_;rw[Mn,Zl (λe=>by rw[e]at this;lia),Zl (Ze b)])
  (by show _<=(S.wy++[S.wy.getD old []]).length;rw[Zw,l2];exact ZQ _ _)
  (λm t b E hs JP h=>by
   have D:gW ((S.wy++[S.wy.getD old []]).getD m []) c=Y old:=h;show gW ((S.wy++[S.wy.getD old []]).getD t []) c=Y old;rw[Mz m b]at D;rw[Mz t E,H.wy (H.top E) c];rw[H.wy (H.top b) c]at D;exact H.iv D (g6 c hs) ((g6 c JP).trans u))
 have wn:=H.wf.PH old;have W1:=H.wf.more (l:=S.lg.getD n 0+1) (o:=S.lk.getD old O) (w:=S.wy.getD old []) (λm b=>H.wf.up old m b) (λd m b=>H.wf.on old d m b) wn.1 wn.2;have hlen:(S.lg++[S.lg.getD n 0+1]).length=S.lg.length+1:=by rw[Zw];rfl
 have W2:=W1.link (n:=old) (v:=S.lg.length) (by show S.lg.length<(S.lg++[S.lg.getD n 0+1]).length;lia);have SI:=Ey hc 1000 _ _ _ W2 (by show S.lg.length<(S.lg++[S.lg.getD n 0+1]).length;lia) e1;refine⟨⟨S.lg++[S.lg.getD n 0+1],(S.lk++[S.lk.getD old O]).set old (Y S.lg.length),w2⟩,?_,?_⟩
 ·unfold NC;rw[ho,Zs,Zl (by rw[H.lg old hold,H.lg n J];exact Js),e1];rfl
 have Wn:∀m,W (a++[W a n++[c]]) m=if m=a.length then W a n++[c] else W a m:=λm=>bZ a _ _ m
 have s:W (a++[W a n++[c]]) a.length=W a n++[c]:=by rw[Wn,Zo M]
 have f:∀{m},m<a.length->W (a++[W a n++[c]]) m=W a m:=λ{m} b=>by rw[Wn,Zl (Ze b)]
 have d5:(a++[W a n++[c]]).length=a.length+1:=by rw[Zw];rfl
 have tell:∀{x m},iL j old ((W a n).length+1) a.length x=Y m->(m=a.length/\j x=Y old/\x.length<=(W a n).length+1)\/(m<a.length/\j x=Y m/\¬(m=old/\x.length<=(W a n).length+1)):=λ{x m} h=>by
  unfold iL at h;split at h
  ·rename_i q;cases h;exact .inl ⟨rfl,q.1,q.2⟩
  ·rename_i q;exact .inr ⟨H.lt h,h,λz=>q ⟨by rw[h,z.1],z.2⟩⟩
 have U:∀{x},j x=Y old->x.length<=(W a n).length+1->iL j old ((W a n).length+1) a.length x=Y a.length:=λ{x} C h2=>Zo ⟨C,h2⟩;have tO:∀{x m},j x=Y m->¬(m=old/\x.length<=(W a n).length+1)->iL j old ((W a n).length+1) a.length x=Y m:=λ{x m} C h2=>by
  unfold iL;rw[Zl (λz=>h2 ⟨by rw[C]at z;exact Zh z.1,z.2⟩),C]
 have NZ:∀{x m},j x=Y m->∃t,iL j old ((W a n).length+1) a.length x=Y t:=λ{x m} h=>by
  unfold iL;split
  ·exact⟨_,rfl⟩
  ·exact⟨m,h⟩
 have un:∀{x m},iL j old ((W a n).length+1) a.length x=Y m->∃t,j x=Y t:=λ{x m} h=>(tell h).elim (λz=>⟨_,z.2.1⟩) λz=>⟨_,z.2.1⟩
 refine⟨SI,by rw[d5,hlen,N],λm b=>?_,tO H.z (λz=>Z z.1.symm),by rw[f QZ];exact H.wz,λ{x m} h=>by rcases tell h with z | z<;>lia,λ{x m} h=>?_,λ{m} b=>?_,λ{x y m} h Q g=>?_,λ{x d m} h=>?_,λ{x y m} h Q=>?_,?_,λ{m} h0 b TN=>?_,λ{x m} h d=>?_⟩
 ·rw[d5]at b;show (S.lg++[S.lg.getD n 0+1]).getD m 0=_;rw[bZ,N];by_cases e:m=a.length
  ·rw[Zo e,e,s,H.lg n J,lw]
  ·rw[Zl e,f `am,H.lg m `am]
 ·rcases tell h with⟨rfl,i,F⟩ | ⟨G,i,_⟩
  ·rw[s];exact dg (H.sf i) u (by rw[lw];exact F)
  ·rw[f G];exact H.sf i
 ·rw[d5]at b;by_cases e:m=a.length
  ·rw[e,s];exact U hw (by rw[lw];exact Zp _)
  ·rw[f `am];exact tO (H.top `am) (λz=>by have:=z.2;rw[z.1]at this;lia)
 ·rcases tell h with⟨rfl,i,F⟩ | ⟨G,i,F⟩
  ·rw[s]at g;have:=g.length_le;rw[lw]at this;exact U (H.iv i Q (g.trans u)) this
  ·rw[f G]at g;exact tO (H.iv i Q g) (λz=>F ⟨z.1,ZL Q.length_le z.2⟩)
 ·obtain⟨t,D⟩:=un h;obtain⟨q,p⟩:=H.pre D;exact NZ p
 ·obtain⟨t,D⟩:=un h;obtain⟨q,p⟩:=H.Ny D Q;exact NZ p
 ·show ((S.lk++[S.lk.getD old O]).set old (Y S.lg.length)).getD 0 O=O;rw[Mn,Zl (YH Z),Zl (by exact Ze QZ)];exact H.Qx
 ·rw[d5]at b;show ∃q,((S.lk++[S.lk.getD old O]).set old (Y S.lg.length)).getD m O=Y q/\_;rw[Mn,d5];obtain⟨q,q1,⟨R,SV⟩,q3,q4,q5⟩:=H.lk (KR Z) hold OO;obtain⟨lo,_⟩:=H.low OO q1 hw;rw[lw]at lo;by_cases e:m=old
  ·subst e;rw[Zo M];refine⟨a.length,rfl,⟨by exact Yn _,λz=>Ob z.symm⟩,?_,?_,λy g A=>?_⟩
   ·rw[s,f hold];exact u
   ·rw[s,f hold,lw];exact IS
   ·rw[s,lw]at A;rw[f hold]at g;exact tO (H.iv hw (dg u g (by rw[lw];exact ZS A)) g) (λz=>by have:=z.2;lia)
  ·rw[Zl e];by_cases eL:m=a.length
   ·subst eL;rw[Zo M,q1];refine⟨q,rfl,⟨by exact Ym R,SV⟩,?_,?_,λy g A=>?_⟩
    ·rw[s,f R];exact dg q3 u (by rw[lw];exact ZS lo)
    ·rw[s,f R,lw];exact lo
    ·rw[s]at g;rw[f R]at A;have:=g.length_le;rw[lw]at this;exact U (q5 y (g.trans u) A) this
   ·rw[Zl eL];have E:m<a.length:=by lia
    obtain⟨r,r1,⟨r2,X⟩,r3,r4,r5⟩:=H.lk h0 E TN;rw[r1];refine⟨r,rfl,⟨by exact Ym r2,X⟩,by rw[f r2,f E];exact r3,by rw[f r2,f E];exact r4,λy g A=>?_⟩;rw[f E]at g;rw[f r2]at A;exact tO (r5 y g A) (λz=>e z.1)
 ·show gW (w2.getD m []) d=_;rw[e3 m d];show (if d=c/\m<a.length/\W a m <:+ W a n/\gW ((S.wy++[S.wy.getD old []]).getD m []) c=Y old then Y S.lg.length else gW ((S.wy++[S.wy.getD old []]).getD m []) d)=_;rcases tell h with⟨rfl,i,F⟩ | ⟨G,i,F⟩
  ·rw[Zl (λz=>YA _ z.2.1),KY,Zo M,H.wy i d];unfold iL;rw[Zl];intro z;have C:=z.1;rw[← H.wy i d,H.wy (H.top hold) d]at C;have:=(H.sf C).length_le;rw[Zw,LI]at this;lia
  ·rw[Mz m G,H.wy i c,H.wy i d];unfold iL;by_cases p:j (x++[d])=Y old/\(x++[d]).length<=(W a n).length+1
   ·have Nh:=dg (H.sf p.1) u (by rw[lw];exact p.2);obtain⟨rfl,hx⟩:=i7 Nh;obtain⟨t,m1,m2⟩:=H.RR J hf hx;rw[i]at m1;cases m1;rw[Zo ⟨rfl,G,m2,p.1⟩,Zo p,N]
   ·rw[Zl p,Zl];rintro⟨rfl,_,a3,a4⟩;refine p ⟨a4,?_⟩;have b1:=(H.sf i).length_le;have b2:=a3.length_le;rw[Zw,LI];lia
end AU
end
section
namespace AU
open Classical in
noncomputable def iA(a:Wd->Option Nat)(w:Wd)(f:Nat)(x:Wd):Option Nat:=match a x with
 |some m=>Y m
 |none=>if x <:+ w then Y f else O
def dy(h:a x=Y m):iA a w f x=Y m:=by
 unfold iA;rw[h]
def fL(h:a x=O)(b:x <:+ w):iA a w f x=Y f:=by
 unfold iA;rw[h];exact Zo b
def cH(h:iA a w f x=Y m):a x=Y m\/(m=f/\a x=O/\x <:+ w):=by
 unfold iA at h;split at h
 ·rename_i q e;cases h;exact .inl e
 ·rename_i e;split at h
  ·rename_i b;cases h;exact .inr ⟨rfl,e,b⟩
  ·cases h
def zM{α:Type}{y t:List α}{c:α}(h:y <:+ t++[c])(d:y≠[]):∃a,y=a++[c]/\a <:+ t:=by
 rcases List.eq_nil_or_concat y with e | ⟨a,b,e⟩
 ·exact absurd e d
 ·rw[List.concat_eq_append]at e;subst e;obtain⟨e1,e2⟩:=i7 h;exact⟨a,by rw[e1],e2⟩
section
def I.fresh(H:I O S nd wd)(t:h<wd.length)(hc:97<=c/\c<=122)(hn:gW (S.wy.getD h []) c=O)(hk:(W wd h).length<1000) :
  ∃D u,up1 c S.lg.length 1000 ⟨S.lg++[S.lg.getD h 0+1],S.lk++[Y 0],S.wy++[[]]⟩ (Y h)=Y (D,u)/\I (Y wd.length) D (iA nd (W wd h++[c]) wd.length) (wd++[W wd h++[c]])/\D.lk.getD wd.length O=Y 0/\D.lg.length=S.lg.length+1 ∧
   (∀m,m<wd.length->(gW (S.wy.getD m []) c).isSome->gW (D.wy.getD m []) c=gW (S.wy.getD m []) c) ∧
   (u=O->∀m,m<wd.length->W wd m <:+ W wd h->gW (S.wy.getD m []) c=O) ∧
   ∀p,u=Y p->p<wd.length/\W wd p <:+ W wd h/\(gW (S.wy.getD p []) c).isSome/\∀m,m<wd.length->W wd m <:+ W wd h->(W wd p).length<(W wd m).length->gW (S.wy.getD m []) c=O:=by
 have C:S.lg.length=wd.length:=H.len.symm;have l1:S.lk.length=wd.length:=by rw[H.wf.lk,C]
 have l2:S.wy.length=wd.length:=by rw[H.wf.wy,C]
 have QZ:0<wd.length:=by rw[H.len];exact H.wf.pos
 have P:∀m,(S.lk++[Y 0]).getD m O=if m=wd.length then Y 0 else S.lk.getD m O:=λm=>by rw[bZ,l1]
 have KY:∀m,(S.wy++[[]]).getD m []=if m=wd.length then [] else S.wy.getD m []:=λm=>by rw[bZ,l2]
 have s:∀m,m<wd.length->(S.wy++[[]]).getD m []=S.wy.getD m []:=λm b=>by rw[KY,Zl (Ze b)]
 have nt:nd (W wd h++[c])=O:=by rw[← H.wy (H.top t) c];exact hn
 obtain⟨Q,u,e1,e2,e3,e4,e5⟩:=H.O4 (c:=c) (v:=S.lg.length) 1000 ⟨S.lg++[S.lg.getD h 0+1],S.lk++[Y 0],S.wy++[[]]⟩ h t (λz=>nomatch z) hk (λm b _=>by
   show (S.lk++[Y 0]).getD m O=_;rw[P,Zl (Ze b)])
  (by show _<=(S.wy++[[]]).length;rw[Zw,l2];exact ZQ _ _)
  (λm R b j g JP q=>by
   have q':(gW ((S.wy++[[]]).getD R []) c).isSome:=q;show (gW ((S.wy++[[]]).getD m []) c).isSome;rw[s R j,H.wy (H.top j) c]at q';rw[s m b,H.wy (H.top b) c];obtain⟨r,f⟩:=Yb.mp q';obtain⟨Z,U⟩:=H.Ny f (g6 c g);rw[U];rfl)
 have hlen:(S.lg++[S.lg.getD h 0+1]).length=S.lg.length+1:=by rw[Zw];rfl
 have W1:=H.wf.more (l:=S.lg.getD h 0+1) (o:=Y 0) (w:=[]) (λm b=>by cases b;exact H.wf.pos) (λd m b=>by cases b) Yt (λp X=>nomatch X);have SI:=Ep hc 1000 _ _ _ _ W1 (by show S.lg.length<(S.lg++[S.lg.getD h 0+1]).length;lia) e1;have lw:(W wd h++[c]).length=(W wd h).length+1:=by rw[Zw];rfl
 have Wn:∀m,W (wd++[W wd h++[c]]) m=if m=wd.length then W wd h++[c] else W wd m:=λm=>bZ wd _ _ m
 have N:W (wd++[W wd h++[c]]) wd.length=W wd h++[c]:=by rw[Wn,Zo M]
 have i:∀{m},m<wd.length->W (wd++[W wd h++[c]]) m=W wd m:=λ{m} b=>by rw[Wn,Zl (Ze b)]
 have d5:(wd++[W wd h++[c]]).length=wd.length+1:=by rw[Zw];rfl
 refine⟨⟨S.lg++[S.lg.getD h 0+1],S.lk++[Y 0],Q⟩,u,e1,?_,by show (S.lk++[Y 0]).getD wd.length O=_;rw[P,Zo M],hlen,λm b g=>?_,λho m b g=>?_,λp X=>?_⟩
 rotate_left
 ·show gW (Q.getD m []) c=_;rw[e3 m c];show (if c=c/\m<wd.length/\W wd m <:+ W wd h/\gW ((S.wy++[[]]).getD m []) c=O then Y S.lg.length else gW ((S.wy++[[]]).getD m []) c)=_;rw[s m b,Zl (λz=>by rw[z.2.2.2]at g;cases g)]
 ·have:=e4 ho m b g;have F:gW ((S.wy++[[]]).getD m []) c=O:=this;rw[s m b]at F;exact F
 ·obtain⟨p1,p2,p3,p4⟩:=e5 p X;have P4:(gW ((S.wy++[[]]).getD p []) c).isSome:=p3;rw[s p p1]at P4;refine⟨p1,p2,P4,λm b g J=>?_⟩;have:=p4 m b g J;have F:gW ((S.wy++[[]]).getD m []) c=O:=this;rw[s m b]at F;exact F
 refine⟨SI,by rw[d5];show _=(S.lg++[S.lg.getD h 0+1]).length;rw[hlen,C],λm b=>?_,dy H.z,by rw[i QZ];exact H.wz,λ{x m} q=>?_,λ{x m} q=>?_,λ{m} b=>?_,λ{x y m} q E n=>?_,λ{x d m} q=>?_,λ{x y m} q E=>?_,?_,λ{m} h0 b TN=>?_,λ{x m} q d=>?_⟩
 ·rw[d5]at b;show (S.lg++[S.lg.getD h 0+1]).getD m 0=_;rw[bZ,C];by_cases e:m=wd.length
  ·rw[Zo e,e,N,H.lg h t,lw]
  ·rw[Zl e,i `am,H.lg m `am]
 ·rw[d5];rcases cH q with z | z
  ·have:=H.lt z;exact Ym this
  ·lia
 ·rcases cH q with z | ⟨rfl,_,z⟩
  ·rw[i (H.lt z)];exact H.sf z
  ·rw[N];exact z
 ·rw[d5]at b;by_cases e:m=wd.length
  ·rw[e,N];exact fL nt (Yf _)
  ·rw[i `am];exact dy (H.top `am)
 ·rcases cH q with z | ⟨rfl,G,z2⟩
  ·rw[i (H.lt z)]at n;exact dy (H.iv z E n)
  ·rw[N]at n;refine fL ?_ n;cases e:nd y with
   |none=>rfl
   |some r =>
    obtain⟨Z,f⟩:=H.Ny e E;rw[G]at f;cases f
 ·rcases cH q with z | ⟨_,_,z⟩
  ·obtain⟨r,f⟩:=H.pre z;exact⟨r,dy f⟩
  ·obtain⟨_,A⟩:=i7 z;obtain⟨r,f⟩:=H.Ny (H.top t) A;exact⟨r,dy f⟩
 ·rcases cH q with z | ⟨_,_,z⟩
  ·obtain⟨r,f⟩:=H.Ny z E;exact⟨r,dy f⟩
  ·cases e:nd x with
   |none=>exact⟨_,fL e (E.trans z)⟩
   |some r=>exact⟨r,dy e⟩
 ·show (S.lk++[Y 0]).getD 0 O=O;rw[P,Zl (by exact Ze QZ)];exact H.Qx
 ·rw[d5]at b;have j:m<wd.length:=by
   have:m≠wd.length:=λe=>TN (by rw[e]);lia
  show ∃q,(S.lk++[Y 0]).getD m O=Y q/\_;rw[P,Zl (Ze j),d5];obtain⟨r,r1,⟨r2,_⟩,r3,r4,r5⟩:=H.lk h0 j (λz=>nomatch z);refine⟨r,r1,⟨by exact Ym r2,λz=>?_⟩,by rw[i r2,i j];exact r3,by rw[i r2,i j];exact r4,λy n J=>?_⟩
  ·have:=Zh z;lia
  ·rw[i j]at n;rw[i r2]at J;exact dy (r5 y n J)
 ·show gW (Q.getD m []) d=_;rw[e3 m d];show (if d=c/\m<wd.length/\W wd m <:+ W wd h/\gW ((S.wy++[[]]).getD m []) c=O then Y S.lg.length else gW ((S.wy++[[]]).getD m []) d)=_;rcases cH q with z | ⟨rfl,G,z2⟩
  ·have b:=H.lt z;rw[s m b,H.wy z c,H.wy z d];cases e:nd (x++[d]) with
   |some r =>
    rw[dy e,Zl];rintro⟨rfl,_,_,a⟩;rw[e]at a;cases a
   |none =>
    by_cases g:x++[d] <:+ W wd h++[c]
    ·obtain⟨rfl,A⟩:=i7 g;obtain⟨R,m1,m2⟩:=H.RR t (λz=>nomatch z) A;rw[z]at m1;cases m1;rw[fL e g,Zo ⟨rfl,b,m2,e⟩,C]
    ·have:iA nd (W wd h++[c]) wd.length (x++[d])=O:=by
      unfold iA;rw[e];exact Zl g
     rw[this,Zl];rintro⟨rfl,_,a,_⟩;exact g (g6 d ((H.sf z).trans a))
  ·rw[Zl (λa=>YA _ a.2.1),KY,Zo M];have e:nd (x++[d])=O:=by
    cases e:nd (x++[d]) with
    |none=>rfl
    |some r =>
     obtain⟨Z,f⟩:=H.pre e;rw[G]at f;cases f
   have:iA nd (W wd h++[c]) wd.length (x++[d])=O:=by
    unfold iA;rw[e];refine Zl λg=>?_;obtain⟨_,A⟩:=i7 g;obtain⟨r,f⟩:=H.Ny (H.top t) A;rw[G]at f;cases f
   rw[this];rfl
def I.fix{f m:Nat}(H:I (Y f) S nd wd)(j:f<wd.length)(b:m<wd.length)(h:W wd m <:+ W wd f)(a:(W wd m).length<(W wd f).length)(g:∀y,y <:+ W wd f->(W wd m).length<y.length->nd y=Y f):I O ⟨S.lg,S.lk.set f (Y m),S.wy⟩ nd wd:=by
 have o:f≠0:=λe=>by
  rw[e,H.wz]at a;simp at a
 have lf:f<S.lk.length:=by rw[H.wf.lk,← H.len];exact j
 refine⟨H.wf.link (by rw[← H.len];exact b),H.len,H.lg,H.z,H.wz,H.lt,H.sf,H.top,H.iv,H.pre,H.Ny,?_,λ{n} l i _=>?_,H.wy⟩
 ·show (S.lk.set f (Y m)).getD 0 O=O;rw[g8,Zl (λz=>o z.1)];exact H.Qx
 ·show ∃q,(S.lk.set f (Y m)).getD n O=Y q/\_;rw[g8];by_cases e:f=n
  ·subst e;rw[Zo ⟨rfl,lf⟩];exact⟨m,rfl,⟨b,λz=>nomatch z⟩,h,a,g⟩
  ·rw[Zl (λz=>e z.1)];obtain⟨r,r1,⟨r2,_⟩,d⟩:=H.lk l i (λz=>e (Zh z).symm);exact⟨r,r1,⟨r2,λz=>nomatch z⟩,d⟩
end
end AU
end
section
namespace AU
structure RK(nd Jg:Wd->Option Nat)(w:Wd):Prop where
 eq:∀{x y m n},Jg x=some m->Jg y=some n->(m=n↔nd x=nd y/\(x <:+ w↔y <:+ w))
section
def I.QA(H:I fr S nd wd){n c old:Nat}(s:n<wd.length)(R:Y n≠fr)(U:97<=c/\c<=122)(p:gW `bi c=Y old)(j:Y old≠fr)(i:fr≠Y wd.length)(Q:(W wd n).length<1000) :
  ∃g r o IU,NC S n c=Y (g,r)/\I fr g o IU/\r<IU.length/\Y r≠fr/\W IU r=W wd n++[c]/\(∀m,m<wd.length->W IU m=W wd m)/\wd.length<=IU.length/\IU.length<=wd.length+1 ∧
   (∀x,(∃m,o x=Y m) ↔ ∃m,nd x=Y m)/\RK nd o (W wd n++[c])/\∀x f,f≠old->nd x=Y f->o x=Y f:=by
 have hw:=H.way s p;have hold:=H.lt hw;have F:=H.sf hw;have lw:(W wd n++[c]).length=(W wd n).length+1:=by rw[Zw];rfl
 by_cases v:S.lg.getD old 0=S.lg.getD n 0+1
 ·have u:W wd old=W wd n++[c]:=by
   have:=v;rw[H.lg old hold,H.lg n s]at this;exact(F.eq_of_length (by rw[lw,this])).symm
  refine⟨S,old,nd,wd,?_,H,hold,j,u,λm _=>rfl,Zp _,XT _,λx=>Iff.rfl,⟨λ{x y m k} b a=>?_⟩,λx f _ h=>h⟩
  ·unfold NC;rw[p,Zs,Zo v]
  ·constructor
   ·rintro rfl;exact⟨by rw[b,a],λh=>by rw[← u]at h ⊢;exact H.all hold j b a h,λh=>by rw[← u]at h ⊢;exact H.all hold j a b h⟩
   ·rintro⟨h,_⟩;rw[b,a]at h;exact Zh h
 ·obtain⟨g,e1,w⟩:=H.split s R U p j i v Q;have E:W (wd++[W wd n++[c]]) wd.length=W wd n++[c]:=(bZ wd _ _ _).trans (Zo M);have X:∀m,m<wd.length->W (wd++[W wd n++[c]]) m=W wd m:=λm N=>(bZ wd _ _ m).trans (Zl (Ze N));have d5:(wd++[W wd n++[c]]).length=wd.length+1:=by rw[Zw];rfl
  have inv:∀{x m},iL nd old ((W wd n).length+1) wd.length x=Y m->(m=wd.length/\nd x=Y old/\x.length<=(W wd n).length+1)\/nd x=Y m:=λ{x m} h=>by
   unfold iL at h;split at h
   ·rename_i q;cases h;exact .inl ⟨rfl,q.1,q.2⟩
   ·exact .inr h
  have d:∀{x},nd x=Y old->(x.length<=(W wd n).length+1↔x <:+ W wd n++[c]):=λ{x} h=>⟨λP=>dg (H.sf h) F (by rw[lw];exact P),λe=>by have:=e.length_le;rw[lw]at this;exact this⟩
  refine⟨g,S.lg.length,_,_,e1,w,by rw[d5,← H.len];exact Yn _,by rw[← H.len];exact λz=>i z.symm,by rw[← H.len];exact E,X,by lia,by exact X2 d5,λx=>⟨λ⟨m,h⟩=>(inv h).elim (λz=>⟨_,z.2.1⟩) λz=>⟨_,z⟩,λ⟨m,h⟩=>?_⟩,⟨λ{x y m k} b a=>?_⟩,λx f t h=>?_⟩
  ·unfold iL;split
   ·exact⟨_,rfl⟩
   ·exact⟨m,h⟩
  ·constructor
   ·rintro rfl;have A:wd.length<(wd++[W wd n++[c]]).length:=by lia
    have D:=λh=>w.all A (λz=>i z.symm) b a h;have C:=λh=>w.all A (λz=>i z.symm) a b h;rw[E]at D C;refine⟨?_,D,C⟩;rcases inv b with⟨Z,G,_⟩ | z
    ·rcases inv a with⟨_,J,_⟩ | y
     ·rw[G,J]
     ·have:=H.lt y;lia
    ·rcases inv a with⟨y1,_,_⟩ | y
     ·have:=H.lt z;lia
     ·rw[z,y]
   ·rintro⟨h,e⟩;have:iL nd old ((W wd n).length+1) wd.length x=iL nd old ((W wd n).length+1) wd.length y:=by
     unfold iL;rw[h];by_cases q:nd y=Y old
     ·have e1:=d (show nd x=Y old by rw[h,q]);have e2:=d q;by_cases l:y.length<=(W wd n).length+1
      ·rw[Zo ⟨q,e1.mpr (e.mpr (e2.mp l))⟩,Zo ⟨q,l⟩]
      ·rw[Zl (λz=>l (e2.mpr (e.mp (e1.mp z.2)))),Zl (λz=>l z.2)]
     ·rw[Zl (λz=>q z.1),Zl (λz=>q z.1)]
    rw[b,a]at this;exact Zh this
  ·unfold iL;rw[Zl (λz=>t (by rw[h]at z;exact Zh z.1))];exact h
end
section
def I.step(H:I O S nd wd)(A:h<wd.length)(hc:97<=c/\c<=122)(hk:(W wd h).length+1<1000) :
  ∃S' r u IU,hb S h c=Y (S',r)/\I O S' u IU/\r<IU.length/\W IU r=W wd h++[c]/\(∀m,m<wd.length->W IU m=W wd m)/\wd.length<=IU.length/\IU.length<=wd.length+2 ∧
   (∀x,(∃m,u x=Y m)↔(∃m,nd x=Y m)\/x <:+ W wd h++[c])/\RK nd u (W wd h++[c]):=by
 cases hg:gW (S.wy.getD h []) c with
 |some old =>
  obtain⟨S',r,u,IU,e,H',h1,_,h2,h3,h4,h5,h6,h7,_⟩:=H.QA A (λz=>nomatch z) hc hg (λz=>nomatch z) (λz=>nomatch z) (by exact XH hk);refine⟨S',r,u,IU,?_,H',h1,h2,h3,h4,by exact VF h5,λx=>(h6 x).trans ⟨.inl,λz=>z.elim id λz=>H.Ny (H.way A hg) z⟩,h7⟩;unfold hb;rw[hg];exact e
 |none =>
  have G:S.lg.length=wd.length:=H.len.symm;obtain⟨o,o',e1,v,k0,k1,k2,k3,k4⟩:=H.fresh A hc hg (by exact XH hk);have Z:W (wd++[W wd h++[c]]) wd.length=W wd h++[c]:=(bZ wd _ _ _).trans (Zo M);have X:∀m,m<wd.length->W (wd++[W wd h++[c]]) m=W wd m:=λm hm=>(bZ wd _ _ m).trans (Zl (Ze hm));have d5:(wd++[W wd h++[c]]).length=wd.length+1:=by rw[Zw];rfl
  have lw:(W wd h++[c]).length=(W wd h).length+1:=by rw[Zw];rfl
  have nt:nd (W wd h++[c])=O:=by rw[← H.wy (H.top A) c];exact hg
  have ex:∀x,(∃m,iA nd (W wd h++[c]) wd.length x=Y m)↔(∃m,nd x=Y m)\/x <:+ W wd h++[c]:=λx=>⟨λ⟨m,q⟩=>(cH q).elim (λz=>.inl ⟨_,z⟩) λz=>.inr z.2.2,λq=>by
   cases e:nd x with
   |some m=>exact⟨m,dy e⟩
   |none=>exact q.elim (λ⟨m,z⟩=>by rw[e]at z;cases z) λz=>⟨_,fL e z⟩⟩
  have same:∀{x y m n},iA nd (W wd h++[c]) wd.length x=Y m->iA nd (W wd h++[c]) wd.length y=Y n->(m=n↔nd x=nd y):=λ{x y m n} s j=>by
   rcases cH s with z | ⟨z1,z2,_⟩
   ·rcases cH j with i | ⟨y1,y2,_⟩
    ·rw[z,i];exact⟨λe=>by rw[e],λe=>Zh e⟩
    ·have:=H.lt z;refine⟨λe=>by lia,λe=>?_⟩;rw[z,y2]at e;cases e
   ·rcases cH j with i | ⟨y1,y2,_⟩
    ·have:=H.lt i;refine⟨λe=>by lia,λe=>?_⟩;rw[z2,i]at e;cases e
    ·exact⟨λ_=>by rw[z2,y2],λ_=>by rw[z1,y1]⟩
  have NY:∀{y},y <:+ W wd h++[c]->y≠[]->∀{q},nd y=Y q->∃i m,y=i++[c]/\i <:+ W wd h/\nd i=Y m/\m<wd.length/\W wd m <:+ W wd h/\(gW (S.wy.getD m []) c).isSome:=λ{y} d Js {q} Q=>by
   obtain⟨i,rfl,OG⟩:=zM d Js;obtain⟨m,E,m2⟩:=H.RR A (λz=>nomatch z) OG;exact⟨i,m,rfl,OG,E,H.lt E,m2,by rw[H.wy E c,Q];rfl⟩
  unfold hb;rw[hg,Zl (by simp),e1];cases o' with
  |none =>
   have w:=k3 M;have none_:∀{y},y <:+ W wd h++[c]->y≠[]->nd y=O:=λ{y} d Js=>by
    cases e:nd y with
    |none=>rfl
    |some q =>
     obtain⟨i,m,_,_,_,m3,m4,D⟩:=NY d Js e;rw[w m m3 m4]at D;cases D
   have H3:=v.fix (f:=wd.length) (m:=0) `am `am (by rw[v.wz];exact WM) (by rw[v.wz,Z,lw];exact Nat.succ_pos _) (λy d g=>by
    rw[Z]at d;rw[v.wz]at g;exact fL (none_ d (λe=>by rw[e]at g;cases g)) d)
   have eS:(⟨o.lg,o.lk.set wd.length (Y 0),o.wy⟩:St)=o:=by
    have g:wd.length<o.lk.length:=by rw[v.wf.lk,← v.len,d5];exact Yn _
    have:o.lk.set wd.length (Y 0)=o.lk:=by
     rw[Zr,Zq g,WX]at k0;rw[← k0];exact Vk g
    rw[this]
   rw[eS]at H3;refine⟨o,S.lg.length,_,_,rfl,H3,by rw[d5,G];exact Yn _,by rw[G];exact Z,X,by lia,by lia,ex,⟨λ{x y m n} s j=>?_⟩⟩;rw[same s j];refine⟨λe=>⟨e,?_⟩,λe=>e.1⟩;have key:∀{x y m n},iA nd (W wd h++[c]) wd.length x=Y m->iA nd (W wd h++[c]) wd.length y=Y n->nd x=nd y->x <:+ W wd h++[c]->y <:+ W wd h++[c]:=λ{x y m n} s j e hx=>by
    rcases cH j with z | z
    ·rw[z]at e;by_cases Pj:x=[]
     ·subst Pj;rw[H.z]at e;cases e;rw[H.zero z];exact WM
     ·rw[none_ hx Pj]at e;cases e
    ·exact z.2.2
   exact⟨key s j e,key j s e.symm⟩
  |some p =>
   obtain⟨C,P,p3,p4⟩:=k4 p M;obtain⟨old,R⟩:=Yb.mp p3;have ho2:gW (o.wy.getD p []) c=Y old:=by rw[k2 p C p3];exact R
   have P9:=H.way C R;have hold:=H.lt P9;have ph:(W wd p).length<(W wd h).length:=by
    rcases Nat.lt_or_eq_of_le P.length_le with l | l
    ·exact l
    ·have:=H.inj C A (P.eq_of_length l);rw[this,hg]at R;cases R
   obtain⟨S3,r,u,IU,f1,H3,f2,f2',U,f4,f5,f6,f7,f8,f9⟩:=v.QA (n:=p) (c:=c) (old:=old) `am (λz=>by have:=Zh z;lia) hc ho2 (λz=>by have:=Zh z;lia) (λz=>by have:=Zh z;lia) (by rw[X p C];lia);rw[X p C]at U f8;have Tp:(W wd p++[c]).length=(W wd p).length+1:=by rw[Zw];rfl
   have Sy:W IU wd.length=W wd h++[c]:=by rw[f4 _ `am,Z]
   have none_:∀{y},y <:+ W wd h++[c]->(W wd p).length+1<y.length->nd y=O:=λ{y} d g=>by
    cases e:nd y with
    |none=>rfl
    |some q =>
     obtain⟨i,m,rfl,E,m2,m3,m4,D⟩:=NY d (λe=>by rw[e]at g;cases g) e;have l1:=(H.sf m2).length_le;rw[Zw,LI]at g;rw[p4 m m3 m4 `am]at D;cases D
   have H4:=H3.fix (f:=wd.length) (m:=r) `am f2 (by rw[U,Sy];exact g6 c P) (by rw[U,Sy,Tp,lw];exact Nat.succ_lt_succ ph) (λy d g=>by
    rw[Sy]at d;rw[U,Tp]at g;exact f9 y wd.length (by exact XS hold) (fL (none_ d g) d))
   refine⟨⟨S3.lg,S3.lk.set S.lg.length (Y r),S3.wy⟩,S.lg.length,u,IU,?_,by rw[G];exact H4,by rw[G];lia,by rw[G];exact Sy,λm hm=>by rw[f4 m `am,X m hm],by lia,by lia,λx=>(f7 x).trans (ex x),⟨λ{x y m n} s j=>?_⟩⟩
   ·show (NC o p c).map _=_;rw[f1];rfl
   ·rw[f8.eq s j];obtain⟨E,N⟩:=(f7 x).mp ⟨m,s⟩;obtain⟨n1,J⟩:=(f7 y).mp ⟨n,j⟩;have e1:iA nd (W wd h++[c]) wd.length x=iA nd (W wd h++[c]) wd.length y↔nd x=nd y:=by
     rw[N,J];exact⟨λe=>(same N J).mp (Zh e),λe=>by rw[(same N J).mpr e]⟩
    rw[e1];have sw:W wd p++[c] <:+ W wd h++[c]:=g6 c P;have w:∀{z q},nd z=Y q->(z <:+ W wd h++[c]↔z <:+ W wd p++[c]):=λ{z q} F=>⟨λa=>dg a sw (by
     rw[Tp];refine ZK λb=>?_;rw[none_ a b]at F;cases F),λa=>a.trans sw⟩
    have un:∀{z q},nd z=O->iA nd (W wd h++[c]) wd.length z=Y q->z <:+ W wd h++[c]/\¬z <:+ W wd p++[c]:=λ{z q} F a=>by
     rcases cH a with b | b
     ·rw[F]at b;cases b
     ·refine⟨b.2.2,λa=>?_⟩;obtain⟨q',Q⟩:=H.Ny P9 a;rw[F]at Q;cases Q
    refine⟨λ⟨a,b⟩=>⟨a,?_⟩,λ⟨a,b⟩=>⟨a,?_⟩⟩
    ·cases t:nd x with
     |some q=>rw[w t,w (show nd y=Y q by rw[← a,t])];exact b
     |none =>
      have u1:=un t N;have u2:=un (show nd y=O by rw[← a,t]) J;exact⟨λ_=>u2.1,λ_=>u1.1⟩
    ·cases t:nd x with
     |some q=>rw[← w t,← w (show nd y=Y q by rw[← a,t])];exact b
     |none =>
      have u1:=un t N;have u2:=un (show nd y=O by rw[← a,t]) J;exact⟨λz=>absurd z u1.2,λz=>absurd z u2.2⟩
end
structure K(P:Wd->Prop)(S:St)(nd:Wd->Option Nat)(wd:List Wd):Prop where
 i:I none S nd wd
 nil:P []
 some:∀x,(∃m,nd x=some m) ↔ ∃p,P p/\x <:+ p
 eq:∀{x y m n},nd x=.some m->nd y=.some n->(m=n ↔ ∀p,P p->(x <:+ p↔y <:+ p))
def K.congr(H:K P S b a)(h:∀p,P p↔Q p):K Q S b a:=by
 have:P=Q:=funext λp=>propext (h p);rw[← this];exact H
noncomputable def Tf(x:Wd):Option Nat:=if x=[] then Y 0 else O
def fE(h:Tf x=Y n):x=[]/\n=0:=by
 unfold Tf at h;split at h
 ·exact⟨by assumption,(Zh h).symm⟩
 ·cases h
def K0:K (λp=>p=[]) S0 Tf [[]]:=by
 refine⟨⟨Dj,rfl,λn d=>?_,rfl,rfl,λ{x n} h=>?_,λ{x n} h=>?_,λ{n} d=>?_,λ{x y n} h b a=>?_,λ{x c n} h=>?_,λ{x y n} h b=>?_,rfl,λ{n} b a=>?_,λ{x n} h c=>?_⟩,rfl,λx=>?_,λ{x y m n} b a=>?_⟩
 ·have:n=0:=Nat.lt_one_iff.mp d;subst this;rfl
 ·rw[(fE h).2];exact Nat.one_pos
 ·rw[(fE h).1];exact WM
 ·have:n=0:=Nat.lt_one_iff.mp d;subst this;rfl
 ·have e:=(fE h).2;subst e;have:y=[]:=Xh.mp a;subst this;rfl
 ·have:=(fE h).1;exact absurd this (by simp)
 ·have e:=(fE h).1;subst e;have:x=[]:=Xh.mp b;subst this;exact⟨0,rfl⟩
 ·have:n<1:=a;lia
 ·have e:=fE h;obtain⟨rfl,rfl⟩:=e;rfl
 ·constructor
  ·rintro⟨m,h⟩;exact⟨[],rfl,by rw[(fE h).1];exact WM⟩
  ·rintro⟨p,rfl,h⟩;have:x=[]:=Xh.mp h;subst this;exact⟨0,rfl⟩
 ·obtain⟨rfl,rfl⟩:=fE b;obtain⟨rfl,rfl⟩:=fE a;exact⟨λ_ _ _=>Iff.rfl,λ_=>rfl⟩
section
theorem K.step(H:K P S nd wd)(w:h<wd.length)(A:97<=c/\c<=122)(v:(W wd h).length+1<1000) :
  ∃g r j IU,hb S h c=.some (g,r)/\K (λp=>P p\/p=W wd h++[c]) g j IU/\r<IU.length/\W IU r=W wd h++[c]/\(∀m,m<wd.length->W IU m=W wd m)/\wd.length<=IU.length/\IU.length<=wd.length+2:=by
 obtain⟨g,r,j,IU,e,N,J,G,F,E,D,t,C⟩:=H.i.step w A v;refine⟨g,r,j,IU,e,⟨N,.inl H.nil,λx=>?_,λ{x y m n} s o=>?_⟩,J,G,F,E,D⟩
 ·rw[t,H.some];constructor
  ·rintro (⟨p,a,b⟩ | a)
   ·exact⟨p,.inl a,b⟩
   ·exact⟨_,.inr M,a⟩
  ·rintro⟨p,a | rfl,b⟩
   ·exact .inl ⟨p,a,b⟩
   ·exact .inr b
 ·rw[C.eq s o];have un:∀{z q},j z=.some q->nd z=O->z <:+ W wd h++[c]/\∀p,P p->¬z <:+ p:=λ{z q} a b=>⟨((t z).mp ⟨q,a⟩).elim (λ⟨m,x⟩=>by rw[b]at x;cases x) id,λp d u=>by
   obtain⟨m,x⟩:=(H.some z).mpr ⟨p,d,u⟩;rw[b]at x;cases x⟩
  have old:nd x=nd y ↔ ∀p,P p->(x <:+ p↔y <:+ p):=by
   cases ex:nd x with
   |some a =>
    cases f:nd y with
    |some b=>exact⟨λe=>(H.eq ex f).mp (Zh e),λe=>by rw[(H.eq ex f).mpr e]⟩
    |none =>
     refine⟨λe=>(nomatch e),λe=>?_⟩;obtain⟨p,d,l⟩:=(H.some x).mp ⟨a,ex⟩;exact absurd ((e p d).mp l) ((un o f).2 p d)
   |none =>
    cases f:nd y with
    |some b =>
     refine⟨λe=>(nomatch e),λe=>?_⟩;obtain⟨p,d,l⟩:=(H.some y).mp ⟨b,f⟩;exact absurd ((e p d).mpr l) ((un s ex).2 p d)
    |none=>exact⟨λ_ p d=>⟨λz=>absurd z ((un s ex).2 p d),λz=>absurd z ((un o f).2 p d)⟩,λ_=>rfl⟩
  rw[old];constructor
  ·rintro⟨a,b⟩ p (d | rfl)
   ·exact a p d
   ·exact b
  ·intro a;exact⟨λp d=>a p (.inl d),a _ (.inr M)⟩
end
def K.grow:∀(w:Vu){P:Wd->Prop}{S:St}{nd:Wd->Option Nat}{b:List Wd}(H:K P S nd b){h:Nat},h<b.length->P (W b h)->(∀c∈w,97<=c/\c<=122)->(W b h).length+w.length<1000 →
  ∃n r F IU,hg S h w=.some (n,r)/\K (λp=>P p\/∃v,v <+: w/\p=W b h++v) n F IU/\r<IU.length/\W IU r=W b h++w/\(∀m,m<b.length->W IU m=W b m)/\b.length<=IU.length/\IU.length<=b.length+2*w.length:=by
 intro w
 induction w with
 |nil =>
  intro P S nd b H h g f hw j;refine⟨S,h,nd,b,rfl,H.congr λp=>⟨.inl,?_⟩,g,(ZE _).symm,λ_ _=>rfl,Zp _,Zp _⟩;rintro (a | ⟨v,a,rfl⟩)
  ·exact a
  ·rw[List.prefix_nil.mp a,ZE];exact f
 |cons c w q =>
  intro P S nd b H h g f hw j;rw[Zg]at j;obtain⟨Q,r1,R,o,e1,J,z,e,y,l,N⟩:=H.step g (hw c Zx) `am;obtain⟨D,r2,E,C,e2,G,x,u,t,s,M⟩:=q J z (.inr e) (λd hd=>hw d (Zv _ hd)) (by rw[e,Zw,LI];lia);refine⟨D,r2,E,C,?_,G.congr λp=>?_,x,?_,λm i=>by rw[t m (by exact ZZ i l),y m i],by exact ZL l s,by rw[Zg];lia⟩
  ·show (hb S h c).bind _=_;rw[e1];exact e2
  ·rw[e];constructor
   ·rintro ((a | rfl) | ⟨v,a,rfl⟩)
    ·exact .inl a
    ·exact .inr ⟨[c],Vj.mpr ⟨rfl,List.nil_prefix⟩,rfl⟩
    ·exact .inr ⟨c :: v,Vj.mpr ⟨rfl,a⟩,by rw[Zf];rfl⟩
   ·rintro (a | ⟨v,a,rfl⟩)
    ·exact .inl (.inl a)
    ·cases v with
     |nil=>rw[ZE];exact .inl (.inl f)
     |cons d v =>
      obtain⟨rfl,A⟩:=Vj.mp a;exact .inr ⟨v,A,by rw[Zf];rfl⟩
  ·rw[u,e,Zf];rfl
def mB(S:St):List Wd->Option St
 |[]=>Y S
 |t :: b=>(hg S 0 t).bind λz=>mB z.1 b
def K.book:∀(b:List Wd){P:Wd->Prop}{S:St}{nd:Wd->Option Nat}{d:List Wd}(H:K P S nd d),(∀t∈b,∀c∈t,97<=c/\c<=122)->(∀t∈b,t.length<1000) →
  ∃j x IU,mB S b=.some j/\K (λp=>P p\/∃t∈b,p <+: t) j x IU/\d.length<=IU.length/\IU.length<=d.length+2*(b.map List.length).sum:=by
 intro b
 induction b with
 |nil =>
  intro P S nd d H _ _;refine⟨S,nd,d,rfl,H.congr λp=>⟨.inl,?_⟩,Zp _,ZQ _ _⟩;rintro (a | ⟨t,f,_⟩)
  ·exact a
  ·cases f
 |cons t b m =>
  intro P S nd d H h g;have n:0<d.length:=H.i.lt H.i.z;obtain⟨J,r1,M,l,e1,A,G,F,E,q,D⟩:=H.grow t n (by rw[H.i.wz];exact H.nil) (h t Zx) (by rw[H.i.wz];have:=g t Zx;simpa using this);obtain⟨s,w,r,e2,y,o,C⟩:=m A (λt f=>h t (Zv _ f)) (λt f=>g t (Zv _ f));refine⟨s,w,r,?_,y.congr λp=>?_,by exact ZL q o,by rw[Zc,X9];lia⟩
  ·show (hg S 0 t).bind _=_;rw[e1];exact e2
  ·rw[H.i.wz];constructor
   ·rintro ((a | ⟨v,a,rfl⟩) | ⟨u,e,a⟩)
    ·exact .inl a
    ·exact .inr ⟨t,Zx,a⟩
    ·exact .inr ⟨u,Zv _ e,a⟩
   ·rintro (a | ⟨u,e,a⟩)
    ·exact .inl (.inl a)
    ·rcases Zj.mp e with rfl | e
     ·exact .inl (.inr ⟨p,a,rfl⟩)
     ·exact .inr ⟨u,e,a⟩
noncomputable def Hd(b:List Wd)(p:Wd):Prop:=p=[]\/∃t∈b,p <+: t
def K.of(b:List Wd)(f:∀t∈b,∀c∈t,97<=c/\c<=122)(d:∀t∈b,t.length<1000):∃S nd a,mB S0 b=.some S/\K (Hd b) S nd a/\a.length<=1+2*(b.map List.length).sum:=by
 obtain⟨S,nd,a,e,H,_,l⟩:=K0.book b f d;exact⟨S,nd,a,e,H,l⟩
def sk(w:List (Nat×Nat)):Vu:=(List.range' 97 26).filter λc=>(gW w c).isSome
def visit(w:List (Nat×Nat)):Vu->Vu->Vu
 |[],met=>met
 |c :: r,met=>visit w r (if (gW w c).getD 0∈met then met else met++[(gW w c).getD 0])
def LW(S:St):Nat->Vu->Nat->Option (Vu)
 |k,met,d=>if d<met.length then (match k with
  |0=>O
  |k+1=>LW S k (visit (S.wy.getD (met.getD d 0) []) (sk (S.wy.getD (met.getD d 0) [])) met) (d+1)) else Y met
def steps(S:St)(a:Vu)(n:Nat):List (Nat×Nat):=(sk `bi).map λc=>(c,a.idxOf ((gW `bi c).getD 0))
noncomputable abbrev Row:=Nat×Nat×Option Nat×List (Nat×Nat)
def row(S:St)(a:Vu)(n:Nat):Row:=match S.lk.getD n O with
 |none=>(0,0,O,steps S a n)
 |some l=>(S.lg.getD l 0+1,S.lg.getD n 0,Y (a.idxOf l),steps S a n)
def tab(S:St)(a:Vu):List Row:=a.map (row S a)
section
def nG(h:c∈sk w):∃m,gW w c=Y m:=Yb.mp (Y4.mp h).2
theorem mV(hw:∀c m,gW w c=Y m->m<N):∀(r met:Vu),(∀c∈r,∃m,gW w c=Y m)->(∀x∈met,x<N)->∀x∈visit w r met,x<N
 |[],met,_,a=>a
 |c :: r,met,b,a=>by
  refine mV hw r _ (λd hd=>b d (Zv _ hd)) ?_;obtain⟨m,e⟩:=b c Zx;rw[e,WX];split
  ·exact a
  ·intro x g;rcases Zi.mp g with h | h
   ·exact a x h
   ·rw[Zk.mp h];exact hw c m e
def getD_mem{l:Vu}(h:d<l.length):l.getD d 0∈l:=by
 rw[Zr,Zq h];exact Ys h
end
theorem k6{w:List (Nat×Nat)}:∀(r met:Vu),∃l,visit w r met=met++l
 |[],met=>⟨[],(ZE _).symm⟩
 |c :: r,met=>by
  obtain⟨l,e⟩:=k6 (w:=w) r (if (gW w c).getD 0∈met then met else met++[(gW w c).getD 0]);show ∃l,visit w r _=_;rw[e];split
  ·exact⟨l,rfl⟩
  ·exact⟨_,Zf _ _ _⟩
theorem n8{w:List (Nat×Nat)}:∀(r met:Vu),met.Nodup->(visit w r met).Nodup
 |[],met,h=>h
 |c :: r,met,h=>by
  refine n8 (w:=w) r _ ?_;split
  ·exact h
  ·rename_i q;rw[ZG];refine⟨h,by simp,λa d b hb e=>q ?_⟩;rw[Zk.mp hb]at e;rw[← e];exact d
theorem pC{w:List (Nat×Nat)}:∀(r met:Vu),∀c∈r,(gW w c).getD 0∈visit w r met
 |d :: r,met,c,a=>by
  rcases Zj.mp a with rfl | a
  ·obtain⟨l,e⟩:=k6 (w:=w) r (if (gW w c).getD 0∈met then met else met++[(gW w c).getD 0]);show _∈visit w r _;rw[e];refine LH _ ?_;split
   ·assumption
   ·exact ZX _ Zx
  ·exact pC r _ c a
def zg(d:∀p∈w,97<=p.1/\p.1<=122)(h:gW w c=Y m):c∈sk w:=by
 refine Y4.mpr ⟨?_,by rw[h];rfl⟩;unfold gW at h;obtain⟨p,a,_⟩:=Zy.mp h;have e:=List.find?_some a;have:=d p (List.mem_of_find?_eq_some a);have b:p.1=c:=by simpa using e
 rw[b]at this;rw[VB];lia
def EK(o:WF S):∀(k:Nat)(met:Vu)(d:Nat),met.Nodup->(∀x∈met,x<S.lg.length)->d<=met.length->S.lg.length<=k+d->(∀i,i<d->∀c m,gW (S.wy.getD (met.getD i 0) []) c=Y m->m∈met) →
  ∃l,LW S k met d=Y (met++l)/\(met++l).Nodup/\(∀x∈met++l,x<S.lg.length)/\∀n∈met++l,∀c m,gW `bi c=Y m->m∈met++l:=by
 intro k;have fin:∀(met:Vu)(d:Nat),¬d<met.length->d<=met.length->(∀i,i<d->∀c m,gW (S.wy.getD (met.getD i 0) []) c=Y m->m∈met)->∀n∈met,∀c m,gW `bi c=Y m->m∈met:=by
  intro met d f b h n t c m e;obtain⟨i,g,q⟩:=List.mem_iff_getElem.mp t;refine h i `am c m ?_;have:met.getD i 0=n:=by rw[Zr,Zq g,q];rfl
  rw[this];exact e
 induction k with
 |zero =>
  intro met d nd lt hd u h;have z:met.length<=S.lg.length:=by
   have:=sub_len met (List.range S.lg.length) nd λx s=>YV.mpr (lt x s)
   rwa [ZC]at this
  have a:¬d<met.length:=by lia
  refine⟨[],?_,?_⟩
  ·unfold LW;rw[Zl a,ZE]
  ·rw[ZE];exact⟨nd,lt,fin met d a hd h⟩
 |succ k r =>
  intro met d nd lt hd u h;by_cases a:d<met.length
  ·obtain⟨p,e1⟩:=k6 (w:=S.wy.getD (met.getD d 0) []) (sk (S.wy.getD (met.getD d 0) [])) met;obtain⟨l,e,f,b,j⟩:=r (visit (S.wy.getD (met.getD d 0) []) (sk (S.wy.getD (met.getD d 0) [])) met) (d+1) (n8 _ _ nd) (mV (λc m e=>o.on _ c m e) _ _ (λc v=>nG v) lt) (by rw[e1,Zw];lia) `am (λi g c m e=>by
    have y:(visit (S.wy.getD (met.getD d 0) []) (sk (S.wy.getD (met.getD d 0) [])) met).getD i 0=met.getD i 0:=by
     rw[e1,Zr,Zr,Mu `am]
    rw[y]at e;by_cases q:i=d
    ·subst q;have:=pC (w:=S.wy.getD (met.getD i 0) []) (sk (S.wy.getD (met.getD i 0) [])) met c (zg (o.PH _).2 e);rw[e]at this;exact this
    ·rw[e1];exact LH _ (h i `am c m e))
   rw[e1,Zf]at f b j;refine⟨p++l,?_,f,b,j⟩;unfold LW;rw[Zo a];show LW S k _ (d+1)=_;rw[e,e1,Zf]
  ·refine⟨[],?_,?_⟩
   ·unfold LW;rw[Zl a,ZE]
   ·rw[ZE];exact⟨nd,lt,fin met d a hd h⟩
def CG{α:Type}{p:List α->Prop}(h0:p [])(h1:∀l a,p l->p (l++[a]))(l:List α):p l:=by
 have:∀l:List α,p l.reverse:=by
  intro l
  induction l with
  |nil=>exact h0
  |cons a l ih=>rw[List.reverse_cons];exact h1 _ a ih
 rw[← List.reverse_reverse l];exact this _
def K.met(H:K P S nd wd){k:Nat}(hk:wd.length<=k):∃l,LW S k [0] 0=Y (0 :: l)/\(0 :: l).Nodup/\(∀x,x∈0 :: l↔x<wd.length)/\(0 :: l).length=wd.length:=by
 have L:S.lg.length=wd.length:=H.i.len.symm;obtain⟨l,e,h1,h2,h3⟩:=EK H.i.wf k [0] 0 (by simp) (λx hx=>by rw[Zk.mp hx];exact H.i.wf.pos) (ZD _) `am (λi hi=>absurd hi (Nat.not_lt_zero _));have h0:∀(x:Wd) n,nd x=Y n->n∈0 :: l:=by
  intro x
  induction x using CG with
  |h0=>intro n e;rw[H.i.z]at e;cases e;exact Zx
  |h1 x c ih =>
   intro n e;obtain⟨m,hm⟩:=H.i.pre e;exact h3 m (ih m hm) c n (by rw[H.i.wy hm];exact e)
 have hx:∀x,x∈0 :: l↔x<wd.length:=λx=>⟨λz=>by rw[← L];exact h2 x z,λz=>h0 _ x (H.i.top z)⟩
 refine⟨l,e,h1,hx,Y3 ?_ ?_⟩
 ·have:=sub_len (0 :: l) (List.range wd.length) h1 λx z=>YV.mpr ((hx x).mp z)
  rwa [ZC]at this
 ·have:=sub_len (List.range wd.length) (0 :: l) List.nodup_range λx z=>(hx x).mpr (YV.mp z)
  rwa [ZC]at this
end AU
end
section
namespace T39
open VS AU
def Bb(w:List (Nat×Nat))(c:Nat):c∈w.map (·.1)↔(gW w c).isSome=L:=by
 rw[← EG,Xm,JD];exact⟨λ⟨p,b,a⟩=>⟨p,b,by rw[a];exact beq_self_eq_true c⟩,λ⟨p,b,a⟩=>⟨p,b,by simpa using a⟩⟩
def vT{w:List (Nat×Nat)}(a:(w.map (·.1)).Nodup)(b:∀p∈w,97<=p.1/\p.1<=122):(sk w).Perm (w.map (·.1)):=by
 refine(List.perm_ext_iff_of_nodup ?_ a).mpr λc=>?_
 ·exact List.Nodup.sublist VU List.nodup_range'
 ·rw[Bb];constructor
  ·intro h;exact(Y4.mp h).2
  ·intro h;obtain⟨m,e⟩:=Yb.mp h;exact zg b e
def yp{w:List (Nat×Nat)}(e:(w.map (·.1)).Nodup)(d:∀p∈w,97<=p.1/\p.1<=122):gI [(m,ID w)]=Y (.fr,.lst ((sk w).map λc=>T.str [c])):=by
 show ((strs? ((w.map λp=>(T.str [p.1],T.int (p.2:Int))).map (·.1))).bind _)=_;have e1:(w.map λp=>(T.str [p.1],T.int (p.2:Int))).map (·.1)=(w.map (·.1)).map λc=>T.str [c]:=by
  rw[Yp,Yp];rfl
 rw[e1,strs_map (λc=>[c]),Zs,Zo]
 ·have:(sk w).map (λc=>[c])=cU ((w.map (·.1)).map λc=>[c]):=by
   refine pf ((vT e d).map _) ?_;rw[Vz];refine List.Pairwise.imp ?_ (List.Pairwise.filter _ (List.pairwise_lt_range' (s:=97) (n:=26)));intro a b j h;rcases Y9.mp h with h | ⟨_,h⟩
   ·omega
   ·exact absurd h (List.not_lt_nil _)
  rw[← this,Yp];rfl
 ·refine⟨?_,Yr.mpr ?_⟩
  ·rw[Zt,← (vT e d).length_eq];have:(sk w).length<=(List.range' 97 26).length:=Xk _ _;rw[W3]at this;omega
  intro s f;obtain⟨c,i,rfl⟩:=JD.mp f;obtain⟨p,g,rfl⟩:=JD.mp i;have:=d p g;show (decide (1<=dZ)&&(decide (p.1<1114112)&&L))=L;rw[decide_eq_true (show p.1<1114112 by omega)];rfl
noncomputable def nE:Nat->Vu->List (T×T)
 |_,[]=>[]
 |k,n :: r=>(T.int (n:Int),T.int (k:Int)) :: nE (k+1) r
theorem AS:∀(met:Vu)(k:Nat),(nE k met).length=met.length
 |[],_=>rfl
 |_ :: r,k=>by rw[nE,Zg,Zg,AS r]
theorem qC:∀(met:Vu)(k:Nat),(nE k met).map (·.1)=met.map λ(n:Nat)=>T.int (n:Int)
 |[],_=>rfl
 |_ :: r,k=>by rw[nE,Zc,Zc,qC r]
theorem zL:∀(met:Vu)(k n:Nat),nE k (met++[n])=nE k met++[(T.int (n:Int),T.int ((k+met.length:Nat):Int))]
 |[],k,n=>rfl
 |m :: r,k,n=>by
  rw[YB,nE,nE,zL r (k+1) n,Zg,YB];rw[show k+1+r.length=k+(r.length+1) by omega]
def HX(a b:Nat):eqT (.int (a:Int)) (.int (b:Int))=(a==b):=by
 simp only[eqT];by_cases h:a=b
 ·simp[h]
 ·have d:¬(a:Int)=(b:Int):=by omega
  rw[KS.mpr h,KS.mpr d]
theorem qR:∀(met:Vu)(k n:Nat),fq (nE k met) (.int (n:Int))=if n∈met then Y (T.int ((k+met.idxOf n:Nat):Int)) else O
 |[],_,_=>rfl
 |m :: r,k,n=>by
  show ((((T.int (m:Int),T.int (k:Int)) :: nE (k+1) r).find? λp=>eqT p.1 (.int (n:Int))).map (·.2))=_;rw[Yq];simp only[HX];by_cases h:m=n
  ·subst h;simp[List.idxOf_cons]
  ·have hb:(m==n)=B:=KS.mpr h;have a:=qR r (k+1) n;unfold fq at a;simp only[hb];rw[a,List.idxOf_cons,hb];by_cases q:n∈r
   ·rw[Zo q,Zo (Zv _ q)];show Y (T.int ((k+1+r.idxOf n:Nat):Int))=Y (T.int ((k+(r.idxOf n+1):Nat):Int));rw[show k+1+r.idxOf n=k+(r.idxOf n+1) by omega]
   ·rw[Zl q,Zl (λz=>(Zj.mp z).elim (λe=>h e.symm) q)]
def E5(a:Vu)(n:Nat)(h:n∉a):dput (nE 0 a) (.int (n:Int)) (.int (a.length:Int))=nE 0 (a++[n]):=by
 unfold dput;rw[Zl,zL]
 ·rw[Xg]
 ·intro z;obtain⟨p,b,e⟩:=Xm.mp z;have:(fq (nE 0 a) (.int (n:Int))).isSome=L:=by
   unfold fq;rw[Xu,List.find?_isSome];exact⟨p,b,e⟩
  rw[qR,Zl h]at this;cases this
def nT(met:Vu):T:=.dct 0 (nE 0 met)
noncomputable def mT(met:Vu):T:=.lst (met.map λ(n:Nat)=>T.int (n:Int))
def Dr{m k:Md}{met:Vu}{n:Nat}(h:a U=Y (m,nT met))(he:e U=Y (k,.int (n:Int))):e2 cR e a U=Y (.fr,.bl (decide (n∉met))):=e2v he h (by
 show (match (if L=L then Y (Md.fr,T.bl (fq (nE 0 met) (.int (n:Int))).isSome) else O) with | some (_,.bl b)=>some (Md.fr,T.bl (!b)) | _=>none)=_;rw[Zo M,qR];by_cases q:n∈met
 ·rw[Zo q,ZM (λz=>z q)];rfl
 ·rw[Zl q,decide_eq_true q];rfl)
section
theorem yY{d:Nat}{ob:Uw}:∀(r met:Vu)(z:Uw),(∀c∈r,∃m,gW w c=Y m)->met.length+r.length<16777216->∃a,forL (aY 5) bj (r.map λc=>T.str [c]) [ob,oc (nT met),oc (mT met),Q0 (d:Int),pc (ID w),z]=Y (.nx [ob,oc (nT (visit w r met)),oc (mT (visit w r met)),Q0 (d:Int),pc (ID w),a])
 |[],met,z,_,_=>⟨z,rfl⟩
 |c :: r,met,z,g,p=>by
  obtain⟨m,e⟩:=g c Zx;rw[Zg]at p;have hlen:(nE 0 met).length=met.length:=AS met 0;by_cases q:m∈met
  ·obtain⟨a,f⟩:=yY r met (Q2 ([c])) (λd hd=>g d (Zv _ hd)) (by omega);refine⟨a,?_⟩;have ev:visit w (c :: r) met=visit w r met:=by
    show visit w r (if (gW w c).getD 0∈met then met else met++[(gW w c).getD 0])=_;rw[e,WX,Zo q]
   rw[ev,Zc];refine(iq (U1:=[ob,oc (nT met),oc (mT met),Q0 (d:Int),pc (ID w),Q2 ([c])]) M ?_).trans f;unfold bj;refine(k7 (m:=.fr) ?_).trans M;refine(Dr (m:=.bo) (k:=.fr) (met:=met) (n:=m) M (wu (m:=.pu) (n:=.fr) (c:=c) (w:=w) M M e)).trans ?_;rw[ZM (λz=>z q)]
  ·obtain⟨a,f⟩:=yY r (met++[m]) (Q2 ([c])) (λd hd=>g d (Zv _ hd)) (by rw[Zw,LI];omega);refine⟨a,?_⟩;have ev:visit w (c :: r) met=visit w r (met++[m]):=by
    show visit w r (if (gW w c).getD 0∈met then met else met++[(gW w c).getD 0])=_;rw[e,WX,Zl q]
   rw[ev,Zc];refine(iq (U1:=[ob,oc (nT met),oc (mT met),Q0 (d:Int),pc (ID w),Q2 ([c])]) M ?_).trans f;unfold bj;refine(lu (m:=.fr) ?_).trans ?_
   ·refine(Dr (m:=.bo) (k:=.fr) (met:=met) (n:=m) M (wu (m:=.pu) (n:=.fr) (c:=c) (w:=w) M M e)).trans ?_;rw[decide_eq_true q]
   ·have b:∀nn h:Uw,e2 Kd (aa 4) (aa 5) [ob,nn,h,Q0 (d:Int),pc (ID w),Q2 ([c])]=Y (.fr,.int (m:Int)):=λnn h=>wu (m:=.pu) (n:=.fr) (c:=c) (w:=w) M M e;have j:tf 1 (e2 Kd (aa 4) (aa 5)) (eN bu {`bn,2}) [ob,oc (nT met),oc (mT met),Q0 (d:Int),pc (ID w),Q2 ([c])]=Y (.nx [ob,oc (nT (met++[m])),oc (mT met),Q0 (d:Int),pc (ID w),Q2 ([c])]):=by
     have o:eN bu {`bn,2} [ob,oc (nT met),oc (mT met),Q0 (d:Int),pc (ID w),Q2 ([c])]=Y (.fr,.int (met.length:Int)):=k8 (xv (x:=(.bo,mT met)) M M) (by
      show Y (Md.fr,T.int (((met.map λ(n:Nat)=>T.int (n:Int)).length:Nat):Int))=_;rw[Zt])
     unfold tf;rw[o,Zs];show ((e2 Kd (aa 4) (aa 5) [ob,oc (nT met),oc (mT met),Q0 (d:Int),pc (ID w),Q2 ([c])]).bind _)=_;rw[b,Zs];show (if L=L/\L=L/\(nE 0 met).length<dZ then Y (Out.nx [ob,oc (.dct 0 (dput (nE 0 met) (.int (m:Int)) (.int (met.length:Int)))),oc (mT met),Q0 (d:Int),pc (ID w),Q2 ([c])]) else O)=_;rw[Zo ⟨rfl,rfl,by rw[hlen];show met.length<16777216;omega⟩,E5 met m q];rfl
    refine(ah j).trans ?_;refine(t5 (i:=2) (l:=met.map λ(n:Nat)=>T.int (n:Int)) (v:=.int (m:Int)) M (b _ _) (by rw[Zt];omega)).trans ?_;rw[show (met.map λ(n:Nat)=>T.int (n:Int))++[.int (m:Int)]=(met++[m]).map λ(n:Nat)=>T.int (n:Int) from by rw[Yu];rfl];rfl
end
def t8(w:List (Nat×Nat)):(sk w).length<=26:=by
 refine ZL (Xk _ _) ?_;rw[W3];exact Zp _
def BD{S:St}{a:Vu}(b:a.Nodup)(d:∀x∈a,x<S.lg.length):a.length<=S.lg.length:=by
 have:=sub_len a (List.range S.lg.length) b λx e=>YV.mpr (d x e)
 rwa [ZC]at this
def Hm(o:WF S)(G:S.lg.length<=100001):∀(k:Nat)(met:Vu)(d:Nat)(M:Vu),met.Nodup->(∀x∈met,x<S.lg.length)->LW S k met d=Y M->∀N,k<N->∀f a:Uw,∃j g C,
  dE (e2 oLt (aa 3) (eN bu {`bn,2})) bQ N [pc (Io S B),oc (nT met),oc (mT met),Q0 ((d:Nat):Int),f,a] =
   Y (.nx [pc (Io S B),oc (nT M),oc (mT M),pc j,g,C]):=by
 have cond:∀(met:Vu)(d:Nat)(f a:Uw),e2 oLt (aa 3) (eN bu {`bn,2}) [pc (Io S B),oc (nT met),oc (mT met),Q0 ((d:Nat):Int),f,a]=Y (.fr,.bl (decide (d<met.length))):=λmet d f a =>
  e2v (x:=(.fr,.int (d:Int))) rfl (k8 (v:=(.fr,.int (met.length:Int))) (xv (x:=(.bo,mT met)) rfl rfl) (by
   show Y (Md.fr,T.int (((met.map λ(n:Nat)=>T.int (n:Int)).length:Nat):Int))=_;rw[Zt])) (by
   show Y (Md.fr,T.bl (decide ((d:Int)<(met.length:Int))))=_;rw[show decide ((d:Int)<(met.length:Int))=decide (d<met.length) from decide_eq_decide.mpr (by omega)])
 intro k
 induction k with
 |zero =>
  intro met d M nd lt e N hN f a;obtain⟨N,rfl⟩:∃M,N=M+1:=⟨N-1,by omega⟩
  unfold LW at e;split at e
  ·cases e
  ·rename_i h;cases e;exact⟨_,f,a,gh (m:=.fr) ((cond _ _ _ _).trans (by rw[ZM h]))⟩
 |succ k z =>
  intro met d M nd lt e N hN f a;obtain⟨N,rfl⟩:∃M,N=M+1:=⟨N-1,by omega⟩
  unfold LW at e;split at e
  ·rename_i h;have A:=lt _ (getD_mem h);have D:met.getD d 0<S.wy.length:=by rw[o.wy];exact A
   have F:=BD nd lt;have E:=t8 (S.wy.getD (met.getD d 0) []);obtain⟨p,u⟩:=yY (w:=S.wy.getD (met.getD d 0) []) (d:=d) (ob:=pc (Io S B)) (sk (S.wy.getD (met.getD d 0) [])) met a (λc i=>nG i) (by omega);obtain⟨j,s,r,q⟩:=z _ (d+1) M (n8 _ _ nd) (mV (λc m e=>o.on _ c m e) _ _ (λc i=>nG i) lt) e N (by omega) (pc (ID (S.wy.getD (met.getD d 0) []))) p;refine⟨j,s,r,(mR (m:=.fr) ((cond _ _ _ _).trans (by rw[decide_eq_true h])) ?_).trans q⟩;unfold bQ;have ix:e2 aJ (aa 2) (aa 3) [pc (Io S B),oc (nT met),oc (mT met),Q0 ((d:Nat):Int),f,a]=Y {`bv,((met.getD d 0:Nat):Int)}:=e2v (x:=(.bo,mT met)) (y:=(.fr,.int (d:Int))) rfl rfl (l6 _ met d 0 h);have s1:aI 4 (e2 aJ (bF 3 (aa 0)) (e2 aJ (aa 2) (aa 3))) [pc (Io S B),oc (nT met),oc (mT met),Q0 ((d:Nat):Int),f,a]=Y (.nx [pc (Io S B),oc (nT met),oc (mT met),Q0 ((d:Nat):Int),pc (ID (S.wy.getD (met.getD d 0) [])),a]) :=
    aH (m:=.pu) (nN (S:=S) (b:=B) (m:=.pu) (n:=.fr) rfl ix D) `ao (by decide:4<6)
   refine(ah s1).trans ?_;have nw:=o.PH (met.getD d 0);refine(ah ((dY (m:=.fr) (l:=(sk (S.wy.getD (met.getD d 0) [])).map λc=>T.str [c]) ?_ rfl).trans u)).trans ?_
   ·show (eN gI {`bn,4} _).bind BU=_;rw[k8 (xv (x:=(.pu,ID (S.wy.getD (met.getD d 0) []))) rfl rfl) (yp nw.1 nw.2)];rfl
   ·exact aH (m:=.fr) (t:=.int (((d+1:Nat)):Int)) rfl `ao (by decide:3<6)
  ·rename_i h;cases e;exact⟨_,f,a,gh (m:=.fr) ((cond _ _ _ _).trans (by rw[ZM h]))⟩
def EH(a:WF S)(g:S.lg.length<=100001){M:Vu}(h:k<1000000)(e:LW S k [0] 0=Y M):aK [Io S B]=Y (.fr,nT M):=by
 obtain⟨i,d,b,q⟩:=Hm a g k [0] 0 M (by simp) (λx f=>by rw[Zk.mp f];exact a.pos) e xC (by show k<1000000;exact h) O O;refine iD (U:=[pc (Io S B),O,pc (mT M),pc i,d,b]) rfl ?_;exact(ah rfl).trans ((ah rfl).trans ((ah rfl).trans ((ah q).trans ((ah rfl).trans rfl))))
noncomputable def L7(l:List (Nat×Nat)):T:=.tup (l.map λp=>T.tup [.str [p.1],.int (p.2:Int)])
def pQ(r:Row):T:=.tup [.int (r.1:Int),.int (r.2.1:Int),IW r.2.2.1,L7 r.2.2.2]
theorem vc:∀l:List (Nat×Nat),dJ (l.map λp=>T.tup [.str [p.1],.int (p.2:Int)])=L
 |[]=>rfl
 |p :: l=>by
  rw[Zc];show (L&&dJ _)=L;rw[vc l];rfl
def qF(l:List (Nat×Nat)):Ir (L7 l)=L:=vc l
def B5(r:Row):Ir (pQ r)=L:=by
 show (L&&(L&&(Ir (IW r.2.2.1)&&(Ir (L7 r.2.2.2)&&L))))=L;rw[lQ,qF];rfl
def Gu(h:a U=Y (.fr,x))(g:b U=Y (.fr,y))(f:c U=Y (.fr,z))(e:d U=Y (.fr,w)):jA (ab a (ab b (ab c (ab d ai)))) U=Y (.fr,.tup [x,y,z,w]):=by
 show (ab a (ab b (ab c (ab d ai))) U).bind rE=_;rw[xv h (xv g (xv f (xv (r:=ai) e M))),Zs];show Y (up .fr _)=_;unfold up;split<;>rfl
def Ek(d:WF S)(o:∀x,x<S.lg.length->x∈a)(g:n<S.lg.length):bN [Io S B,.int (n:Int),.dct 3 (nE 0 a)]=Y (.fr,pQ (row S a n)):=by
 have hw:n<S.wy.length:=by rw[d.wy];exact g
 have z:n<S.lk.length:=by rw[d.lk];exact g
 have nw:=d.PH n;have get:∀v,v<S.lg.length->fq (nE 0 a) (.int (v:Int))=Y (T.int ((a.idxOf v:Nat):Int)):=λv u=>by rw[qR,Zo (o v u),Xg]
 have s1:aI 3 (e2 aJ (bF 2 (aa 0)) (aa 1)) [pc (Io S B),Q0 (n:Int),pc (.dct 3 (nE 0 a)),O,O,O]=Y (.nx [pc (Io S B),Q0 (n:Int),pc (.dct 3 (nE 0 a)),pc (IW (S.lk.getD n O)),O,O]):=aH (m:=.fr) (vp (S:=S) (b:=B) (m:=.pu) (n:=.fr) M M z) `ao (by decide:3<6);have f:aI 4 (e2 aJ (bF 3 (aa 0)) (aa 1)) [pc (Io S B),Q0 (n:Int),pc (.dct 3 (nE 0 a)),pc (IW (S.lk.getD n O)),O,O]=Y (.nx [pc (Io S B),Q0 (n:Int),pc (.dct 3 (nE 0 a)),pc (IW (S.lk.getD n O)),pc (ID `bi),O]):=aH (m:=.pu) (nN (S:=S) (b:=B) (m:=.pu) (n:=.fr) M M hw) `ao (by decide:4<6);have C:eN kU (ab (bD 1 (aY 0) (c8 (eN gI {`bn,4})) O (jA (ab (aa 0) (ab (e2 pY (aa 3) (e2 Kd (aa 5) (aa 0))) ai)))) ai) [pc (Io S B),Q0 (n:Int),pc (.dct 3 (nE 0 a)),pc (IW (S.lk.getD n O)),pc (ID `bi),O]=Y (.fr,L7 (steps S a n)):=by
  have D:=fG (k:=1) (tg:=aY 0) (it:=c8 (eN gI {`bn,4})) (elt:=jA (ab (aa 0) (ab (e2 pY (aa 3) (e2 Kd (aa 5) (aa 0))) ai))) (m:=.fr) (U:=[pc (Io S B),Q0 (n:Int),pc (.dct 3 (nE 0 a)),pc (IW (S.lk.getD n O)),pc (ID `bi),O]) (λc=>T.str [c]) (λc=>T.tup [.str [c],.int ((a.idxOf ((gW `bi c).getD 0):Nat):Int)]) (sk `bi) (by
   show (eN gI {`bn,4} _).bind BU=_;rw[k8 (xv (x:=(.pu,ID `bi)) M M) (yp nw.1 nw.2)];rfl) M (ZL (t8 _) `ao) (λc A=>by
   obtain⟨v,ev⟩:=nG A;refine⟨[Q2 ([c]),pc (Io S B),Q0 (n:Int),pc (.dct 3 (nE 0 a)),pc (IW (S.lk.getD n O)),pc (ID `bi),O],rfl,?_⟩;have s:e2 pY (aa 3) (e2 Kd (aa 5) (aa 0)) [Q2 ([c]),pc (Io S B),Q0 (n:Int),pc (.dct 3 (nE 0 a)),pc (IW (S.lk.getD n O)),pc (ID `bi),O]=Y {`bv,((a.idxOf v:Nat):Int)} :=
    e2v (x:=(.pu,.dct 3 (nE 0 a))) M (wu (m:=.pu) (n:=.fr) (c:=c) (w:=`bi) M M ev) (by
     show (if L=L then (fq (nE 0 a) (.int (v:Int))).map (sub .pu) else O)=_;rw[Zo M,get v (d.on n c v ev)];rfl)
   rw[ev,WX];show (ab (aa 0) (ab (e2 pY (aa 3) (e2 Kd (aa 5) (aa 0))) ai) _).bind rE=_;rw[xv (x:=(.fr,.str [c])) M (xv (r:=ai) s M)];rfl)
  refine k8 (xv (r:=ai) D M) ?_;show (if _<=dZ then Y (up .fr (.tup _)) else O)=_;rw[Zo (by rw[Zt];exact ZL (t8 _) `ao)];have:T.tup ((sk `bi).map λc=>T.tup [.str [c],.int ((a.idxOf ((gW `bi c).getD 0):Nat):Int)])=L7 (steps S a n):=by
   unfold L7 steps;rw[Yp];rfl
  rw[this];unfold up;rw[qF];rfl
 have e:=aH (i:=5) C `ao (by decide:5<6);have p:∀U:Env,U[5]?=Y (pc (L7 (steps S a n)))->aa 5 U=Y (.fr,L7 (steps S a n)):=λU h=>by
  show (match U[5]? with | some (some (.pu t))=>some (up .pu t) | some (some (.ow t))=>some (.bo,t) | _=>none)=_;rw[h];show Y (up .pu _)=_;unfold up;rw[qF];rfl
 unfold row;cases j:S.lk.getD n O with
 |none =>
  rw[j]at s1 f e;refine iD (v:=(.fr,pQ (0,0,O,steps S a n))) (U:=[pc (Io S B),Q0 (n:Int),pc (.dct 3 (nE 0 a)),pc (IW O),pc (ID `bi),pc (L7 (steps S a n))]) M ?_;refine(ah s1).trans ((ah f).trans ((ah e).trans (gp ((lu (m:=.fr) M).trans (d7 (Gu M M M (p _ M)))))))
 |some l =>
  rw[j]at s1 f e;have q:=d.up n l j;refine iD (v:=(.fr,pQ (S.lg.getD l 0+1,S.lg.getD n 0,Y (a.idxOf l),steps S a n))) (U:=[pc (Io S B),Q0 (n:Int),pc (.dct 3 (nE 0 a)),pc (IW (Y l)),pc (ID `bi),pc (L7 (steps S a n))]) M ?_;refine(ah s1).trans ((ah f).trans ((ah e).trans ((ah ((k7 (m:=.fr) M).trans M)).trans (d7 (Gu ?_ ?_ ?_ (p _ M))))))
  ·exact e2v (sA (S:=S) (b:=B) (m:=.pu) (n:=.fr) (i:=l) M M q) M M
  ·exact sA (S:=S) (b:=B) (m:=.pu) (n:=.fr) (i:=n) M M g
  ·exact e2v (x:=(.pu,.dct 3 (nE 0 a))) (y:=(.fr,.int (l:Int))) M M (by
    show (if L=L then (fq (nE 0 a) (.int (l:Int))).map (sub .pu) else O)=_;rw[Zo M,get l q];rfl)
def Mh(t:List Row):T:=.lst (t.map pQ)
def Fc(b:WF S)(g:S.lg.length<=100001){M:Vu}{k:Nat}(l:k<1000000)(e:LW S k [0] 0=Y M)(a:∀x,x∈M↔x<S.lg.length)(j:M.length<=16777216):dr [Io S B]=Y (.fr,Mh (tab S M)):=by
 have d:=EH b g l e;refine iD (U:=[pc (Io S B),O]) rfl ?_;have s1:ip 1 (gw 0 aK (aa 0) ai) [pc (Io S B),O]=Y (.nx [pc (Io S B),oc (nT M)]):=by
  show (gw 0 aK (aa 0) ai [pc (Io S B),O]).bind _=_;have:gw 0 aK (aa 0) ai [pc (Io S B),O]=Y (.fr,nT M):=by
   show ((aK [Io S B]).bind _)=_;rw[d];rfl
  rw[this];rfl
 refine(ah s1).trans ?_;have o:=fG (k:=1) (tg:=aY 0) (it:=sF 1) (elt:=gw 0 bN (aa 1) (ab (aa 0) {`bn,2})) (m:=.fr) (U:=[pc (Io S B),pc (.dct 3 (nE 0 M))]) (λ(n:Nat)=>T.int (n:Int)) (λn=>pQ (row S M n)) M (by
  show (if ((nE 0 M).all λp=>isInt p.1)=L then Y (Md.fr,(nE 0 M).map (·.1)) else O)=_;rw[Zo,qC];rw[Yr];intro p h;have:p.1∈(nE 0 M).map (·.1):=List.mem_map_of_mem h;rw[qC]at this;obtain⟨n,_,e⟩:=JD.mp this;rw[← e];rfl) rfl j (λn i=>by
  refine⟨[Q0 (n:Int),pc (Io S B),pc (.dct 3 (nE 0 M))],rfl,?_⟩;show ((bN [Io S B,.int (n:Int),.dct 3 (nE 0 M)]).bind _)=_;rw[Ek b (λx f=>(a x).mpr f) ((a n).mp i)];rfl)
 show ((bD 1 (aY 0) (sF 1) O (gw 0 bN (aa 1) (ab (aa 0) {`bn,2})) [pc (Io S B),pc (.dct 3 (nE 0 M))]).bind _)=_;rw[o];unfold Mh tab;rw[Yp];rfl
noncomputable def dc(a:List Tx):Nat:=(a.map List.length).sum
structure KU(bk:List Tx):Prop where
 Jo:bk.length<=8
 sum:dc bk<=160
 az:∀t∈bk,∀c∈t,97<=c/\c<=122
theorem jx:∀{l:List Tx},t∈l->t.length<=dc l
 |a :: l,h=>by
  have e:dc (a :: l)=a.length+dc l:=by unfold dc;rw[Zc,X9]
  rw[e];rcases Zj.mp h with rfl | h
  ·exact ZQ _ _
  ·have:=jx h;lia
def KU.len(h:KU a):∀t∈a,t.length<=160:=λt b=>ZL (jx b) h.sum
def fN(a:List Tx):St:=(mB S0 a).getD S0
def cY(a:List Tx):Vu:=(LW (fN a) 1000 [0] 0).getD []
def tabOf(a:List Tx):List Row:=tab (fN a) (cY a)
theorem KU.k{a:List Tx}(h:KU a):mB S0 a=Y (fN a)/\∃nd b,K (Hd a) (fN a) nd b/\b.length<=321/\LW (fN a) 1000 [0] 0=Y (cY a)/\(∀x,x∈cY a↔x<(fN a).lg.length)/\(cY a).length=b.length/\(cY a).idxOf 0=0:=by
 obtain⟨S,nd,b,e,H,l⟩:=K.of a h.az λt g=>by have:=h.len t g;lia
 have d:fN a=S:=by unfold fN;rw[e];rfl
 rw[d];have f:b.length<=321:=by
  have:=h.sum;unfold dc at this;lia
 obtain⟨m,e2,_,e3,j⟩:=H.met (k:=1000) `am;have eM:cY a=0 :: m:=by unfold cY;rw[d,e2];rfl
 rw[eM];exact⟨e,nd,b,H,f,e2,λx=>by rw[e3,H.i.len],j,List.idxOf_cons_self⟩
def E9{xs:Uv}{S':St}{v:T}{B:Uw}(j:d [B,oc (Io S b),z]=Y xs)(l:argsOk a xs=L)(m:cq (trees xs)=L)(i:g (KQ S) (trees xs)=Y (KQ S',v))(h:Ir v=L) :
  b9 1 [] 0 a g d [B,oc (Io S b),z]=Y ((.fr,v),[B,oc (Io S' b),z]):=by
 show ((Y ([]:List Ky)).bind λf=>(d [B,oc (Io S b),z]).bind λxs=>(pm (vW 0 a g xs) f (Io S b)).map λe=>(e.2,[B,oc e.1,z]))=_;rw[Zs,j,Zs];show ((if 1=0+1/\hZ (KQ S)=L/\argsOk a xs=L/\cq (trees xs)=L then (g (KQ S) (trees xs)).bind λz=>if hZ z.1=L/\Ir z.2=L then Y (T.obj 1 ((0,.bl b) :: z.1),(Md.fr,z.2)) else O else O).map _)=_;rw[Zo ⟨rfl,mI S,l,m⟩,i,Zs,Zo ⟨mI S',h⟩];rfl
def FI{B:Uw}:∀(rest:List Tx){S S':St}{z:Uw},WF S->S.lg.length+2*dc rest<=100000->(∀t∈rest,∀c∈t,97<=c/\c<=122)->mB S rest=Y S' →
  ∃a,forL (aY 2) gF (rest.map .str) [B,oc (Io S false),z]=Y (.nx [B,oc (Io S' false),a]):=by
 intro rest
 induction rest with
 |nil =>
  intro S S' z _ _ _ e;cases (show Y S=Y S' from e);exact⟨z,rfl⟩
 |cons t rest h =>
  intro S S' z W j b e;obtain⟨⟨d,r⟩,e1,m⟩:=Zz.mp (show (hg S 0 t).bind _=Y S' from e);have l:dc (t :: rest)=t.length+dc rest:=by unfold dc;rw[Zc,X9]
  rw[l]at j;obtain⟨g,_,n,f⟩:=GM W `am W.pos (b t Zx) e1;obtain⟨a,q⟩:=h (S:=d) (S':=S') (z:=Q2 t) g `am (λu i=>b u (Zv _ i)) m;refine⟨a,?_⟩;rw[Zc];refine(iq (U1:=[B,oc (Io S false),Q2 t]) M ?_).trans q;unfold gF PQ;rw[E9 (xs:=[{`bv,((0:Nat):Int)},(.fr,.str t)]) (S':=d) (v:=.int (r:Int)) M M M f M];rfl
def E3(h:KU a):fO [.lst (a.map .str)]=Y (.fr,Mh (tabOf a)):=by
 obtain⟨e,nd,d,H,l,e2,e3,g,_⟩:=h.k;have hlen:(fN a).lg.length<=100001:=by rw[← H.i.len];lia
 have b:=Fc H.i.wf hlen (k:=1000) `ao e2 e3 `am;obtain⟨z,f⟩:=FI (B:=pc (.lst (a.map .str))) a (z:=O) Dj (by have:=h.sum;show 1+2*dc a<=100000;lia) h.az e;refine iD M ((ah (U1:=[pc (.lst (a.map .str)),oc (Io S0 false),O]) M).trans ((ah ((dY (m:=.pu) (l:=a.map .str) M M).trans f)).trans ((ah (U1:=[pc (.lst (a.map .str)),pc (Io (fN a) false),z]) M).trans (d7 ?_))));show ((dr [Io (fN a) false]).bind _)=_;rw[b];rfl
noncomputable abbrev IU(a:List (Nat×Nat)):List (T×T):=a.map λp=>(T.str [p.1],T.int (p.2:Int))
noncomputable abbrev SK(p:Nat×Nat):T:=.tup [.str [p.1],.int (p.2:Int)]
def G0(a:List (Nat×Nat)):pU (a.map SK)=Y (IU a):=by
 induction a with
 |nil=>rfl
 |cons w a b =>
  show (if iM (T.str [w.1])/\Ir (T.int (w.2:Int)) then (pU (a.map SK)).map _ else O)=_;rw[Zo ⟨rfl,rfl⟩,b];rfl
theorem sR:∀(ws acc:List (Nat×Nat)),((acc++ws).map (·.1)).Nodup->(IU ws).foldl (λd q=>dput d q.1 q.2) (IU acc)=IU (acc++ws)
 |[],acc,_=>by rw[ZE];rfl
 |w :: ws,acc,h=>by
  have f:w.1∉acc.map (·.1):=λz=>by
   rw[Yu,Zc]at h;exact(ZG.mp h).2.2 w.1 z w.1 Zx M
  have e:dput (IU acc) (T.str [w.1]) (T.int (w.2:Int))=IU (acc++[w]):=by
   unfold dput;rw[Zl (by
    simp only[Xm,not_exists,not_and];intro p b;obtain⟨q,a,rfl⟩:=JD.mp b;simp only[eqT,beq_iff_eq,List.cons.injEq,and_true];intro z;exact f (JD.mpr ⟨q,a,z⟩))]
   simp[IU]
  show (IU ws).foldl _ (dput (IU acc) (T.str [w.1]) (T.int (w.2:Int)))=_;rw[e,sR ws (acc++[w]) (by rw[Zf];exact h),Zf];rfl
def yy(w:List (Nat×Nat)):(sk w).Nodup:=by
 unfold sk;exact List.Nodup.sublist VU `ao
def uP(S:St)(M:Vu)(n:Nat):(steps S M n).map (·.1)=sk `bi:=by
 unfold steps;rw[Yp];exact List.map_id' _
def Ic(S:St)(M:Vu)(n:Nat):lr [(m,L7 (steps S M n))]=Y (.fr,.dct 0 (IU (steps S M n))):=by
 show (pU ((steps S M n).map SK)).map _=_;rw[G0,Option.map_some];have:=sR (steps S M n) [] (by rw[Yc,uP];exact yy _);rw[Yc]at this;exact congrArg (λz=>Y (Md.fr,T.dct 0 z)) this
def ym(S:St)(M:Vu)(n c:Nat)(e:97<=c/\c<=122):gW (steps S M n) c=(gW `bi c).map λm=>M.idxOf m:=by
 have key:∀l:Vu,gW (l.map λc=>(c,M.idxOf ((gW `bi c).getD 0))) c=if c∈l then Y (M.idxOf ((gW `bi c).getD 0)) else O:=by
  intro l
  induction l with
  |nil=>rfl
  |cons a l b =>
   unfold gW at b ⊢;rw[Zc,Yq];by_cases h:a=c
   ·subst h;simp
   ·have:(a==c)=B:=by simpa using h
    rw[this];show (List.map _ l |>.find? _).map _=_;rw[b];simp[YH h]
 unfold steps;rw[key];cases hg:gW `bi c with
 |none =>
  rw[Zl λz=>by
   obtain⟨m,d⟩:=nG z;rw[hg]at d;cases d]
  rfl
 |some m =>
  rw[Zo (by
   unfold sk;refine Y4.mpr ⟨VB.mpr `am,by rw[hg];rfl⟩)]
  rfl
def wq(S:St)(M:Vu)(n:Nat):(row S M n).2.2.2=steps S M n:=by
 unfold row;split<;>rfl
section
def num(b:List Tx)(a:Wd->Option Nat)(w:Tx):Nat:=(cY b).idxOf ((a w).getD 0)
abbrev MH(b:List Tx)(a:Wd->Option Nat)(w:Tx):T:=.tup [.str w,.int (num b a w:Int)]
abbrev EQ(a:List Tx)(f:Wd->Option Nat)(B:T)(h:Tx)(g:List Tx)(k:Int)(e d b:Uw):Env:=[pc B,Q2 h,pc (Mh (tabOf a)),oc (.lst (g.map (MH a f))),Q0 k,e,d,b]
def lk1{bk:List Tx}{nd:Wd->Option Nat}{P:Tx->Bool}(B:T)(d:Tx)(k:Int)(w:Tx)(hw:w.length<=1000)(a:List (Nat×Nat))(C:∀c,97<=c/\c<=122->(gW a c).isSome=P (w++[c])/\∀v,gW a c=Y v->v=num bk nd (w++[c])):∀(b:Tx)(acc:List Tx)(z:Uw),Az b->acc.length+b.length<16000000 →
  (∀c,(b.find? λc=>!P (w++[c]))=Y c->∃F,forL (aY 7) cE (b.map s1) (EQ bk nd B d acc k (Q2 w) (pc (ID a)) z)=Y (.rt (.fr,.str (w++[c])) F)) ∧
  ((b.find? λc=>!P (w++[c]))=O->∃j,forL (aY 7) cE (b.map s1) (EQ bk nd B d acc k (Q2 w) (pc (ID a)) z)=Y (.nx (EQ bk nd B d (acc++b.map λc=>w++[c]) k (Q2 w) (pc (ID a)) j))):=by
 intro b
 induction b with
 |nil=>exact λacc z _ _=>⟨(λc h=>by cases h),λ_=>⟨z,by rw[Vq,Vq,ZE];rfl⟩⟩
 |cons c b t =>
  intro acc z p D;rw[Zg]at D;obtain⟨o,E⟩:=C c (p c Zx);have ad:e2 aW (aa 5) (aa 7) (EQ bk nd B d acc k (Q2 w) (pc (ID a)) (pc (s1 c)))=Y (.fr,.str (w++[c])):=zu (m:=.fr) (n:=.fr) M M (by show w.length+1<=16777216;lia);have g:e2 cR (aa 7) (aa 6) (EQ bk nd B d acc k (Q2 w) (pc (ID a)) (pc (s1 c)))=Y (.fr,.bl (!P (w++[c]))):=by
   rw[← o];exact Dv (m:=.pu) (n:=.fr) M M
  cases f:P (w++[c]) with
  |false =>
   rw[f]at g;refine⟨λG h=>?_,λh=>?_⟩
   ·rw[Yq,f]at h;cases h;exact⟨_,BI M (gp ((lu g).trans (d7 ad)))⟩
   ·rw[Yq,f]at h;cases h
  |true =>
   rw[f]at g o;obtain⟨v,q⟩:=Yb.mp o;obtain⟨y,u⟩:=t (acc++[w++[c]]) (pc (s1 c)) (λx A=>p x (Zv _ A)) (by rw[Zw,LI];lia);have ix:e2 Kd (aa 6) (aa 7) (EQ bk nd B d acc k (Q2 w) (pc (ID a)) (pc (s1 c)))=Y {`bv,(num bk nd (w++[c]):Int)}:=by
    rw[← E v q];exact wu (m:=.pu) (n:=.fr) M M q
   have s:jA (ab (e2 aW (aa 5) (aa 7)) (ab (e2 Kd (aa 6) (aa 7)) ai)) (EQ bk nd B d acc k (Q2 w) (pc (ID a)) (pc (s1 c)))=Y (.fr,MH bk nd (w++[c])):=by
    show (ab _ _ _).bind rE=_;rw[xv ad (xv (r:=ai) ix M)];rfl
   have bo:cE (EQ bk nd B d acc k (Q2 w) (pc (ID a)) (pc (s1 c)))=Y (.nx (EQ bk nd B d (acc++[w++[c]]) k (Q2 w) (pc (ID a)) (pc (s1 c)))):=by
    refine(ah ((k7 g).trans M)).trans ((t5 (i:=3) (l:=acc.map (MH bk nd)) M s (by rw[Zt];lia)).trans ?_);show Y (Out.nx [pc B,Q2 d,pc (Mh (tabOf bk)),oc (.lst (acc.map (MH bk nd)++[MH bk nd (w++[c])])),Q0 k,Q2 w,pc (ID a),pc (s1 c)])=_;rw[show acc.map (MH bk nd)++[MH bk nd (w++[c])]=(acc++[w++[c]]).map (MH bk nd) from by rw[Yu];rfl]
   have st:forL (aY 7) cE ((c :: b).map s1) (EQ bk nd B d acc k (Q2 w) (pc (ID a)) z)=forL (aY 7) cE (b.map s1) (EQ bk nd B d (acc++[w++[c]]) k (Q2 w) (pc (ID a)) (pc (s1 c))):=iq M bo;rw[st,Yq,f];refine⟨y,λh=>?_⟩;obtain⟨j,e⟩:=u h;refine⟨j,e.trans ?_⟩;rw[Zc,Zf];rfl
def lk2(H:K (Hd bk) (fN bk) nd U)(hM:∀x,x∈cY bk↔x<(fN bk).lg.length)(N:∀w,P w=(nd w).isSome)(hP:∀w,P w=L->w.length<=1000)(B:T)(b:Tx)(hz:Az b)(Lr:b.length<=26){x:Tx}:∀(n:Nat)(a:List Tx)(k F:Nat)(l g d:Uw),(∀w∈a,P w=L)->a.length+26*n<16000000->bf P b n (a.drop k)=Y x->n<F →
  ∃q,dE (eC (.bl L)) kh F (EQ bk nd B b a (k:Int) l g d)=Y (.rt (.fr,.str x) q):=by
 intro n
 induction n with
 |zero=>intro a k F l g d _ _ h;cases h
 |succ n X =>
  intro a k F l g d C hb h hF;obtain⟨F,rfl⟩:∃j,F=j+1:=⟨F-1,by lia⟩
  by_cases o:k<a.length
  ·rw[YK o]at h;have hw:P a[k]=L:=C _ (Ys o);have hg:a.getD k []=a[k]:=by rw[Zr,Zq o];rfl
   generalize a[k]=w at h hw hg;obtain⟨f,u⟩:=Yb.mp ((N w).symm.trans hw);have IS:f<(fN bk).lg.length:=by rw[← H.i.len];exact H.i.lt u
   have TQ:=(hM f).mpr IS;have R:num bk nd w=(cY bk).idxOf f:=by unfold num;rw[u];rfl
   have Q:num bk nd w<(cY bk).length:=by rw[R];exact Wy.mpr TQ
   have T8:(cY bk).getD (num bk nd w) 0=f:=by
    rw[Zr,Zq Q];show (cY bk)[num bk nd w]=f;simp only[R];exact W5 _
   have D:∀l g d,e2 aJ (aa 3) (aa 4) (EQ bk nd B b a (k:Int) l g d)=Y (.fr,MH bk nd w):=λl g d=>by
    refine e2v (x:=(.bo,.lst (a.map (MH bk nd)))) (y:=(.fr,.int (k:Int))) M M ?_;rw[l6 (MH bk nd) a k [] o,hg];rfl
   have J:aI 5 (e2 aJ (e2 aJ (aa 3) (aa 4)) (Q3 0)) (EQ bk nd B b a (k:Int) l g d)=Y (.nx (EQ bk nd B b a (k:Int) (Q2 w) g d)):=aH (m:=.fr) (e2v (D l g d) (y:={`bv,0}) M M) `ao (by show 5<8;decide);have r1:e2 aJ (aa 2) (e2 aJ (e2 aJ (aa 3) (aa 4)) (Q3 1)) (EQ bk nd B b a (k:Int) (Q2 w) g d)=Y (.fr,pQ (row (fN bk) (cY bk) f)):=by
    refine e2v (x:=(.pu,Mh (tabOf bk))) (y:=(.fr,.int (num bk nd w:Int))) M (e2v (D _ _ _) (y:={`bv,1}) M M) ?_;unfold Mh tabOf tab;rw[Yp,l6 (pQ ∘ row (fN bk) (cY bk)) (cY bk) (num bk nd w) 0 Q,T8];show Y (up .pu (pQ (row (fN bk) (cY bk) f)))=_;unfold up;rw[B5];rfl
   have G:aI 6 (eN lr (ab (e2 aJ (e2 aJ (aa 2) (e2 aJ (e2 aJ (aa 3) (aa 4)) (Q3 1))) (Q3 3)) ai)) (EQ bk nd B b a (k:Int) (Q2 w) g d)=Y (.nx (EQ bk nd B b a (k:Int) (Q2 w) (pc (ID (steps (fN bk) (cY bk) f))) d)):=by
    refine aH (m:=.fr) (k8 (xv (r:=ai) (x:=(.fr,L7 (steps (fN bk) (cY bk) f))) (e2v r1 (y:={`bv,3}) M ?_) M) (Ic _ _ _)) `ao (by show 6<8;decide);rw[← wq];show Y (up .fr (L7 _))=_;unfold up;rw[qF];rfl
   have hs:∀c,97<=c/\c<=122->(gW (steps (fN bk) (cY bk) f) c).isSome=P (w++[c])/\∀v,gW (steps (fN bk) (cY bk) f) c=Y v->v=num bk nd (w++[c]):=λc A=>by
    rw[ym _ _ _ _ A,H.i.wy u c,N];refine⟨Xu,λv s=>?_⟩;obtain⟨m,e1,rfl⟩:=Zy.mp s;unfold num;rw[e1];rfl
   obtain⟨i1,Z⟩:=lk1 (bk:=bk) (nd:=nd) (P:=P) B b (k:Int) w (hP w hw) _ hs b a d hz `am;have E:gU (aY 7) (c8 (aa 1)) cE (EQ bk nd B b a (k:Int) (Q2 w) (pc (ID (steps (fN bk) (cY bk) f))) d)=_:=dY (m:=.fr) M M;unfold bf at h;cases p:(b.find? λc=>!P (w++[c])) with
   |some c =>
    rw[p]at h;cases h;obtain⟨q,e⟩:=i1 c p;exact⟨q,yb (m:=.fr) M ((ah J).trans ((ah G).trans (gp (E.trans e))))⟩
   |none =>
    rw[p]at h;obtain⟨S,e⟩:=Z p;obtain⟨q,JC⟩:=X (a++b.map λc=>w++[c]) (k+1) F (Q2 w) (pc (ID (steps (fN bk) (cY bk) f))) S (λv s=>by
     rcases Zi.mp s with z | z
     ·exact C v z
     ·obtain⟨c,A,rfl⟩:=JD.mp z;have:=Wu.mp p c A;simpa using this) (by rw[Zw,Zt];lia) (by rw[List.drop_append_of_le_length (by exact VJ o)];exact h) (by exact Nat.lt_of_succ_lt_succ hF)
    refine⟨q,(mR (m:=.fr) M ((ah J).trans ((ah G).trans ((ah (E.trans e)).trans ?_)))).trans JC⟩;exact aH (m:=.fr) (t:=.int ((k+1:Nat):Int)) (e2v (x:=(.fr,.int (k:Int))) (y:={`bv,1}) M M M) `ao (by show 4<8;decide)
  ·rw[YN (by exact ZK o)]at h;cases h
end
def GK:Pt f w ↔ ∃p,Hd f p/\w <:+ p:=by
 constructor
 ·rintro (rfl | ⟨t,d,a,b,rfl⟩)
  ·exact⟨[],.inl M,Yf _⟩
  ·exact⟨a++w,.inr ⟨_,d,⟨b,rfl⟩⟩,⟨a,rfl⟩⟩
 ·rintro⟨p,rfl | ⟨t,d,g⟩,e⟩
  ·exact .inl (Xh.mp e)
  ·exact .inr ⟨t,d,e.isInfix.trans g.isInfix⟩
def KU.pt(h:KU a)(hw:Pt a w):w.length<=dc a:=by
 rcases hw with rfl | ⟨t,b,hw⟩
 ·exact ZD _
 ·exact ZL hw.length_le (jx b)
def xg(h:KU a)(d:∀w,P w=L↔Pt a w)(j:Az b)(t:b.length<=26)(v:n<500000)(o:bf P b n [[]]=Y x):cJ [.lst (a.map .str),.str b]=Y (.fr,.str x):=by
 obtain⟨e,nd,u,H,l,e2,e3,y,p⟩:=h.k;have s:∀w,P w=(nd w).isSome:=λw=>by
  rw[YF,d,GK,← H.some,Yb]
 have g:num a nd []=0:=by unfold num;rw[H.i.z];exact p
 obtain⟨q,f⟩:=lk2 H e3 s (λw hw=>by have:=h.pt ((d w).mp hw);have:=h.sum;lia) (.lst (a.map .str)) b j t n [[]] 0 xC O O O (λw hw=>by rw[Zk.mp hw,d];exact .inl M) (by show 1+26*n<16000000;lia) o (by show n<1000000;lia);have s1:aI 2 (cP fO {`bn,0}) [pc (.lst (a.map .str)),Q2 b,O,O,O,O,O,O]=Y (.nx [pc (.lst (a.map .str)),Q2 b,pc (Mh (tabOf a)),O,O,O,O,O]):=aH (m:=.fr) (dq (xv (r:=ai) (x:=(.pu,.lst (a.map .str))) M M) (E3 h)) `ao (by show 2<8;decide);refine iD (U:=q) M ((ah s1).trans ((ah (U1:=[pc (.lst (a.map .str)),Q2 b,pc (Mh (tabOf a)),oc (.lst [.tup [.str [],.int 0]]),O,O,O,O]) M).trans ((ah (U1:=[pc (.lst (a.map .str)),Q2 b,pc (Mh (tabOf a)),oc (.lst [.tup [.str [],.int 0]]),Q0 0,O,O,O]) M).trans ?_)));have:EQ a nd (.lst (a.map .str)) b [[]] ((0:Nat):Int) O O O=[pc (.lst (a.map .str)),Q2 b,pc (Mh (tabOf a)),oc (.lst [.tup [.str [],.int 0]]),Q0 0,O,O,O]:=by
  show [pc (.lst (a.map .str)),Q2 b,pc (Mh (tabOf a)),oc (.lst [.tup [.str [],.int (num a nd []:Int)]]),Q0 0,O,O,O]=_;rw[g];rfl
 rw[← this];exact f
noncomputable def parts(a:List Tx):List Tx:=[] :: a.flatMap λt=>(List.range (t.length+1)).flatMap λs=>(List.range (t.length+1)).map λk=>(t.drop s).take k
def wN(h:Pt d w):w∈parts d:=by
 rcases h with rfl | ⟨t,e,a,b,rfl⟩
 ·exact Zx
 ·refine Zv _ (Uy.mpr ⟨_,e,Uy.mpr ⟨a.length,YV.mpr (by rw[Zw,Zw];lia),JD.mpr ⟨w.length,YV.mpr (by rw[Zw,Zw];lia),?_⟩⟩⟩);rw[Zf,List.drop_left,W0]
theorem qG{α β:Type}(f:α->List β)(k:Nat):∀l:List α,(∀a∈l,(f a).length<=k)->(l.flatMap f).length<=l.length*k
 |[],_=>ZD _
 |a :: l,h=>by
  have e:=qG f k l λb hb=>h b (Zv _ hb);have d:=h a Zx;rw[V1,Zw,Zg,WE];lia
theorem KU.parts(h:KU a):(parts a).length<=207369:=by
 unfold T39.parts;rw[Zg];have:=qG (λt:Tx=>(List.range (t.length+1)).flatMap λs=>(List.range (t.length+1)).map λk=>(t.drop s).take k) 25921 a λt d=>by
  have b:=h.len t d;have:=qG (λs=>(List.range (t.length+1)).map λk=>(t.drop s).take k) 161 (List.range (t.length+1)) λs _=>by rw[Zt,ZC];exact Xo b
  rw[ZC]at this;have:(t.length+1)*161<=161*161:=Ve _ (by exact Xo b);lia
 have:a.length*25921<=8*25921:=Ve _ h.Jo;lia
def Cp(t:Tx)(l:List Tx):dc (t :: l)=t.length+dc l:=by unfold dc;rw[Zc,X9]
end T39
end
section
namespace T39
open VS
def ws(a:Tx):Nat->List Tx
 |0=>[[]]
 |n+1=>ext a (ws a n)
theorem uv(a:Tx):∀n,(ws a n).length=a.length ^ n
 |0=>rfl
 |n+1=>by
  show (ext a (ws a n)).length=_;rw[qg,uv a n,Nat.pow_succ,Nat.mul_comm]
theorem AF{a:Tx}(b:a.Nodup):∀n,(ws a n).Nodup
 |0=>ZY.mpr ⟨(λz=>nomatch z),Yt⟩
 |n+1=>lH b (AF b n)
theorem fu:∀{n:Nat}{w:Tx},w∈ws b n↔w.length=n/\∀c∈w,c∈b
 |0,w=>by
  constructor
  ·intro h;cases Zk.mp h;exact⟨rfl,λc h=>nomatch h⟩
  ·intro h;rw[Xs.mp h.1];exact Zk.mpr M
 |n+1,w=>by
  show w∈ext b (ws b n)↔_;rw[ext_mem];constructor
  ·rintro⟨v,j,c,g,rfl⟩;obtain⟨a,f⟩:=fu.mp j;refine⟨by rw[Zw,a];rfl,λd hd=>?_⟩;rcases Zi.mp hd with z | z
   ·exact f d z
   ·rw[Zk.mp z];exact g
  ·rintro⟨a,f⟩;have i:w≠[]:=λe=>by rw[e]at a;cases a
   refine⟨w.dropLast,fu.mpr ⟨by rw[List.length_dropLast,a];rfl,λc g=>f c (List.dropLast_subset _ g)⟩,w.getLast i,f _ (List.getLast_mem i),(List.dropLast_concat_getLast i).symm⟩
def At(P:Tx->Bool)(a:Tx)(x:Tx):Prop:=∃n A B,ws a (n+1)=A++x :: B/\(∀w∈A,P w=L)/\∀k,k<=n->∀w∈ws a k,P w=L
def uh{f:Tx}:f.find? p=Y c->∃a b,f=a++c :: b/\∀d∈a,p d=B:=by
 induction f with
 |nil=>intro h;cases h
 |cons d f i =>
  intro h;rw[Yq]at h;cases hd:p d with
  |true =>
   rw[hd]at h;cases h;exact⟨[],f,rfl,λd h=>nomatch h⟩
  |false =>
   rw[hd]at h;obtain⟨a,b,e,q⟩:=i h;refine⟨d :: a,b,by rw[e];rfl,λx g=>?_⟩;rcases Zj.mp g with rfl | g
   ·exact hd
   ·exact q x g
def Gw{f:Tx}(p:0<f.length):∀(N n:Nat)(d r:List Tx),ws f n=d++r->(∀k,k<=n->∀w∈ws f k,P w=L)->(∀w∈ext f d,P w=L)->bf P f N (r++ext f d)=Y x->At P f x:=by
 intro N
 induction N with
 |zero=>intro n d r _ _ _ h;cases h
 |succ N o =>
  have step:∀(n:Nat)(d:List Tx)(w:Tx)(r:List Tx),ws f n=d++w :: r->(∀k,k<=n->∀w∈ws f k,P w=L)->(∀w∈ext f d,P w=L)->bf P f (N+1) ((w :: r)++ext f d)=Y x->At P f x:=by
   intro n d w r e i hd h;rw[YB]at h;unfold bf at h;split at h
   ·rename_i c j;cases h;obtain⟨a,b,e1,l⟩:=uh j;refine⟨n,ext f d++a.map λc=>w++[c],(b.map λc=>w++[c])++ext f r,?_,λv g=>?_,i⟩
    ·show ext f (ws f n)=_;rw[e];unfold ext;rw[VW,V1]
     conv=>lhs;arg 2;arg 1;rw[e1]
     rw[Yu,Zc];simp only[Zf,YB]
    ·rcases Zi.mp g with z | z
     ·exact hd v z
     ·obtain⟨t,y,rfl⟩:=JD.mp z;simpa using l t y
   ·rename_i s;have e2:ext f (d++[w])=ext f d++f.map λc=>w++[c]:=by
     unfold ext;rw[VW,V1,List.flatMap_nil,ZE]
    refine o n (d++[w]) r (by rw[e,Zf];rfl) i (λv g=>?_) (by rw[e2,← Zf];exact h);rw[e2]at g;rcases Zi.mp g with z | z
    ·exact hd v z
    ·obtain⟨c,j,rfl⟩:=JD.mp z;have:=Wu.mp s c j;simpa using this
  intro n d r e i hd h;cases r with
  |cons w r=>exact step n d w r e i hd h
  |nil =>
   rw[ZE]at e;rw[Yc,← e]at h;rw[← e]at hd;have u:∀k,k<=n+1->∀w∈ws f k,P w=L:=λk l w hw=>by
    rcases Wh k (n+1) with q | q
    ·exact i k (by exact XG q) w hw
    ·rw[show k=n+1 by exact Y3 l q]at hw;exact hd w hw
   have m:0<(ws f (n+1)).length:=by rw[uv];exact Nat.pow_pos p
   cases e3:ws f (n+1) with
   |nil=>rw[e3]at m;cases m
   |cons w r =>
    refine step (n+1) [] w r e3 u (λv g=>nomatch g) ?_;rw[← e3];show bf P f (N+1) (ws f (n+1)++[])=_;rw[ZE];exact h
def GI{a:Tx}(b:0<a.length)(e:P []=L)(h:bf P a N [[]]=Y x):At P a x :=
 Gw b N 0 [] [[]] M (λk d w hw=>by rw[Nat.le_zero.mp d]at hw;rw[Zk.mp hw];exact e) (λw hw=>nomatch hw) h
def At.long(h:At P a x):(∀c∈x,c∈a)/\0<x.length/\∀w:Tx,w.length<x.length->(∀c∈w,c∈a)->P w=L:=by
 obtain⟨n,A,B,e,_,d⟩:=h;have b:x∈ws a (n+1):=by rw[e];exact ZX _ Zx
 obtain⟨i,g⟩:=fu.mp b;exact⟨g,by lia,λw hw f=>d w.length `am w (fu.mpr ⟨rfl,f⟩)⟩
def wm{α:Type}[DecidableEq α]{l r:List α}(d:l.Nodup)(b:r.Nodup)(h:∀x,x∈l↔x∈r):l.length=r.length:=Y3 (AU.sub_len l r d λx a=>(h x).mp a) (AU.sub_len r l b λx a=>(h x).mpr a)
end T39
end
section
namespace T39
open VS AU
def yT{a:Ut}(f:a.length=d)(h:∃U,b (a.map (λt=>Y (.pu t))++List.replicate (e-d) O)=Y (.rt v U)):fn d e b a=Y v:=by
 obtain⟨U,h⟩:=h;exact iD f h
def dI{U1:Env}(h:a U=Y (.nx U1))(q:∃z,b U1=Y (.rt v z)):∃z,ak a b U=Y (.rt v z):=by
 obtain⟨z,q⟩:=q;exact⟨z,sq h q⟩
noncomputable def Nc(L:Nat)(t:Tx):List Tx:=(List.range (t.length+1-L)).map λi=>(t.drop i).take L
def vQ{L:Nat}(e:0<L):w∈Nc L t↔w.length=L/\w <:+: t:=by
 constructor
 ·intro h;obtain⟨i,d,rfl⟩:=JD.mp h;have:=YV.mp d;exact⟨by rw[Kw,Yz];omega,(V8 _ _).isInfix.trans (List.drop_suffix _ _).isInfix⟩
 ·rintro⟨h,a,b,rfl⟩;refine JD.mpr ⟨a.length,YV.mpr (by rw[Zw,Zw];omega),?_⟩;rw[Zf,List.drop_left,← h,W0]
def BQ(t:Tx)(i L:Nat)(h:i<=t.length):cut t (Y (i:Int)) (Y ((i:Int)+(L:Int)))=(t.drop i).take L:=by
 have b:¬((i:Int)<0):=by lia
 have a:¬((i:Int)+(L:Int)<0):=by lia
 simp only[cut,clip,Zl b,Zl a,Yl];rw[show ((i:Int)+(L:Int)).toNat=i+L by lia,Yh h];by_cases q:i+L<=t.length
 ·rw[Yh q,show i+L-i=L by exact YD _ _]
 ·rw[WW (by exact X1 q),Yv (l:=t.drop i) (by simp),Yv (l:=t.drop i) (by simp;lia)]
def EE{i:Nat}{U:Env}{l r:List Tx}(d:U[i]?=Y (Y (.ow (.lst (l.map .str)))))(b:e U=Y (.fr,.lst (r.map .str)))(f:l.length+r.length<=16777216):sX (j4 i [] cN (ab e ai)) U=Y (.nx (U.set i (Y (.ow (.lst ((l++r).map .str)))))):=by
 have ex:=nV (l:=l.map T.str) (r:=r.map T.str) (by rw[Zt,Zt];omega);have a:ab e ai U=Y [(.fr,.lst (r.map .str))]:=xv b M;unfold sX j4;rw[d];show ((Y ([]:List Ky)).bind _ |>.map _)=_;rw[Zs,a,Zs];show ((cN (.lst (l.map T.str)) [(.fr,.lst (r.map .str))]).map _ |>.map _)=_;rw[ex,Yu];rfl
abbrev EP(a:List Tx)(L:Nat)(f z:Uw):Env:=[pc (.lst (a.map .str)),Q0 (L:Int),f,z]
def Gi(h:KU a)(L:Nat)(E:L<=1000):∃ps:List Tx,eK [.lst (a.map .str),.int (L:Int)]=Y (.fr,.lst (ps.map .str))/\ps.Nodup/\ps.length<=1000/\∀w,w∈ps↔w.length=L/\Pt a w:=by
 by_cases n:L=0
 ·subst n;refine⟨[[]],iD M (gp (ift (m:=.fr) M M)),ZY.mpr ⟨(λz=>nomatch z),Yt⟩,by decide,λw=>?_⟩;rw[Zk,Xs];exact⟨λe=>⟨e,.inl e⟩,λe=>e.1⟩
 ·have u:0<L:=by exact KR n
  obtain⟨F,f1,f,⟨z,rfl⟩,p,o⟩:=fI (tg:=aY 3) (body:=jK) T.str (λr U=>∃f:List Tx,(∃z,U=EP a L (oc (.lst (f.map .str))) z)/\f.length+dc r+r.length<=168/\∀w,(w∈f\/∃t∈r,w∈Nc L t) ↔ ∃t∈a,w∈Nc L t) (by
   rintro t r _ ⟨f,⟨z,rfl⟩,p,o⟩;rw[Cp,Zg]at p;have pl:(Nc L t).length<=t.length+1:=by unfold Nc;rw[Zt,ZC];exact YW _ _
   refine⟨EP a L (oc (.lst (f.map .str))) (Q2 t),_,rfl,EE (i:=2) (l:=f) (r:=Nc L t) M ?_ `am,f++Nc L t,⟨Q2 t,rfl⟩,by rw[Zw];lia,λw=>?_⟩
   ·rw[show (Nc L t).map T.str=(List.range (t.length+1-L)).map λe=>T.str ((t.drop e).take L) from by unfold Nc;rw[Yp];rfl];refine fG (m:=.fr) (λ(e:Nat)=>T.int (e:Int)) (λe=>T.str ((t.drop e).take L)) (List.range (t.length+1-L)) ?_ M (by rw[ZC];omega) λe he=>⟨_,rfl,?_⟩
    ·rw[dF (m:=.fr) (j:=(t.length:Int)-(L:Int)+1) M `am,show ((t.length:Int)-(L:Int)+1).toNat=t.length+1-L by lia,fS]
    ·have:=YV.mp he;rw[← BQ t e L (by omega)];rfl
   ·rw[← o w,Zi];constructor
    ·rintro ((q | q) | ⟨v,b,q⟩)
     ·exact .inl q
     ·exact .inr ⟨t,Zx,q⟩
     ·exact .inr ⟨v,Zv _ b,q⟩
    ·rintro (q | ⟨v,b,q⟩)
     ·exact .inl (.inl q)
     ·rcases Zj.mp b with rfl | b
      ·exact .inl (.inr q)
      ·exact .inr ⟨v,b,q⟩) a (EP a L (oc (.lst [])) O) ⟨[],⟨O,rfl⟩,by have:=h.sum;have:=h.Jo;show 0+dc a+a.length<=168;lia,λw=>⟨λq=>q.elim (λz=>nomatch z) id,.inr⟩⟩
  have D:f.length<=168:=by have:f.length+0+0<=168:=p;omega
  have st:strs? (f.map T.str)=Y f:=by
   have:=strs_map (λx:Tx=>x) f
   rwa [List.map_id']at this
  have nd:(cU (dedup f)).Nodup:=(eZ _).nodup_iff.mpr (jd f);have s:∀w,w∈cU (dedup f)↔w∈f:=λw=>(eZ _).mem_iff.trans (hJ f w);refine⟨cU (dedup f),?_,nd,ZL (AU.sub_len _ f nd λx C=>(s x).mp C) `am,λw=>?_⟩
  ·refine yT M (dI (xp (m:=.fr) (e2v (x:=(.fr,.int (L:Int))) (y:={`bv,0}) M M (iG (r:=B) M M (by simp only[eqT];exact beq_false_of_ne `am))) M) (dI (U1:=EP a L (oc (.lst [])) O) M (dI ((dY (m:=.pu) M M).trans f1) (dI (U1:=EP a L (pc (.lst (f.map .str))) z) M ⟨_,d7 (k8 (xv (r:=ai) (x:=(.pu,.lst (f.map .str))) M M) ?_)⟩))));show (strs? (f.map T.str)).bind _=_;rw[st];exact Zo `am
  ·rw[s w,show (w∈f)=(w∈f\/∃t∈([]:List Tx),w∈Nc L t) from propext ⟨.inl,λq=>q.elim id λ⟨_,z,_⟩=>nomatch z⟩,o w];constructor
   ·rintro⟨t,g,q⟩;obtain⟨A,d⟩:=(vQ u).mp q;exact⟨A,.inr ⟨t,g,d⟩⟩
   ·rintro⟨q,rfl | ⟨t,g,d⟩⟩
    ·exact absurd q.symm n
    ·exact⟨t,g,(vQ u).mpr ⟨q,d⟩⟩
open Classical in
def HV(h:KU a){b:Tx}(l:0<b.length)(p:b.length<=26)(m:b.Nodup)(i:Az b):∃x,cJ [.lst (a.map .str),.str b]=Y (.fr,.str x)/\¬Pt a x/\x.length<=dc a+1/\Az x/\At (λw=>decide (Pt a w)) b x:=by
 have f:∀w,decide (Pt a w)=L↔Pt a w:=λw=>decide_eq_true_iff;obtain⟨x,g⟩:=C1 l m (parts a) (P:=λw=>decide (Pt a w)) (λw hw=>wN ((f w).mp hw)) ((f []).mpr (.inl M));have hlen:=h.parts;obtain⟨o,w,c,n,q,e⟩:=Gh _ _ (λw hw=>by rw[Zk.mp hw];exact(f []).mpr (.inl M)) g;have hw:=(f w).mp n;have j:=GI l ((f []).mpr (.inl M)) g;exact⟨x,xg h f i p `am g,of_decide_eq_false o,by have:=h.pt hw;rw[e,Zw,LI];exact Xo this,λd hd=>i d (j.long.1 d hd),j⟩
structure Lk(bk:List Tx)(ls x:Tx):Prop where
 ok:cJ [.lst (bk.map .str),.str ls]=some (.fr,.str x)
 no:¬Pt bk x
 le:x.length<=dc bk+1
 at':∃n A B,ws ls (n+1)=A++x :: B/\(∀w∈A,Pt bk w)/\∀k,k<=n->∀w∈ws ls k,Pt bk w
 az:Az x
open Classical in
def DB(h:KU b){a:Tx}(q:0<a.length)(r:a.length<=26)(i:a.Nodup)(g:Az a):∃x,Lk b a x:=by
 obtain⟨x,p,o,m,l,n,A,B,e,f,d⟩:=HV h q r i g;exact⟨x,p,o,m,⟨n,A,B,e,λw hw=>of_decide_eq_true (f w hw),λk j w hw=>of_decide_eq_true (d k j w hw)⟩,l⟩
def Lk.mem(h:Lk d a x):x∈ws a x.length/\0<x.length/\∀k,k<x.length->∀w∈ws a k,Pt d w:=by
 obtain⟨n,A,B,e,_,f⟩:=h.at';have b:x∈ws a (n+1):=by rw[e];exact ZX _ Zx
 have:=(fu.mp b).1;exact⟨this ▸ b,by lia,λk g=>f k `am⟩
def Lk.mono{f:List Tx}(h:Lk f d x)(e:Lk g a b)(i:∀c∈a,c∈d)(l:∀w,Pt f w->Pt g w):x.length<=b.length:=by
 refine ZK λq=>e.no (l _ (h.mem.2.2 _ q _ (fu.mpr ⟨rfl,λc j=>i c ((fu.mp e.mem.1).2 c j)⟩)))
def Lk.full(h:Lk b a x):j8 [.lst (b.map .str),.str a]=Y {`bv,(x.length:Int)-1} :=
 iD M (d7 (e2v (k8 (xv (r:=ai) (dq (xv (x:=(.pu,.lst (b.map .str))) M (xv (r:=ai) (x:=(.fr,.str a)) M M)) h.ok) M) M) (y:={`bv,1}) M M))
noncomputable def ov(a w:Tx):Bool:=w.all λc=>decide (c∈a)
def qI:ov a w=L ↔ ∀c∈w,c∈a:=by
 unfold ov;rw[Yr];exact forall_congr' λc=>forall_congr' λ_=>decide_eq_true_iff
def p7(x y:Tx):PySem.Txt.contains (sx y) (sx x)=L↔x <:+: y:=by
 refine(PySem.StrLaws.found_iff (sx y) (sx x)).trans ⟨λ⟨i,h,d⟩=>?_,λ⟨a,b,e⟩=>⟨a.length,?_,?_⟩⟩
 ·rw[Vr]at d;have:(y.drop i).take x.length=x:=by simpa[sx,PySem.Str.length] using d
  rw[← this];exact((V8 _ _).isInfix).trans (List.drop_suffix _ _).isInfix
 ·show a.length+x.length<=y.length;rw[← e,Zw,Zw];exact ZQ _ _
 ·rw[Vr];have:(y.drop a.length).take x.length=x:=by rw[← e,Zf,List.drop_left,W0]
  simpa[sx,PySem.Str.length] using this
def in1(c:Nat)(d:Tx):PySem.Txt.contains (sx d) (sx [c])=decide (c∈d):=by
 rw[YF,p7,decide_eq_true_iff];exact⟨λh=>h.subset Zx,λh=>let ⟨a,b,e⟩:=List.append_of_mem h;⟨a,b,by rw[e,Zf];rfl⟩⟩
def Dz{U:Env}{i j:Nat}{w ls:Tx}(h:U[i]?=Y (Q2 w))(g:U[j]?=Y (Q2 ls))(hw:w.length<=16777216):e2 oEq (bD 1 (aY 0) (c8 (aa i)) (Y (e2 jF (aa 0) (aa (j+1)))) (aa 0)) (bW ai) U=Y (.fr,.bl (ov ls w)):=by
 have e1:c8 (aa i) U=Y (.fr,w.map s1):=by unfold c8 aa;rw[h];rfl
 have l:bD 1 (aY 0) (c8 (aa i)) (Y (e2 jF (aa 0) (aa (j+1)))) (aa 0) U=Y (.fr,.lst ((w.filter λc=>!decide (c∈ls)).map s1)) :=
  dR (m:=.fr) s1 (λc=>!decide (c∈ls)) s1 w e1 M hw λc b=>⟨pc (s1 c) :: U,(.fr,.bl (!decide (c∈ls))),rfl,e2v (x:=(.fr,s1 c)) (y:=(.fr,.str ls)) M (by unfold aa;rw[Vs,g];rfl) (by rw[← in1];rfl),rfl,λ_=>rfl⟩
 refine e2v (y:=(.fr,.lst [])) l M (iG ?_ M ?_)
 ·show (List.all _ (JK 59))=L;rw[V2];exact Yr.mpr λ_ _=>rfl
 ·cases a:w.filter λc=>!decide (c∈ls) with
  |nil =>
   rw[qI.mpr λc b=>?_]
   ·rfl
   ·have:=List.filter_eq_nil_iff.mp a c b;simpa using this
  |cons c r =>
   have:c∈w.filter λc=>!decide (c∈ls):=by rw[a];exact Zx
   obtain⟨e,d⟩:=Y4.mp this;cases f:ov ls w with
   |false=>rfl
   |true =>
    have:=qI.mp f c e;simp[this]at d
def Eh{u v:Tx}(a b:Tx):u.length=v.length->u<v->u++a<v++b:=by
 induction u generalizing v with
 |nil =>
  intro e d;rw[Xs.mp e.symm]at d;exact absurd d (XX _)
 |cons x u f =>
  intro e d;cases v with
  |nil=>cases e
  |cons y v =>
   rw[YB,YB,Y9];rcases Y9.mp d with h | ⟨rfl,h⟩
   ·exact .inl h
   ·exact .inr ⟨rfl,f (by simpa using e) h⟩
theorem AO{e:Tx}(i:e.Pairwise (· < ·)){n:Nat}:∀{l:List Tx},(∀w∈l,w.length=n)->l.Pairwise (· < ·)->(ext e l).Pairwise (· < ·)
 |[],_,_=>List.Pairwise.nil
 |w :: l,g,h=>by
  obtain⟨o,m⟩:=Wv.mp h;show ((e.map λc=>w++[c])++ext e l).Pairwise (· < ·);refine ZA.mpr ⟨List.Pairwise.map (λc=>w++[c]) (λa b q=>List.append_left_lt (by rw[Y9];exact .inl q)) i,AO i (λv f=>g v (Zv _ f)) m,λa j b hb=>?_⟩;obtain⟨c,_,rfl⟩:=JD.mp j;obtain⟨v,f,d,_,rfl⟩:=ext_mem.mp hb;exact Eh _ _ (by rw[g w Zx,g v (Zv _ f)]) (o v f)
theorem Dg{a:Tx}(b:a.Pairwise (· < ·)):∀n,(ws a n).Pairwise (· < ·)
 |0=>Wt _ _
 |n+1=>AO b (n:=n) (λ_ hw=>(fu.mp hw).1) (Dg b n)
def Dd{α:Type}[LT α](d:∀a:α,¬a<a){l:List α}(h:l.Pairwise (· < ·)):l.Nodup:=List.Pairwise.imp (S:=λa b:α=>a≠b) (λ{a b} (q:a<b) (e:a=b)=>d b (by rw[e]at q;exact q)) h
def Ag{a:Tx}(h:a.Pairwise (· < ·)):a.Nodup:=Dd YA h
noncomputable def val(b x:Tx):Nat:=x.foldl (λa c=>a*b.length+b.idxOf c) 0
theorem ext_get{a:Tx}(b:a[j]?=Y c):∀{l:List Tx}{w:Tx}{i:Nat},l[i]?=Y w->(ext a l)[i*a.length+j]?=Y (w++[c])
 |[],_,_,h=>by simp at h
 |v :: l,w,i,h=>by
  have d:=(ZW.mp b).1;show ((a.map λc=>v++[c])++ext a l)[i*a.length+j]?=_;cases i with
  |zero =>
   cases h;rw[Nat.zero_mul,Xg,Mu (by rw[Zt];exact d),ZP,b];rfl
  |succ i =>
   rw[Mv (by rw[Zt,WE];lia),Zt,show (i+1)*a.length+j-a.length=i*a.length+j from by rw[WE];lia];exact ext_get b (by simpa using h)
theorem zX:∀{n:Nat}{x:Tx},x∈ws a n->(ws a n)[val a x]?=Y x
 |0,x,h=>by
  cases Zk.mp h;rfl
 |n+1,x,h=>by
  obtain⟨w,hw,c,b,rfl⟩:=ext_mem.mp h;have e:val a (w++[c])=val a w*a.length+a.idxOf c:=by unfold val;rw[List.foldl_append];rfl
  rw[e];have d:=Wy.mpr b;exact ext_get (by rw[Zq d,W5]) (zX hw)
theorem Lk.val{b:Tx}(m:b.Pairwise (· < ·))(h:Lk f b x):∃A B,ws b x.length=A++x :: B/\(∀w∈A,Pt f w/\w<x)/\(∀w∈B,x<w)/\A.length=T39.val b x:=by
 obtain⟨n,A,B,e,q,_⟩:=h.at';have d:x∈ws b (n+1):=by rw[e];exact ZX _ Zx
 have o:=(fu.mp d).1;rw[o];have pw:=Dg m (n+1);have nd:(ws b (n+1)).Nodup:=Dd (λa=>XX a) pw;have g:=zX d;rw[e]at pw nd g;obtain⟨_,l,j⟩:=ZA.mp pw;refine⟨A,B,e,λw hw=>⟨q w hw,j w hw x Zx⟩,(Wv.mp l).1,?_⟩;have p:(A++x :: B)[A.length]?=Y x:=by rw[Mv (Zp _),VH];rfl
 exact(List.getElem?_inj (i:=A.length) (by rw[Zw,Zg];lia) nd).mp (p.trans g.symm)
def Lk.next{d:Tx}(o:d.Pairwise (· < ·))(h:Lk i d x)(b:Lk f d a)(g:∀w,Pt i w->Pt f w)(n:Pt f x):x.length<a.length\/x.length=a.length/\x<a:=by
 rcases Wh x.length a.length with q | q
 ·exact .inl q
 ·have e:=Y3 (h.mono b (λ_ z=>z) g) q;obtain⟨A,B,eq,l,j,_⟩:=h.val o;have m:=b.mem.1;rw[← e,eq]at m;refine .inr ⟨e,?_⟩;rcases Zi.mp m with m | m
  ·exact absurd (g _ (l _ m).1) b.no
  ·rcases Zj.mp m with rfl | m
   ·exact absurd n b.no
   ·exact j _ m
end T39
end
section
namespace T39
open VS AU
def yh(a:List Tx):∀k,iE k (a.map .str)=(a.zipIdx k).map λp=>T.tup [.int (p.2:Int),.str p.1]:=by
 induction a with
 |nil=>exact λk=>rfl
 |cons t r b=>exact λk=>by rw[Zc,iE,b,List.zipIdx_cons,Zc]
def yn{α:Type}(l:List α)(k:Nat)(h:k<=l.length):cut l (Y (k:Int)) O=l.drop k:=by
 have a:clip l.length (k:Int)=k:=by
  unfold clip;rw[Zl `am,Yl,Yh h]
 show (l.drop (clip l.length (k:Int))).take (l.length-clip l.length (k:Int))=_;rw[a];exact Yv (by rw[Yz];exact Zp _)
def Hu{m n:Md}{k:Nat}(e:a U=Y (m,.str t))(d:b U=Y (n,.int (k:Int))):LF a O (Y b) U=Y (.fr,.str (t.take k)):=by
 unfold LF pb;dsimp only;rw[e,d];show Y (Md.fr,T.str (cut t O (Y (k:Int))))=_;rw[nc]
def Bf(w t:Tx):((List.range (t.length+1)).filter λe=>w.isSuffixOf (t.take e)).isEmpty=!PySem.Txt.contains (sx t) (sx w):=by
 rw[YF,List.isEmpty_iff,List.filter_eq_nil_iff,V3,Bool.eq_false_iff,ne_eq,p7];constructor
 ·rintro h ⟨a,b,e⟩;refine h (a++w).length (YV.mpr (by rw[← e,Zw (as:=a++w)];lia)) (W4.mpr ?_);rw[← e,W0];exact List.suffix_append a w
 ·exact λh e _ z=>h ((W4.mp z).isInfix.trans (V8 _ _).isInfix)
noncomputable abbrev tP(p:Nat×Nat):T:=.tup [.int (p.1:Int),.int (p.2:Int)]
abbrev Pa(f:List Tx)(w:Tx)(e:List (Nat×Nat))(d b a:Uw):Env:=[pc (.lst (f.map .str)),Q2 w,oc (.lst (e.map tP)),d,b,a]
def rK{bk:List Tx}(z:bk.length<=8)(s:∀t∈bk,t.length<=120)(w:Tx):∃ps:List (Nat×Nat),g9 [.lst (bk.map .str),.str w]=Y (.fr,.lst (ps.map tP))/\ps.isEmpty=!bk.any λt=>PySem.Txt.contains (sx t) (sx w):=by
 obtain⟨A,f1,a,f,d,b,rfl,_,_,he⟩:=fI (tg:=xf [aY 3,aY 4]) (body:=lX) (λ(p:Tx×Nat)=>T.tup [.int (p.2:Int),.str p.1]) (λr U=>∃a f d b,U=Pa bk w a f d b/\(∀p∈r,p.1.length<=120)/\a.length+121*r.length<=968/\(!a.isEmpty||r.any λp=>PySem.Txt.contains (sx p.1) (sx w))=bk.any λt=>PySem.Txt.contains (sx t) (sx w)) (by
  rintro⟨t,n⟩ r _ ⟨a,f,d,b,rfl,i,q,he⟩;rw[Zg]at q;have y:t.length<=120:=i (t,n) Zx;have sh:=Bf w t;have h:=Xk (λe=>w.isSuffixOf (t.take e)) (List.range (t.length+1));rw[ZC]at h;have v:=dR (k:=1) (tg:=aY 0) (it:=b6 (e2 aW (eN bu {`bn,4}) (Q3 1))) (c:=eM pq (LF (aa 5) O (Y (aa 0))) {`bn,2}) (elt:=aa 0) (U:=Pa bk w a (Q0 (n:Int)) (Q2 t) b) (m:=.fr) (λ(e:Nat)=>T.int (e:Int)) (λe=>w.isSuffixOf (t.take e)) (λe=>T.int (e:Int)) (List.range (t.length+1)) (by
    rw[dF (m:=.fr) (j:=(t.length:Int)+1) M `am,show ((t.length:Int)+1).toNat=t.length+1 by lia,fS]) M (by rw[ZC];lia) λe _=>⟨_,(.fr,.bl (w.isSuffixOf (t.take e))),rfl,qb (Hu (m:=.fr) (n:=.fr) M M) (xv (r:=ai) (x:=(.fr,.str w)) M M) M,rfl,λ_=>rfl⟩
  generalize (List.range (t.length+1)).filter (λe=>w.isSuffixOf (t.take e))=es at *;have u:=fG (k:=1) (tg:=aY 0) (it:=c8 (aa 5)) (elt:=jA (ab (aa 4) {`bn,0})) (U:=Pa bk w a (Q0 (n:Int)) (Q2 t) (pc (.lst (es.map λ(e:Nat)=>T.int (e:Int))))) (m:=.pu) (λ(e:Nat)=>T.int (e:Int)) (λe=>tP (n,e)) es M M `am λe _=>⟨_,rfl,rfl⟩
  have ex:sX (j4 2 [] cN (ab (bD 1 (aY 0) (c8 (aa 5)) O (jA (ab (aa 4) {`bn,0}))) ai)) (Pa bk w a (Q0 (n:Int)) (Q2 t) (pc (.lst (es.map λ(e:Nat)=>T.int (e:Int)))))=Y (.nx (Pa bk w (a++es.map λe=>(n,e)) (Q0 (n:Int)) (Q2 t) (pc (.lst (es.map λ(e:Nat)=>T.int (e:Int)))))):=by
   show (((Y ([]:List Ky)).bind λo=>(ab _ ai _).bind λl=>(pm (λx=>cN x l) o (.lst (a.map tP))).map _).map _)=_;rw[Zs,xv (r:=ai) u M,Zs];show ((cN (.lst (a.map tP)) [(.fr,.lst (es.map λe=>tP (n,e)))]).map _ |>.map _)=_;rw[nV (by rw[Zt,Zt];lia),show a.map tP++es.map (λe=>tP (n,e))=(a++es.map λe=>(n,e)).map tP from by rw[Yu,Yp];rfl];rfl
  refine⟨_,_,rfl,sq (aH (m:=.fr) v `ao (by show 5<6;decide)) ex,_,_,_,_,rfl,λp g=>i p (Zv _ g),by rw[Zw,Zt];lia,?_⟩;rw[← he,Xy];have:PySem.Txt.contains (sx t) (sx w)=!es.isEmpty:=by rw[sh,Bool.not_not]
  show _=(!a.isEmpty||(PySem.Txt.contains (sx t) (sx w)||_));rw[this];cases a<;>cases es<;>rfl) (bk.zipIdx 0) (Pa bk w [] O O O) ⟨[],_,_,_,rfl,λp g=>s _ (List.fst_mem_of_mem_zipIdx g),by rw[List.length_zipIdx];show 0+_<=_;lia,by
   show (B||_)=_;rw[VO,show (λp:Tx×Nat=>PySem.Txt.contains (sx p.1) (sx w))=(λt=>PySem.Txt.contains (sx t) (sx w)) ∘ Prod.fst from rfl,← List.any_map,List.zipIdx_map_fst]⟩
 refine⟨a,iD M (sq (U1:=Pa bk w [] O O O) M (sq ((dY (m:=.pu) ?_ M).trans f1) M)),?_⟩
 ·show Y (Md.pu,iE 0 (bk.map .str))=_;rw[yh]
 ·rw[← he];show _=!(!a.isEmpty||B);cases a<;>rfl
def Di{b:List Tx}(d:u≠[]):(b.any λt=>PySem.Txt.contains (sx t) (sx u))=L↔Pt b u:=by
 rw[Xm];constructor
 ·rintro⟨t,a,h⟩;exact .inr ⟨t,a,(p7 u t).mp h⟩
 ·rintro (h | ⟨t,a,h⟩)
  ·exact absurd h d
  ·exact⟨t,a,(p7 u t).mpr h⟩
def ne_int{m n:Md}{i j:Int}(e:a U=Y (m,.int i))(d:b U=Y (n,.int j))(h:i=j):e2 Lp a b U=Y (.fr,.bl B):=e2v e d (zF (r:=L) M M (by rw[h];simp only[eqT,beq_self_eq_true]))
def AX{α:Type}(f:α->T)(b:∀a,JK 59 (f a)=L)(l:List α):JK 60 (.lst (l.map f))=L:=by
 show ((l.map f).all (JK 59))=L;rw[V2];exact Yr.mpr λa _=>b a
def qE{α:Type}(f:α->T)(l:List α):eqT (.lst (l.map f)) (.lst [])=l.isEmpty:=by
 cases l<;>rfl
def Ad{a b:Ex}{U:Env}{r:Bool}(h:e2 oEq a b U=Y (.fr,.bl r)):e2 Lp a b U=Y (.fr,.bl (!r)):=by
 unfold e2 at h ⊢;obtain⟨x,ex,h⟩:=Zz.mp h;obtain⟨y,d,h⟩:=Zz.mp h;rw[ex,Zs,d,Zs];unfold oEq at h;unfold Lp;split at h
 ·rename_i q;cases h;exact Zo q
 ·cases h
def vS(h:KU f)(d:Tx){L:Nat}(o:L<=1000){U:Env}{a:Ex}(s:aa 0 U=Y (.pu,.lst (f.map .str)))(q:U[1]?=Y (Q2 d))(p:a U=Y (.fr,.int (L:Int))):∃ps:List Tx,bD 1 (aY 0) (c8 (cP eK (ab (aa 0) (ab a ai)))) (Y (e2 oEq (bD 1 (aY 0) (c8 (aa 0)) (Y (e2 jF (aa 0) (aa 3))) (aa 0)) (bW ai))) (aa 0) U=Y (.fr,.lst (ps.map .str))/\ps.Nodup/\ps.length<=1000/\∀w,w∈ps↔w∈ws d L/\Pt f w:=by
 obtain⟨g,e,nd,n,l⟩:=Gi h L o;refine⟨g.filter (ov d),dR (m:=.fr) T.str (ov d) T.str g (su (dq (xv s (xv (r:=ai) p M)) e)) M `am λw hw=>⟨Q2 w :: U,(.fr,.bl (ov d w)),rfl,Dz (i:=0) (j:=2) M q (by have:=((l w).mp hw).1;lia),rfl,λ_=>rfl⟩,nd.filter _,ZL (Xk _ _) n,λw=>?_⟩;rw[Y4,l w,qI,fu];exact⟨λ⟨⟨a,b⟩,c⟩=>⟨⟨a,c⟩,b⟩,λ⟨⟨a,c⟩,b⟩=>⟨⟨a,b⟩,c⟩⟩
def yN{m:Md}{l:List Tx}(h:a U=Y (m,.lst (l.map .str))):eN bu (ab a ai) U=Y (.fr,.int (l.length:Int)):=k8 (xv (r:=ai) h M) (by
 show Y (Md.fr,T.int (((l.map T.str).length:Nat):Int))=_;rw[Zt])
abbrev ES(g:List Tx)(f x:Tx)(s:Nat)(e d b a:Uw):Env:=[pc (.lst (g.map .str)),Q2 f,Q2 x,Q0 (s:Int),e,d,b,a]
def A9(u:KU bk)(UC:dc bk<=120){ls:Tx}(Lr:ls.length<=26)(F:ls.Pairwise (· < ·))(h:Lk bk ls x):gu [.lst (bk.map .str),.str ls,.str x]=Y (.fr,.bl true):=by
 obtain⟨E,J,hk⟩:=h.mem;have hle:=h.le;have G:=Ag F;have P:x≠[]:=λe=>by rw[e]at J;cases J
 obtain⟨pl,ep,SX⟩:=rK (bk:=bk) u.Jo (λt ht=>ZL (jx ht) UC) x;have Z:pl.isEmpty=true:=by
  rw[SX];cases hq:bk.any λt=>PySem.Txt.contains (sx t) (sx x) with
  |false=>rfl
  |true=>exact absurd ((Di P).mp hq) h.no
 obtain⟨U',f1,s,f,b,rfl,fs⟩:=fI (tg:=aY 4) (body:=i5) (λ(k:Nat)=>T.int (k:Int)) (λr U=>∃(s:Nat)(f b:Uw),U=ES bk ls x s f b O O/\(r=[]\/∃k,r=List.range' k (x.length-k)/\s=ls.length ^ k)) (by
  rintro k r _ ⟨s,f,b,rfl,e⟩;obtain⟨p,e1,rfl⟩:=e.resolve_left (λz=>nomatch z);have Mr:p<x.length:=by
   refine V7 λq=>?_;rw[Nat.sub_eq_zero_of_le q]at e1;cases e1
  rw[show x.length-p=(x.length-(p+1))+1 from by lia,Vt]at e1;cases e1;obtain⟨ps,JC,nd,pl,pm⟩:=vS u ls (L:=k) `am (U:=ES bk ls x (ls.length ^ k) (Q0 (k:Int)) b O O) (a:=aa 4) M M M;have o:ps.length=ls.length ^ k:=by
   rw[← uv];exact wm nd (AF G k) λw=>(pm w).trans ⟨λq=>q.1,λq=>⟨q,hk k Mr w q⟩⟩
  refine⟨_,_,rfl,sq (aH (m:=.fr) JC `ao (by show 5<8;decide)) (sq (xp (m:=.fr) (ne_int (yN (m:=.pu) M) (n:=.fr) (j:=((ls.length ^ k:Nat):Int)) M (by rw[o])) M) (aH (m:=.fr) (t:=.int ((ls.length ^ k*ls.length:Nat):Int)) (e2v (x:={`bv,((ls.length ^ k:Nat):Int)}) (y:=(.fr,.int (ls.length:Int))) M M ?_) `ao (by show 3<8;decide))),ls.length ^ k*ls.length,_,_,rfl,.inr ⟨k+1,rfl,(Nat.pow_succ ..).symm⟩⟩;rw[mul_r (by omega),Int.natCast_mul]) (List.range' 0 x.length) (ES bk ls x 1 O O O O) ⟨1,O,O,rfl,.inr ⟨0,by rw[Nat.sub_zero],rfl⟩⟩
 obtain⟨U2,f2,C,g,rfl,v⟩:=fI (tg:=aY 7) (body:=i8) s1 (λr U=>∃(a:Nat)(g:Uw),U=ES bk ls x s f b (Q0 (a:Int)) g/\(∀c∈r,c∈ls)/\r.foldl (λa c=>a*ls.length+ls.idxOf c) a=val ls x) (by
  rintro c r _ ⟨a,g,rfl,H,e⟩;refine⟨_,_,rfl,aH (m:=.fr) (t:=.int ((a*ls.length+ls.idxOf c:Nat):Int)) (e2v (x:={`bv,((a*ls.length:Nat):Int)}) (e2v (x:=(.fr,.int (a:Int))) (y:=(.fr,.int (ls.length:Int))) M M ((mul_r `am).trans (by rw[Int.natCast_mul]))) (qb (x:=(.fr,.str ls)) M (xv (r:=ai) (x:=(.fr,.str [c])) M M) (EU (H c Zx))) M) `ao (by show 6<8;decide),a*ls.length+ls.idxOf c,pc (s1 c),rfl,λd hd=>H d (Zv _ hd),e⟩) x (ES bk ls x s f b (Q0 ((0:Nat):Int)) O) ⟨0,O,rfl,(fu.mp E).2,rfl⟩
 have v:C=val ls x:=v.2;obtain⟨ps,e5,nd,X,pm⟩:=vS u ls (L:=x.length) `am (U:=ES bk ls x s f b (Q0 (C:Int)) g) (a:=eN bu {`bn,2}) M M M;obtain⟨A,B,N,D,S,lA⟩:=h.val F;have Q:=AF G x.length;rw[N]at Q;have cA:(ps.filter λw=>KD w x).length=A.length:=wm (nd.filter _) (Q.sublist (Wz _ _)) λw=>by
  rw[Y4,pm w,j5,decide_eq_true_iff,N];constructor
  ·rintro⟨⟨m,_⟩,R⟩;rcases Zi.mp m with m | m
   ·exact m
   ·rcases Zj.mp m with rfl | m
    ·exact absurd R (XX _)
    ·exact absurd (VP R (S w m)) (XX _)
  ·exact λm=>⟨⟨LH _ m,(D w m).1⟩,(D w m).2⟩
 refine yT M (dI (xp (m:=.fr) (S4 (m:=.fr) (n:=.fr) (x:=false) (y:=false) (e2v (x:=(.fr,.str x)) (y:=(.fr,.str [])) M M (iG (r:=false) M M ?_)) (S4 (m:=.fr) (n:=.fr) (x:=false) (y:=false) ?_ (e2v (dq (xv (x:=(.pu,.lst (bk.map .str))) M (xv (r:=ai) (x:=(.fr,.str x)) M M)) ep) (y:=(.fr,.lst [])) M ((zF (AX tP (λ_=>rfl) pl) M (qE tP pl)).trans (by rw[Z];rfl))))) M) (dI (U1:=ES bk ls x 1 O O O O) M (dI ((dY (m:=.fr) (l:=(List.range' 0 x.length).map λ(k:Nat)=>T.int (k:Int)) ?_ M).trans f1) (dI (U1:=ES bk ls x s f b (Q0 ((0:Nat):Int)) O) M (dI ((dY (m:=.fr) (l:=x.map s1) M M).trans f2) (dI (aH (m:=.fr) e5 `ao (by show 5<8;decide)) ⟨_,d7 (e2v (x:={`bv,((ps.filter λw=>KD w x).length:Int)}) (y:=(.fr,.int (C:Int))) (yN (m:=.fr) (dR (m:=.pu) T.str (λw=>KD w x) T.str ps M M `am λw _=>⟨_,(.fr,.bl (KD w x)),rfl,e2v (x:=(.fr,.str w)) (y:=(.fr,.str x)) M M M,rfl,λ_=>rfl⟩)) M (iG M M ?_))⟩))))))
 ·cases x with
  |nil=>exact absurd M P
  |cons _ _=>rfl
 ·exact(Ad (Dz (i:=2) (j:=1) (w:=x) (ls:=ls) M M `am)).trans (by rw[qI.mpr (fu.mp E).2];rfl)
 ·rw[dF (m:=.fr) (j:=(x.length:Int)) M `am,fS,Yl,List.range_eq_range']
 ·rw[cA,lA,v];simp only[eqT,beq_self_eq_true]
def Lk.Rg{x:Tx}(h:Lk b a x):j8 [.lst (b.map .str),.str a]=Y {`bv,((x.length-1:Nat):Int)}:=by
 rw[h.full,show (x.length:Int)-1=((x.length-1:Nat):Int) by have:=h.mem.2.1;lia]
def GQ{U:Env}{a:Ex}{m:Md}{bk:List Tx}(e:a U=Y (m,.lst (bk.map .str)))(d:R3 m (bk.map T.str)=L)(f:bk.length<=1000):eN ya (ab (bD 1 (aY 0) (c8 a) O (eN bu {`bn,0})) ai) U=Y (.fr,.int (dc bk:Int)):=by
 refine k8 (xv (r:=ai) (fG (m:=m) T.str (λt=>T.int (t.length:Int)) bk (su e) d `am λt _=>⟨_,rfl,rfl⟩) M) ?_;show (tN _).bind _=_;rw[ints_map (λt:Tx=>(t.length:Int))];show Y (Md.fr,T.int (bk.map λt=>(t.length:Int)).sum)=_;have:∀l:List Tx,(l.map λt=>(t.length:Int)).sum=(dc l:Int):=λl=>by
  induction l with
  |nil=>rfl
  |cons t l b=>rw[Zc,X9,b,Cp,Int.natCast_add]
 rw[this]
def GV{a:Ex}{U:Env}{m:Md}{l:List Tx}{lo hi:Option Ex}{p q:Option Int}(b:a U=Y (m,.lst (l.map .str)))(e:pb lo U=Y p)(d:pb hi U=Y q)(f:l.length<=1000):LF a lo hi U=Y (.fr,.lst ((cut l p q).map .str)):=by
 unfold LF;rw[b,e,d];show K9 m (cut (l.map T.str) p q)=_;rw[pS,k9 (by rw[Zt];have:=zf l p q;lia),Zo (gQ T.str (λ_=>rfl) _)]
abbrev EW(d:Vg)(S:T)(L:Tx)(bk:List Tx)(n:Int)(e x:Tx)(m:Nat)(b a f g:Uw):Env:=[pc (.scr d),pc S,Q2 L,pc (.lst (bk.map .str)),oc (.lst [.int n]),Q2 e,Q2 x,Q0 (m:Int),b,a,f,g]
structure Ok(ls:Tx)(m:Nat)(bk:List Tx)(x:Tx):Prop where
 b:KU bk
 s:dc bk<=120
 l:Lk bk ls x
 m:m<=x.length-1
structure Gr(bk:List Tx)(x:Tx)(g:List Tx):Prop where
 Jo:g.length<=8
 sum:dc g=dc bk+x.length
 az:(∀t∈bk,Az t)->Az x->∀t∈g,Az t
 up:∀w,Pt bk w->Pt g w
 has:Pt g x
def mG(a b:List Tx):dc (a++b)=dc a+dc b:=by unfold dc;rw[Yu,List.sum_append]
def uz{a:List Tx}(h:a.length<8):Gr a x (a++[x]):=⟨by rw[Zw];exact h,by rw[mG];rfl,λf e t d=>by
 rcases Zi.mp d with z | z
 ·exact f t z
 ·rw[Zk.mp z];exact e,λw z=>z.elim .inl λ⟨v,b,q⟩=>.inr ⟨v,LH _ b,q⟩,.inr ⟨x,ZX _ Zx,List.infix_refl _⟩⟩
def Gd{b:List Tx}{x:Tx}(h:b.length<=8)(g:k<b.length):Gr b x (b.take k++[b.getD k []++x]++b.drop (k+1)):=by
 have e:b=b.take k++b.getD k [] :: b.drop (k+1):=by
  conv=>lhs;rw[← Yi k b]
  rw[YK g,Zr,Zq g];rfl
 generalize b.take k=a at e ⊢;generalize b.getD k []=t at e ⊢;generalize b.drop (k+1)=c at e ⊢;subst e;rw[Zf];refine⟨?_,?_,λf i v d=>?_,λw z=>?_,.inr ⟨t++x,ZX _ Zx,(List.suffix_append t x).isInfix⟩⟩
 ·rw[Zw,Zg]at h;rw[Zw,List.singleton_append,Zg];exact h
 ·rw[List.singleton_append,mG,mG,Cp,Cp,Zw];lia
 ·rcases Zi.mp d with z | z
  ·exact f v (LH _ z)
  ·rcases Zj.mp z with rfl | z
   ·exact nR (f t (ZX _ Zx)) i
   ·exact f v (ZX _ (Zv _ z))
 ·rcases z with z | ⟨v,d,q⟩
  ·exact .inl z
  ·rcases Zi.mp d with z | z
   ·exact .inr ⟨v,LH _ z,q⟩
   ·rcases Zj.mp z with rfl | z
    ·exact .inr ⟨v++x,ZX _ Zx,q.trans (List.prefix_append v x).isInfix⟩
    ·exact .inr ⟨v,ZX _ (Zv _ z),q⟩
def FE{m:Md}(h:c U=Y (m,.bl b)):m7 c x U=if b then Y (L,U) else x U:=by
 unfold m7;rw[h];rfl
def EM{m:Md}{a:List Tx}{k:Nat}(h:x U=Y ((m,.lst (a.map .str)),g))(j:eW b g=Y (O,f))(i:eW d f=Y (Y (k:Int),e)):uo x b d U=Y ((.fr,.lst ((a.take k).map .str)),e):=by
 unfold uo;rw[h];show ((eW b g).bind _)=_;rw[j];show ((eW d f).bind _)=_;rw[i];show (if dJ (a.map T.str)=L then Y ((Md.fr,T.lst (cut (a.map T.str) O (Y (k:Int)))),e) else O)=_;rw[Zo (gQ T.str (λ_=>rfl) a),pS,nc]
def Cq{t:Nat}(h:x U=Y ((.fr,.int (t:Int)),a))(e:t<1000)(d:forL g b ((List.range t).map λ(k:Nat)=>T.int (k:Int)) a=Y o):sI g x b U=Y o:=by
 unfold sI;rw[h,Zs];refine(Zo (show Ir (T.int (t:Int))=L from rfl)).trans ((dY (m:=.fr) ?_ M).trans d);rw[dF (m:=.fr) (j:=(t:Int)) M `am,fS];rfl
def Cn(h:a U=Y (.bk d)):ak a b U=Y (.bk d):=by
 unfold ak;rw[h];rfl
def C6(g:b t U=Y e)(f:a e=Y (.bk d)):forL b a (t :: r) U=Y (.nx d):=by
 unfold forL;rw[g,Zs,f];rfl
section
variable{L:Tx}
def Ck{ls:Tx}(h0:0<ls.length)(Lr:ls.length<=26)(Q:ls.Pairwise (· < ·))(hz:Az ls)(h:Ok ls m bk x)(n:Int)(f C u j:Uw) :
  (∃P J9 w J v Mf,gT (EW ns S L bk n ls x m f C u j)=Y (.nx (EW ns S L J9 P ls w m f J v Mf))/\Ok ls m J9 w)\/∃P J v Mf,gT (EW ns S L bk n ls x m f C u j)=Y (.bk (EW ns S L bk P ls x m f J v Mf)):=by
 have R:=h.b.Jo;have hxl:=h.l.le;have QG:=h.s;have sh:=A9 h.b h.s Lr Q h.l;have gr:∃(o:Int)(g:List Tx)(v:Uw),Gr bk x g/\∀{r:Option Out}{rest:Sx},rest (EW ns S L bk o ls x m f (pc (.lst (g.map .str))) v j)=r->ak (qj (m7 (e2 oEq (eN bu {`bn,3}) (Q3 8)) (gg (e2 Lp (aa 3) (bW ai)) (Mg (x2 oEq {`b3,.io 4 B,Q3 2} (xI (Q3 1)))))) (ak (cp 10 {`b3,.io 4 B,eN bu {`bn,3}})
  (aI 9 (e2 aW (e2 aW (LF (aa 3) O (Y (aa 10))) (bW (ab (e2 aW (e2 aJ (aa 3) (aa 10)) (aa 6)) ai))) (LF (aa 3) (Y (e2 aW (aa 10) (Q3 1))) O)))) di) rest (EW ns S L bk n ls x m f (pc (.lst ((bk++[x]).map .str))) u j)=r:=by
  have len:∀(n:Int)(C u:Uw),eN bu {`bn,3} (EW ns S L bk n ls x m f C u j)=Y (.fr,.int (bk.length:Int)):=λn C u=>yN (m:=.pu) M;have yes:∀(n:Int),0<bk.length->∃(o:Int)(g:List Tx)(v:Uw),Gr bk x g/\(ak (cp 10 {`b3,.io 4 B,eN bu {`bn,3}}) (aI 9 (e2 aW (e2 aW (LF (aa 3) O (Y (aa 10))) (bW (ab (e2 aW (e2 aJ (aa 3) (aa 10)) (aa 6)) ai))) (LF (aa 3) (Y (e2 aW (aa 10) (Q3 1))) O)))) (EW ns S L bk n ls x m f (pc (.lst ((bk++[x]).map .str))) u j)=Y (.nx (EW ns S L bk o ls x m f (pc (.lst (g.map .str))) v j)):=λn hp=>by
   obtain⟨d,o,d0,d1,e⟩:=nx (m:=(bk.length:Int)) (x:=xI (eN bu {`bn,3})) (i:=4) (un:=B) (n:=n) (U:=EW ns S L bk n ls x m f (pc (.lst ((bk++[x]).map .str))) u j) (U1:=EW ns S L bk n ls x m f (pc (.lst ((bk++[x]).map .str))) u j) `am M (bR (len _ _ _) M) M;obtain⟨k,rfl⟩:∃k:Nat,d=(k:Int):=⟨d.toNat,by lia⟩
   have H:k<bk.length:=by lia
   have tl:=jx (jh H);have s1:=GV (a:=aa 3) (U:=EW ns S L bk o ls x m f (pc (.lst ((bk++[x]).map .str))) (Q0 (k:Int)) j) (m:=.pu) (l:=bk) (lo:=O) (hi:=Y (aa 10)) (p:=O) (q:=Y (k:Int)) M M M `am;have s2:=GV (a:=aa 3) (U:=EW ns S L bk o ls x m f (pc (.lst ((bk++[x]).map .str))) (Q0 (k:Int)) j) (m:=.pu) (l:=bk) (lo:=Y (e2 aW (aa 10) (Q3 1))) (hi:=O) (p:=Y ((k+1:Nat):Int)) (q:=O) M M M `am;rw[nc]at s1;rw[yn _ _ (by exact VJ H)]at s2;refine⟨o,_,_,Gd R H,sq (dX e M (by show 10<12;decide)) (aH (m:=.fr) (uL (uL s1 (D3 [bk.getD k []++x] (xv (r:=ai) (zu (e2v (x:=(.pu,.lst (bk.map .str))) (y:=(.fr,.int (k:Int))) M M (l6 T.str bk k [] H)) (n:=.fr) (y:=x) M `am) M) (by show 1<=16777216;decide)) (by rw[Kw,LI];lia)) s2 (by rw[Zw,Kw,Yz,LI];lia)) `ao (by show 9<12;decide))⟩
  have X:∀n,e2 oEq (eN bu {`bn,3}) (Q3 8) (EW ns S L bk n ls x m f (pc (.lst ((bk++[x]).map .str))) u j)=Y (.fr,.bl ((bk.length:Int)==8)):=λn=>eq_int 8 (len _ _ _);by_cases N:bk.length=8
  ·obtain⟨o,g,y,hg,e⟩:=yes n `am;refine⟨o,g,y,hg,λA=>sq ((vH ((FE (X n)).trans ?_)).trans e) A⟩;rw[N];rfl
  ·have F:((bk.length:Int)==8)=B:=beq_false_of_ne `am;have c2:e2 Lp (aa 3) (bW ai) (EW ns S L bk n ls x m f (pc (.lst ((bk++[x]).map .str))) u j)=Y (.fr,.bl (!bk.isEmpty)):=e2v (x:=(.pu,.lst (bk.map .str))) (y:=(.fr,.lst [])) M M (zF (AX T.str (λ_=>rfl) bk) M (qE T.str bk));have no:∀o,Gr bk x (bk++[x]):=λ_=>uz (by omega);cases hb:bk.isEmpty with
   |true =>
    refine⟨n,_,u,uz (by exact XR R N),λA=>sq ((pd ((FE (X n)).trans ?_)).trans M) A⟩;rw[F,Zl Zd];exact uR (c2.trans (by rw[hb];rfl))
   |false =>
    obtain⟨d,o,d0,d1,e⟩:=nx (m:=2) (x:=xI (Q3 2)) (i:=4) (un:=B) (n:=n) (U:=EW ns S L bk n ls x m f (pc (.lst ((bk++[x]).map .str))) u j) (U1:=EW ns S L bk n ls x m f (pc (.lst ((bk++[x]).map .str))) u j) `ao M (bR (m:=.fr) M M) M;have G:m7 (e2 oEq (eN bu {`bn,3}) (Q3 8)) (gg (e2 Lp (aa 3) (bW ai)) (Mg (x2 oEq {`b3,.io 4 B,Q3 2} (xI (Q3 1))))) (EW ns S L bk n ls x m f (pc (.lst ((bk++[x]).map .str))) u j)=Y (d==1,EW ns S L bk o ls x m f (pc (.lst ((bk++[x]).map .str))) u j):=by
     rw[FE (X n),F,Zl Zd];exact(uu (c2.trans (by rw[hb];rfl))).trans (qV e (bR (m:=.fr) M M))
    cases hd:d==1 with
    |true =>
     rw[hd]at G;obtain⟨n2,g,y,hg,e'⟩:=yes o (by cases bk with | nil=>cases hb | cons _ _=>exact Nat.succ_pos _);exact⟨n2,g,y,hg,λA=>sq ((vH G).trans e') A⟩
    |false =>
     rw[hd]at G;exact⟨o,_,u,uz (by exact XR R N),λA=>sq ((pd G).trans M) A⟩
 obtain⟨o,g,v,hg,step⟩:=gr;have hgs:=hg.sum;have Jo:=hg.Jo;have sm:=GQ (a:=aa 9) (U:=EW ns S L bk o ls x m f (pc (.lst (g.map .str))) v j) (m:=.pu) (bk:=g) M M `am;have go:∀{r:Option Out},_->gT (EW ns S L bk n ls x m f C u j)=r:=λ{r} (q:_=r)=>sq (xp (m:=.fr) (DM (m:=.fr) (b:=true) (dq (xv (x:=(.pu,.lst (bk.map .str))) M (xv (x:=(.fr,.str ls)) M (xv (r:=ai) (x:=(.fr,.str x)) M M))) sh)) M) (sq (aH (m:=.fr) (uL (m:=.pu) (n:=.fr) (x:=bk) (y:=[x]) M M (by show bk.length+1<=_;lia)) `ao (by show 9<12;decide)) (step q));by_cases PZ:120<dc g
 ·refine .inr ⟨o,_,v,j,go (Cn (ift (m:=.fr) (e2v sm (y:={`bv,120}) M (show Y (Md.fr,T.bl (decide ((120:Int)<(dc g:Int))))=_ from by rw[decide_eq_true (by omega)])) M))⟩
 ·have E:KU g:=⟨hg.Jo,by lia,hg.az h.b.az h.l.az⟩
  obtain⟨w,Z⟩:=DB E h0 Lr (Ag Q) hz;have D:=h.l.next Q Z hg.up hg.has;have RQ:x≠[]:=λe=>by have:=h.l.mem.2.1;rw[e]at this;cases this
  obtain⟨pl,ep,SX⟩:=rK (bk:=g) hg.Jo (λt ht=>ZL (jx ht) (by exact ZK PZ)) x;have pe:pl.isEmpty=B:=by rw[SX,(Di RQ).mpr hg.has];rfl
  have hm:=h.m;refine .inl ⟨o,g,w,_,v,_,go (sq (xp (m:=.fr) (e2v sm (y:={`bv,120}) M (show Y (Md.fr,T.bl (decide ((120:Int)<(dc g:Int))))=_ from by rw[ZM (by omega)])) M) (sq (aH (m:=.fr) (dq (xv (x:=(.pu,.lst (g.map .str))) M (xv (r:=ai) (x:=(.fr,.str ls)) M M)) Z.ok) `ao (by show 11<12;decide)) (sq (xp (m:=.fr) (S4 (m:=.fr) (n:=.fr) (x:=B) (y:=B) (e2v (dq (xv (x:=(.pu,.lst (g.map .str))) M (xv (r:=ai) (x:=(.fr,.str x)) M M)) ep) (y:=(.fr,.lst [])) M (iG (AX tP (λ_=>rfl) pl) M ((qE tP pl).trans pe))) (e2v (x:=(.fr,.tup [.int (w.length:Int),.str w])) (y:=(.fr,.tup [.int (x.length:Int),.str x])) M M ?_)) M) (sq (aH (i:=3) (m:=.pu) (t:=.lst (g.map .str)) M `ao (by show 3<12;decide)) (aH (i:=6) (m:=.fr) (t:=.str w) M `ao (by show 6<12;decide)))))),⟨E,by exact ZK PZ,Z,by rcases D with z | z<;>lia⟩⟩;show Y (Md.fr,T.bl (if (w.length:Int)=(x.length:Int) then !KD x w else decide ((w.length:Int)<(x.length:Int))))=_;rcases D with z | ⟨z,z2⟩
  ·rw[Zl `am,ZM `am]
  ·rw[Zo `am,j5,decide_eq_true z2];rfl
theorem vC{ls:Tx}(w:0<ls.length)(y:ls.length<=26)(v:ls.Pairwise (· < ·))(u:Az ls):∀(r:Vu){bk:List Tx}{x:Tx}(_:Ok ls m bk x)(n:Int)(j a g i:Uw),∃t o l z b f d,forL (aY 8) gT (r.map λ(k:Nat)=>T.int (k:Int)) (EW ns S L bk n ls x m j a g i)=Y (.nx (EW ns S L o t ls l m z b f d))/\Ok ls m o l
 |[],bk,x,h,n,j,a,g,i=>⟨n,bk,x,j,a,g,i,rfl,h⟩
 |k :: r,bk,x,h,n,j,a,g,i=>by
  rcases Ck (ns:=ns) (S:=S) (L:=L) w y v u h n (Q0 (k:Int)) a g i with⟨s,G,H,b,f,d,e,D⟩ | ⟨s,b,f,d,e⟩
  ·obtain⟨t,o,l,C,A,q,p,F,E⟩:=vC w y v u r D s (Q0 (k:Int)) b f d;exact⟨t,o,l,C,A,q,p,(iq M e).trans F,E⟩
  ·exact⟨s,bk,x,_,b,f,d,C6 M e,h⟩
end
def AN(ns:Vg)(X:ns.length<=63):xY [.scr ns]=Y (.fr,.bl true):=by
 obtain⟨n,e1⟩:=se ns X 0 `ao;obtain⟨v,L,JC,l0,C,lz⟩:=AZ n;have P:0<L.length/\L.length<=26/\Az L:=⟨l0,C,lz⟩
 obtain⟨g,e,e3,b8,bs,bz⟩:=FC P v;have sub:(e.take 5).Sublist e:=VC _ _;have sle:dc (e.take 5)<=120:=by
  have:=mG (e.take 5) (e.drop 5);rw[Yi]at this;have:dc e<=120:=bs;lia
 have Q:KU (e.take 5):=⟨ZL sub.length_le b8,by lia,λt ht=>bz t (sub.subset ht)⟩
 obtain⟨k,e5⟩:=se ns X 1 `ao;obtain⟨p,o,e6,R,Lr,N,J⟩:=wY P k;obtain⟨x,lk⟩:=DB Q R Lr (Ag N) J;have sp:∀{U:Env}{j k:Nat}{n:Int},aa 0 U=Y (.fr,.scr ns)->j<U.length->cB [.scr ns,.int (k:Int)]=Y (.fr,.lst [.int n])->ip j (cP cB (ab (aa 0) (ab (Q3 (k:Int)) ai))) U=Y (.nx (U.set j (oc (.lst [.int n])))):=λh1 h2 h3=>Bd (dq (xv h1 (xv (r:=ai) M M)) h3) M h2;have s3:ue 3 (uo (aF [(.io 1 B),(.px (xI (aa 2)))] dC) O (Y (xI (Q3 5)))) [pc (.scr ns),oc (.lst [.int v]),Q2 L,O,O,O,O,O,O,O,O,O]=Y (.nx [pc (.scr ns),oc (.lst [.int g]),Q2 L,pc (.lst ((e.take 5).map .str)),O,O,O,O,O,O,O,O]):=by
  have c:aF [(.io 1 B),(.px (xI (aa 2)))] dC [pc (.scr ns),oc (.lst [.int v]),Q2 L,O,O,O,O,O,O,O,O,O]=Y ((.fr,.lst (e.map .str)),[pc (.scr ns),oc (.lst [.int g]),Q2 L,O,O,O,O,O,O,O,O,O]):=cx (i:=1) (un:=B) (k:=0) (r:=[.px (xI (aa 2))]) (l:=[.str L]) M (sG (t:=.str L) (bR (m:=.fr) M M) M M) M M M M e3;have d:uo (aF [(.io 1 B),(.px (xI (aa 2)))] dC) O (Y (xI (Q3 5))) [pc (.scr ns),oc (.lst [.int v]),Q2 L,O,O,O,O,O,O,O,O,O]=Y ((.fr,.lst ((e.take 5).map .str)),[pc (.scr ns),oc (.lst [.int g]),Q2 L,O,O,O,O,O,O,O,O,O]):=EM c M (mD (bR (m:=.fr) (t:=.int ((5:Nat):Int)) M M));show (uo _ _ _ _).bind _=_;rw[d];rfl
 have A:∀{U:Env},aa 3 U=Y (.pu,.lst ((e.take 5).map .str))->aa 5 U=Y (.fr,.str o)->cP cJ (ab (aa 3) {`bn,5}) U=Y (.fr,.str x):=λa b=>dq (xv a (xv (r:=ai) b M)) lk.ok;have q:∀{U:Env}{bk:List Tx}{x:Tx},Lk bk o x->aa 3 U=Y (.pu,.lst (bk.map .str))->aa 5 U=Y (.fr,.str o)->cP j8 (ab (aa 3) {`bn,5}) U=Y {`bv,((x.length-1:Nat):Int)}:=λh a b=>dq (xv a (xv (r:=ai) b M)) h.Rg;obtain⟨d,D,d0,d1,e7⟩:=nx (m:=6) (x:=xI (Q3 6)) (i:=4) (un:=B) (n:=p) (U:=EW ns (.lst [.int g]) L (e.take 5) p o x (x.length-1) O O O O) (U1:=EW ns (.lst [.int g]) L (e.take 5) p o x (x.length-1) O O O O) `ao M (bR (m:=.fr) M M) M;have tn:∃t:Nat,t<100/\iZ (bW (ab (Q3 3) (ab (Q3 40) ai))) (wV (x2 oEq {`b3,.io 4 B,Q3 6} (xI (Q3 5)))) (EW ns (.lst [.int g]) L (e.take 5) p o x (x.length-1) O O O O)=Y ((.fr,.int (t:Int)),EW ns (.lst [.int g]) L (e.take 5) D o x (x.length-1) O O O O):=by
  have e8:=jE (f:=oEq) e7 (bR (c:=Q3 5) (m:=.fr) (t:=.int 5) M M) (u:=.bl (d==5)) (iG M M (by simp only[eqT])) M M M;have w:wV (x2 oEq {`b3,.io 4 B,Q3 6} (xI (Q3 5))) (EW ns (.lst [.int g]) L (e.take 5) p o x (x.length-1) O O O O)=Y ({`bv,if d==5 then 1 else 0},EW ns (.lst [.int g]) L (e.take 5) D o x (x.length-1) O O O O):=by
   unfold wV;rw[e8];rfl
  cases hd:d==5 with
  |true =>
   rw[hd]at w;exact⟨40,by decide,jy [3,40] M w `ao `ao⟩
  |false =>
   rw[hd]at w;exact⟨3,by decide,jy [3,40] M w `ao `ao⟩
 obtain⟨t,G,te⟩:=tn;obtain⟨H,J9,s,F,E,Kq,Z,f1,ok⟩:=vC (ns:=ns) (S:=.lst [.int g]) (L:=L) R Lr N J (List.range t) (⟨Q,sle,lk,Zp _⟩:Ok o (x.length-1) (e.take 5) x) D O O O O;have fr:sI (aY 8) (iZ (bW (ab (Q3 3) (ab (Q3 40) ai))) (wV (x2 oEq {`b3,.io 4 B,Q3 6} (xI (Q3 5))))) gT (EW ns (.lst [.int g]) L (e.take 5) p o x (x.length-1) O O O O)=Y (.nx (EW ns (.lst [.int g]) L J9 H o s (x.length-1) F E Kq Z)):=by
  exact Cq te `am f1
 have hm:=ok.m;have hp:=ok.l.mem.2.1;refine yT M (dI (sp (k:=0) M (by show 1<12;decide) e1) (dI (dX (cx (un:=B) (k:=0) (r:=[]) (l:=[]) M M M M M M JC) M (by show 2<12;decide)) (dI s3 (dI (U1:=[pc (.scr ns),pc (.lst [.int g]),Q2 L,pc (.lst ((e.take 5).map .str)),O,O,O,O,O,O,O,O]) M (dI (sp (k:=1) M (by show 4<12;decide) e5) (dI (dX (cx (un:=B) (k:=0) (r:=[.px (xI (aa 2))]) (l:=[.str L]) M (sG (t:=.str L) (bR (m:=.fr) M M) M M) M M M M e6) M (by show 5<12;decide)) (dI (aH (m:=.fr) (A M M) `ao (by show 6<12;decide)) (dI (aH (m:=.fr) (q lk M M) `ao (by show 7<12;decide)) (dI fr (dI (U1:=[pc (.scr ns),pc (.lst [.int g]),Q2 L,pc (.lst (J9.map .str)),pc (.lst [.int H]),Q2 o,Q2 s,Q0 ((x.length-1:Nat):Int),F,E,Kq,Z]) M ⟨_,d7 (qX (q ok.l M M) (y:={`bv,(s.length:Int)-1}) M (iG (r:=true) M M ?_) (z:={`bv,((x.length-1:Nat):Int)}) M ?_)⟩))))))))))
 ·simp only[eqT,beq_iff_eq];lia
 ·show Y (Md.fr,T.bl (decide (((x.length-1:Nat):Int)<=(s.length:Int)-1)))=_;rw[decide_eq_true `am]
end T39
end
section
namespace T39
open PySem PySem.Spec PyProof.Rows L2 VS
def qv{X:Cx}(i:Nat)(a:{`q7,X.N[i]?=Y x})(b:Kf X.env.scope x:=by exact Or.inl M)(c:{`q1,K3 x})(d:{`q1,K4 x}):PV G X (.Name x p) (aa i):=aU i a b c d
def Q4{α:Sort _}{x:α}{b:Prop}:x=x∨b:=.inl M
abbrev Q5:List Str:=["_law_book_here", "_law_letters_here", "_law_word"]
abbrev Q6:List Str:=["_law_k", "_law_spring_here", "_law_letters_here", "_law_few", "_law_start", "_law_step"]
abbrev Q7:List Str:=["_law_k", "_law_spring_here", "_law_signs_here", "_law_most"]
abbrev Q8:List Str:=["_law_one", "_law_book_here", "_law_letters_here", "_law_word", "_law_size", "_law_long", "_law_found", "_law_ahead", "_law_sign"]
abbrev Q9:List Str:=["_law_script", "_law_k"]
abbrev Qa:List Str:=["_law_sign", "_law_book_here", "_law_letters_here", "_law_word", "_law_size", "_law_long", "_law_found", "_law_ahead", "-8"]
abbrev Qb:List Str:=["_law_sign", "_law_one", "_law_book_here", "_law_letters_here", "_law_word", "_law_size", "_law_long", "_law_found", "_law_ahead", "-9"]
abbrev Qc:List Str:=["_law_sign", "_law_spring_here", "_law_signs_here", "_law_letters_here", "_law_way", "_law_some"]
abbrev Qd:List Str:=["_law_spring_here", "_law_most"]
abbrev Qe:List Str:=["_law_spring_here", "_law_signs_here", "_law_most"]
abbrev Qf:List Str:=["_law_spring_here", "_law_signs_here"]
abbrev Qg:List Str:=["_law_spring_here"]
abbrev Qh:List Str:=["_law_text_here", "_law_script", "_law_spring_here", "_law_signs_here", "_law_book_here", "_law_more", "_law_letters_here", "_law_word", "_law_most", "_law_turn", "_law_grown", "_law_at", "_law_after"]
abbrev Qi:List Str:=["book", "letters"]
abbrev Qj:List Str:=["book", "word"]
abbrev Qk:List Str:=["end", "book", "word", "found", "number", "text", "ends"]
abbrev Ql:List Str:=["self", "head", "sign"]
abbrev Qm:List Str:=["self", "head", "word"]
abbrev Qn:List Str:=["self", "long", "link", "ways"]
abbrev Qo:List Str:=["self", "node", "numbers"]
abbrev Qp:List Str:=["self", "node", "sign"]
abbrev Qq:List Str:=["self"]
abbrev Qr:List Str:=["sign", "self", "node", "numbers", "link", "ways", "steps"]
abbrev Qs:List Str:=["start", "book", "long", "found", "text"]
noncomputable def top(i:Nat):Stmt:=PySem.Challenge.pw_allparts_k39_whole_lacking_put_in.main.body.getD i (.Pass ⟨0,0,0,0⟩)
structure Ki(mg:Wq):Prop where
 M6:mg "dict" = none
 Li:mg "enumerate" = none
 RB:mg "int" = none
 Iz:mg "len" = none
 O6:mg "list" = none
 Jc:mg "range" = none
 RA:mg "set" = none
 Ka:mg "sorted" = none
 Rz:mg "sum" = none
 NP:mg "tuple" = none
noncomputable abbrev P5:List Str:=["  ", "longs", "links", "ways"]
abbrev gX(K:X0)(C D:KM):Gx:=OX P5 K C D
def gJ{K:X0}:lh ((OX P5 K C D).at m):=BH `bd `bd
structure JT(K:X0)(mg:Wq)(C D:KM):Prop where
 one:C=D
 Iq:Kh K C
 MN:mg "Nodes" = some (.ref C)
 IL:cZ K C "longs"
 IM:cZ K C "links"
 IV:cZ K C "ways"
def eY{K:X0}(O:JT K a C D):Kb ((OX P5 K C D).at m) K 1 "longs" := D9 M O.Iq (O.one ▸ O.Iq) O.IL (O.one ▸ O.IL)
def fi{K:X0}(O:JT K a C D):Kb ((OX P5 K C D).at m) K 2 "links" := D9 M O.Iq (O.one ▸ O.Iq) O.IM (O.one ▸ O.IM)
def dQ{K:X0}(O:JT K a C D):Kb ((OX P5 K C D).at m) K 3 "ways" := D9 M O.Iq (O.one ▸ O.Iq) O.IV (O.one ▸ O.IV)
section
variable(P:Re)(w:XAB)(base:XAA){K:X0}
abbrev eD:Stmt:=inClass (top 1) 1
def kz:Il Qn Qn (aq eD):=by constructor<;>first | rfl | decide +kernel
def aO(F:IP K "new_node" "Nodes.new_node" eD f d)(a:Meth K C "new_node" f)(B:Ki mg)(O:JT K mg C D) :
  MtAt P w K mg base 1 (gX K C D) 0 "new_node" Qn [false,false,L] aL:=qT F a O.Iq (ka `bd `bd) kz M M (λ_ _ _ _ _ _ e b=>by obtain⟨_,_,_,_,rfl⟩:=L2.HZ b;rfl) λ_ _ _ _ _ _ _ g =>
  (af (Am gJ (ke 1 (eY O) (cj 0)) (ae (qv 1) ag) M M M M M M M)
  (af (Am gJ (ke 2 (fi O) (cj 0)) (ae (qv 2) ag) M M M M M M M)
  (af (Bl gJ (ke 3 (dQ O) (cj 0)) M M Q4 M M M M M M M M)
  (au (bT (iP pL p6 (cQ B.Iz (ae (w_fld gJ (eY O) (qv 0)) ag)) aj))))))
abbrev eI:Stmt:=inClass (top 1) 0
def kA:Il Qq Qq (aq eI):=by constructor<;>first | rfl | decide +kernel
def cy(F:IP K "__init__" "Nodes.__init__" eI f e)(b:Mk K C f)(B:Ki mg)(O:JT K mg C D)(g:MtAt P w K mg base 1 (gX K C D) 0 "new_node" Qn [false,false,L] aL) :
  InAt P w K mg base 2 (gX K C D) 0 0 "Nodes" Qq eE:=FO F b O.MN kA M M (λ_ _ _ _ _ _ h d=>by obtain⟨_,rfl⟩:=L2.xu d;rfl) λ_ _ _ _ _ _ _ a =>
  (af (uf 0 1 gJ (eY O) (bH ag) M Q4 M M M)
  (af (uf 0 2 gJ (fi O) (bH ag) M Q4 M M M)
  (af (uf 0 3 gJ (dQ O) (bH ag) M Q4 M M M)
  (au (tR (iz gJ g.at a `ao (cj 0) (ae aj (ae zT (ae AK ag)))) M)))))
abbrev b7:Stmt:=inClass (top 1) 4
def aX:Il ["self", "node", "sign", "old", "long", "half"] Qp (aq b7):=by constructor<;>first | rfl | decide +kernel
def aT(F:IP K "node_just_behind" "Nodes.node_just_behind" b7 f e)(b:Meth K C "node_just_behind" f)(B:Ki mg)(O:JT K mg C D)(g:MtAt P w K mg base 1 (gX K C D) 0 "new_node" Qn [false,false,L] aL) :
  MtAt P w K mg base 2 (gX K C D) 0 "node_just_behind" Qp [false,false] av:=qT F b O.Iq (ka `bd `bd) aX M M (λ_ _ _ _ _ _ h d=>by obtain⟨_,_,_,rfl⟩:=L2.uc d;rfl) λ_ _ _ _ _ _ _ a =>
  (af (aD (xJ a {`b5,dQ,1} (qv 2) (λ_ _=>rfl)) aX.nd M Q4)
  (af (aD (w_add {`b5,eY,1} aj) aX.nd M Q4)
  (af (cK (iC a {`b5,eY,3} (qv 4)) (au (dS 3 M (Or.inl M) M M)) bw)
  (af (cM (iz gJ g.at a `ao (cj 0) (ae (qv 4) (ae {`b5,fi,3} (ae (BF B.M6 (ae {`b5,dQ,3} ag) M M) ag)))) aX.nd M Q4)
  (af (kB gJ a (ke 2 (fi O) (cj 0)) (qv 3) (qv 5))
  (af (jt Yk (Np.RX (uZ (pZ (qv 1)) (qN (iC a (w_get a {`b5,dQ,1} (qv 2) M M M M) (qv 3)))))
  (af (kB gJ a (Dw a (ke 3 (dQ O) (cj 0)) (qv 1) (λ_ _=>rfl) M) (qv 2) (qv 5))
  (au (aD {`b5,fi,1} aX.nd M Q4))))
  (au (dS 5 M (Or.inl M) M M))))))))
abbrev dj:Stmt:=inClass (top 1) 3
def bY:Il ["self", "head", "sign", "fresh", "node"] Ql (aq dj):=by constructor<;>first | rfl | decide +kernel
def bG(F:IP K "head_behind" "Nodes.head_behind" dj f g)(d:Meth K C "head_behind" f)(B:Ki mg)(O:JT K mg C D)(h:MtAt P w K mg base 1 (gX K C D) 0 "new_node" Qn [false,false,L] aL)(b:MtAt P w K mg base 2 (gX K C D) 0 "node_just_behind" Qp [false,false] av) :
  MtAt P w K mg base 3 (gX K C D) 0 "head_behind" Ql [false,false] bE:=qT F d O.Iq (ka `bd `bd) bY M M (λ_ _ _ _ _ _ i e=>by obtain⟨_,_,_,rfl⟩:=L2.uc e;rfl) λ_ _ _ _ _ _ _ a =>
  (af (cK (C9 a (qv 2) {`b5,dQ,1} (by with_unfolding_all rfl) M) (au (vF (iz gJ b.at a `ao (cj 0) (ae (qv 1) (ae (qv 2) ag))))) bw)
  (af (cM (iz gJ h.at a `ao (cj 0) (ae (w_add {`b5,eY,1} aj) (ae aj (ae AK ag)))) bY.nd M Q4)
  (af (aD (qv 1) bY.nd M Q4)
  (af (jt Yk (Np.RX (uZ (pZ (qv 4)) (qN (uH a (qv 2) {`b5,dQ,4} (by with_unfolding_all rfl)))))
  (af (kB gJ a (Dw a (ke 3 (dQ O) (cj 0)) (qv 4) (λ_ _=>rfl) M) (qv 2) (qv 3))
  (au (aD {`b5,fi,4} bY.nd M Q4))))
  (af (cK (pZ (qv 4)) (au (v8 gJ a (ke 2 (fi O) (cj 0)) (qv 3) (iz gJ b.at a `ao (cj 0) (ae (qv 4) (ae (qv 2) ag))) (λ_=>rfl) M M M)) bw)
  (au (dS 3 M (Or.inl M) M M)))))))
abbrev dH:Stmt:=inClass (top 1) 2
def dk:Il ["self", "head", "word", "sign"] Qm (aq dH):=by constructor<;>first | rfl | decide +kernel
def bS(F:IP K "head_grown" "Nodes.head_grown" dH f e)(b:Meth K C "head_grown" f)(B:Ki mg)(O:JT K mg C D)(g:MtAt P w K mg base 3 (gX K C D) 0 "head_behind" Ql [false,false] bE) :
  MtAt P w K mg base 4 (gX K C D) 0 "head_grown" Qm [false,false] bO:=qT F b O.Iq (ka `bd `bd) dk M M (λ_ _ _ _ _ _ h d=>by obtain⟨_,_,_,rfl⟩:=L2.uc d;rfl) λ_ _ _ _ _ _ _ a =>
  (af (eQ Yk M (cf (qv 2)) (aP 3 dk.nd M Q4 Q4)
  (au (cM (iz gJ g.at a `ao (cj 0) (ae (qv 1) (ae (qv 3) ag))) dk.nd M Q4)))
  (au (dS 1 M (Or.inl M) M M)))
abbrev cw:Stmt:=inClass (top 1) 6
def aN:Il ["self", "numbers", "met", "done", "ways", "sign"] Qq (aq cw):=by constructor<;>first | rfl | decide +kernel
def aZ{m:Me}(F:IP K "numbers_by_node" "Nodes.numbers_by_node" cw f e)(b:Meth K C "numbers_by_node" f)(B:Ki mg)(O:JT K mg C D) :
  MpAt P w K mg base 1 ((gX K C D).at m) 0 "numbers_by_node" Qq aK:=ud F b O.Iq (ka `bd `bd) aN M M (λ_ _ _ _ _ _ g d=>by obtain⟨_,rfl⟩:=L2.xu d;rfl) λ_ _ _ _ _ _ a =>
  (af (dN Ez aN.nd M Q4)
  (af (dN (bH (ae aj ag)) aN.nd M Q4)
  (af (aD aj aN.nd M Q4)
  (af (jt Yk (dA og tW iU (qv 3) (cQ B.Iz (ae (qv 2) ag)) (fj _))
  (af (aD (bV (w_fld gJ (dQ O) (qv 0)) (bV (qv 2) (qv 3) (λ_ _=>rfl)) (λ_ _=>rfl)) aN.nd M Q4)
  (af (eQ Yk M (cf (va B.Ka (ae (qv 4) ag))) (aP 5 aN.nd M Q4 Q4)
  (au (cK (uH a (xJ a (qv 4) (qv 5) (λ_ _=>rfl)) (qv 1) (by with_unfolding_all rfl)) (af (EX 1 a (xJ a (qv 4) (qv 5) (λ_ _=>rfl)) (cQ B.Iz (ae (qv 2) ag)) M Q4 M M (λ_=>rfl) M M M)
  (au (om 2 (ae (xJ a (qv 4) (qv 5) (λ_ _=>rfl)) ag) M M Q4 M M))) bw)))
  (au (aD (w_add (qv 3) aj) aN.nd M Q4)))))
  (ji 2 (au (dS 1 M (Or.inl M) M M)))))))
abbrev fT:Stmt:=inClass (top 1) 7
def dB:Il ["self", "node", "numbers", "link", "ways", "steps"] Qo (aq fT):=by constructor<;>first | rfl | decide +kernel
def cX{m:Me}(F:IP K "row_of" "Nodes.row_of" fT f e)(b:Meth K C "row_of" f)(B:Ki mg)(O:JT K mg C D) :
  MpAt P w K mg base 1 ((gX K C D).at m) 0 "row_of" Qo bN:=ud F b O.Iq (ka `bd `bd) dB M M (λ_ _ _ _ _ _ g d=>by obtain⟨_,_,_,rfl⟩:=L2.uc d;rfl) λ_ _ _ _ _ _ a =>
  (af (aD {`b5,fi,1} dB.nd M Q4)
  (af (aD {`b5,dQ,1} dB.nd M (Or.inr M))
  (af (aD (Co B.NP (ae (kT 1 Qr M (cf (va B.Ka (ae {`bt,4} ag))) (cO) (λ_ _ _ _ _=>(aP 0 (show List.Nodup Qr from by decide +kernel) M Q4 (Or.inr M))) (λ_ _ _ _ _=>(jb (ae (qv 0) (ae (DE a {`bt,3} (xJ a {`bt,5} (qv 0) (λ_ _=>rfl)) (λ_ _=>rfl) M) ag)))) M M `ao) ag)) dB.nd M Q4)
  (af (cK (Em (qv 3)) (au (bT (jb (ae aj (ae aj (ae zT (ae (qv 5) ag))))))) bw)
  (au (bT (jb (ae (w_add {`b5,eY,3} aj) (ae {`b5,eY,1} (ae (DE a {`bt,2} (qv 3) (λ_ _=>rfl) M) (ae (qv 5) ag)))))))))))
abbrev gM:Stmt:=inClass (top 1) 5
def iW:Il ["self", "numbers"] Qq (aq gM):=by constructor<;>first | rfl | decide +kernel
def du{m:Me}(F:IP K "table" "Nodes.table" gM f e)(b:Meth K C "table" f)(B:Ki mg)(O:JT K mg C D)(h:∀m,MpAt P w K mg base 1 ((gX K C D).at m) 0 "numbers_by_node" Qq aK)(g:∀m,MpAt P w K mg base 1 ((gX K C D).at m) 0 "row_of" Qo bN) :
  MpAt P w K mg base 2 ((gX K C D).at m) 0 "table" Qq dr:=ud F b O.Iq (ka `bd `bd) iW M M (λ_ _ _ _ _ _ i d=>by obtain⟨_,rfl⟩:=L2.xu d;rfl) λ_ _ _ _ _ _ a =>
  (af (dN (tV (h _) a `ao {`bt,0} M) iW.nd M (Or.inr M))
  (au (DR 1 ["node", "self", "numbers"] M M (Or.inr Q4) M M (cO) (λ_ _ _ _ _=>(aP 0 (show List.Nodup (["node", "self", "numbers"]:List Str) from by decide +kernel) M Q4 (Or.inr M))) (λ_ _ _ _ _=>(Ct (g _) a `ao {`bt,1} (ae (qv 0) (ae {`bt,2} ag)) M M M)) M M `ao (λ_=>rfl))))
abbrev jM:Stmt:=top 2
def ja:Il ["book", "nodes", "text"] ["book"] (aq jM):=by constructor<;>first | rfl | decide +kernel
def fU{m:Me}(F:IP K "table_of" "table_of" jM f e)(b:mg "table_of" = Y (.ref f))(B:Ki mg)(O:JT K mg C D)(h:InAt P w K mg base 2 (gX K C D) 0 0 "Nodes" Qq eE)(i:MtAt P w K mg base 4 (gX K C D) 0 "head_grown" Qm [false,false] bO)(g:∀m,MpAt P w K mg base 2 ((gX K C D).at m) 0 "table" Qq dr) :
  FnAt P w K mg base 5 "table_of" ["book"] ((gX K C D).at m) fO:=oi F b ja M M (λ_ _ _ _ _ _ j d=>by obtain⟨_,rfl⟩:=L2.xu d;rfl) λ_ _ _ _ _ _ a =>
  (af (dN (CB h.at a `ao M M) ja.nd M Q4)
  (af (eQ Yk M (cf (qv 0)) (aP 2 ja.nd M Q4 Q4)
  (au (tR (iz gJ i.at a `ao (cj 1) (ae aj (ae (qv 2) ag))) M)))
  (ji 1 (au (bT (tV (g _) a `ao (qv 1) M))))))
abbrev lB:Stmt:=top 4
def cT:Il ["book", "letters", "table", "met", "done", "word", "ways", "sign"] Qi (aq lB):=by constructor<;>first | rfl | decide +kernel
def c9{m:Me}(F:IP K "lacking" "lacking" lB f e)(b:mg "lacking" = Y (.ref f))(B:Ki mg)(O:JT K mg C D)(g:∀m,FnAt P w K mg base 5 "table_of" ["book"] ((gX K C D).at m) fO) :
  FnAt P w K mg base 6 "lacking" Qi ((gX K C D).at m) cJ:=oi F b cT M M (λ_ _ _ _ _ _ h d=>by obtain⟨_,_,rfl⟩:=L2.d5 d;rfl) λ_ _ _ _ _ _ a =>
  (af (aD (ed (g _) a (ae (qv 0) ag) `ao M M) cT.nd M Q4)
  (af (dN (bH (ae (jb (ae (jc `bd `ao) (ae aj ag))) ag)) cT.nd M Q4)
  (af (aD aj cT.nd M Q4)
  (au (jt Yk (qM rS)
  (af (aD (bV (bV (qv 3) (qv 4) (λ_ _=>rfl)) aj (λ_ _=>rfl)) cT.nd M Q4)
  (af (aD (C4 B.M6 (ae (bV (bV (qv 2) (bV (bV (qv 3) (qv 4) (λ_ _=>rfl)) aj (λ_ _=>rfl)) (λ_ _=>rfl)) aj (λ_ _=>rfl)) ag)) cT.nd M Q4)
  (af (eQ Yk M (cf (qv 1)) (aP 7 cT.nd M Q4 Q4)
  (af (cK (uH a (qv 7) (qv 6) (by with_unfolding_all rfl)) (au (bT (w_add (qv 5) (qv 7)))) bw)
  (au (om 3 (ae (jb (ae (w_add (qv 5) (qv 7)) (ae (xJ a (qv 6) (qv 7) (λ_ _=>rfl)) ag))) ag) M M Q4 M M))))
  (au (aD (w_add (qv 4) aj) cT.nd M Q4))))))))))
abbrev uA:Stmt:=top 5
def CO:Il Qi Qi (aq uA):=by constructor<;>first | rfl | decide +kernel
def lG{m:Me}(F:IP K "full" "full" uA f e)(b:mg "full" = Y (.ref f))(B:Ki mg)(O:JT K mg C D)(g:∀m,FnAt P w K mg base 6 "lacking" Qi ((gX K C D).at m) cJ) :
  FnAt P w K mg base 7 "full" Qi ((gX K C D).at m) j8:=oi F b CO M M (λ_ _ _ _ _ _ h d=>by obtain⟨_,_,rfl⟩:=L2.d5 d;rfl) λ_ _ _ _ _ _ a =>
  (au (bT (iP pL p6 (cQ B.Iz (ae (ed (g _) a (ae (qv 0) (ae (qv 1) ag)) `ao M M) ag)) aj)))
abbrev nM:Stmt:=top 7
def ie:Il ["book", "word", "found", "number", "text", "ends"] Qj (aq nM):=by constructor<;>first | rfl | decide +kernel
def fh{m:Me}(F:IP K "places" "places" nM f d)(a:mg "places" = Y (.ref f))(B:Ki mg)(O:JT K mg C D) :
  FnAt P w K mg base 1 "places" Qj ((gX K C D).at m) g9:=oi F a ie M M (λ_ _ _ _ _ _ e b=>by obtain⟨_,_,rfl⟩:=L2.d5 b;rfl) λ_ _ _ _ _ _ g =>
  (af (dN (bH ag) ie.nd M Q4)
  (af (eQ Yk M (zY (qv 0) M B.Li M M) (Cu M (pH (aP 3 ie.nd M (Or.inr M) Q4) (pH (aP 4 ie.nd M (Or.inr M) Q4) yZ M) M))
  (af (jS 1 Qk (λ_ _ _ h=>qw h) M (eO (w_add (cQ B.Iz (ae {`bt,4} ag)) aj) M B.Jc) (cO) (λ_ _ _ _ _=>(aP 0 (show List.Nodup Qk from by decide +kernel) M Q4 (Or.inr M))) (λ_ _ _ _ _=>(qM (ER (kJ {`bt,5} m8 (iQ (qv 0))) (ae {`bt,2} ag)))) (λ_ _ _ _ _=>(qv 0)) ie.nd M Q4 M M `ao)
  (au (sP 2 (ae (kT 1 Qk M (cf (qv 5)) (cO) (λ_ _ _ _ _=>(aP 0 (show List.Nodup Qk from by decide +kernel) M Q4 (Or.inr M))) (λ_ _ _ _ _=>(jb (ae {`bt,4} (ae (qv 0) ag)))) M M `ao) ag) M M Q4 M M))))
  (au (dS 2 M (Or.inl M) M M))))
abbrev j6:Stmt:=top 8
def i3:Il ["book", "long", "found", "text"] ["book", "long"] (aq j6):=by constructor<;>first | rfl | decide +kernel
def d9{m:Me}(F:IP K "parts_of" "parts_of" j6 f e)(b:mg "parts_of" = Y (.ref f))(B:Ki mg)(O:JT K mg C D) :
  FnAt P w K mg base 1 "parts_of" ["book", "long"] ((gX K C D).at m) eK:=oi F b i3 M M (λ_ _ _ _ _ _ g d=>by obtain⟨_,_,rfl⟩:=L2.d5 d;rfl) λ_ _ _ _ _ _ a =>
  (af (cK (iC a {`bt,1} aj) (au (bT (bH (ae (jc `bd `ao) ag)))) bw)
  (af (dN (bH ag) i3.nd M Q4)
  (af (eQ Yk M (cf (qv 0)) (aP 3 i3.nd M (Or.inr M) Q4)
  (au (sP 2 (ae (kT 1 Qs M (eO (w_add (iP pL p6 (cQ B.Iz (ae {`bt,3} ag)) {`bt,1}) aj) M B.Jc) (cO) (λ_ _ _ _ _=>(aP 0 (show List.Nodup Qs from by decide +kernel) M Q4 (Or.inr M))) (λ_ _ _ _ _=>(kJ {`bt,4} (iQ (qv 0)) (iQ (w_add (qv 0) {`bt,2})))) M M `ao) ag) M M Q4 M M)))
  (ji 2 (au (bT (tJ B.Ka B.RA (ae (qv 2) ag))))))))
abbrev iB:Stmt:=top 10
def bx:Il ["_law_script", "_law_k", "_law_cell", "_law_left", "_law_number", "_law_turn", "_law_more"] Q9 (aq iB):=by constructor<;>first | rfl | decide +kernel
def c7{m:Me}(F:IP K "_law_spring" "_law_spring" iB f e)(b:mg "_law_spring" = Y (.ref f))(B:Ki mg)(O:JT K mg C D) :
  FnAt P w K mg base 1 "_law_spring" Q9 ((gX K C D).at m) cB:=oi F b bx M M (λ_ _ _ _ _ _ g d=>by obtain⟨_,_,rfl⟩:=L2.d5 d;rfl) λ_ _ _ _ _ _ a =>
  (af (aD (w_add (w_mul (qv 1) aj) aj) bx.nd M Q4)
  (af (cK (zi (cQ B.Iz (ae (qv 0) ag)) aj) (au (aD (w_add (bV (qv 0) (w_mod (qv 1) (cQ B.Iz (ae (qv 0) ag))) (λ_ _=>rfl)) (w_mul (iP mH mL (qv 1) (cQ B.Iz (ae (qv 0) ag))) aj)) bx.nd M Q4)) bw)
  (af (cK (iC a (w_mod (qv 2) aj) aj) (au (bT (bH (ae (iP mH mL (qv 2) aj) ag)))) bw)
  (af (aD (w_mod (w_add (iP mH mL (qv 2) aj) (w_mul aj (qv 1))) aj) bx.nd M Q4)
  (af (aD aj bx.nd M Q4)
  (af (eQ Yk M (eO aj M B.Jc) (aP 5 bx.nd M Q4 Q4)
  (af (aD (w_mod (w_add (w_add (w_mul (qv 3) aj) (w_mul aj (qv 5))) aj) aj) bx.nd M Q4)
  (af (aD (w_mod (w_mul (qv 3) (qv 3)) aj) bx.nd M Q4)
  (au (aD (w_add (w_mul (qv 4) aj) (w_mod (w_mul (qv 6) (w_add (w_mod (qv 6) aj) aj)) aj)) bx.nd M Q4)))))
  (au (bT (bH (ae (qv 4) ag))))))))))
abbrev j7:Stmt:=top 11
def lS:Il ["_law_spring_here", "_law_most", "_law_digit"] Qd (aq j7):=by constructor<;>first | rfl | decide +kernel
def aA{m:Me}(F:IP K "_law_next" "_law_next" j7 f e)(b:mg "_law_next" = Y (.ref f))(B:Ki mg)(O:JT K mg C D) :
  IoAt P w K mg base 1 "_law_next" Qd ((gX K C D).at m) [false] ar:=oj F b lS M M (λ_ _ _ _ _ _ g d=>by obtain⟨_,_,rfl⟩:=L2.d5 d;rfl) λ_ _ _ _ _ _ _ a =>
  (af (aD (w_mod (bV (GF (qv 0)) aj (λ_ _=>rfl)) (qv 1)) lS.nd M Q4)
  (af (kB gJ a (GJ (cj 0)) aj (iP mH mL (bV (GF (qv 0)) aj (λ_ _=>rfl)) (qv 1)))
  (au (dS 2 M (Or.inl M) M M))))
abbrev j3:Stmt:=top 12
def sv:Il Qe Qe (aq j3):=by constructor<;>first | rfl | decide +kernel
def eu{m:Me}(F:IP K "_law_text" "_law_text" j3 f g)(d:mg "_law_text" = Y (.ref f))(B:Ki mg)(O:JT K mg C D)(b:∀m,IoAt P w K mg base 1 "_law_next" Qd ((gX K C D).at m) [false] ar) :
  IoAt P w K mg base 2 "_law_text" Qe ((gX K C D).at m) [false,false] eJ:=oj F d sv M M (λ_ _ _ _ _ _ h e=>by obtain⟨_,_,_,rfl⟩:=L2.uc e;rfl) λ_ _ _ _ _ _ _ a =>
  (au (vF (CZ (jc `bd `ao) (AA Q7 M M B.Jc (bg (b _) a (bJ 0 L M (Or.inr Q4) M M (bC (aG (w_add (qv 2) aj)) ba))) (λ_ _ _ _ _=>L2.vd (show List.Nodup Q7 from by decide +kernel) M Q4 (Or.inr M)) (λ_ _ _ _ _=>(AD (aG {`bt,2}) (bg (b _) a (bJ 1 L M (Or.inr Q4) M M (bC (aG (cQ B.Iz (ae {`bt,2} ag))) ba))))) M M M M `ao (λ_=>rfl)) M M M M M M)))
abbrev iY:Stmt:=top 13
def dM:Il ["_law_spring_here", "_law_letters_here", "_law_few", "_law_start", "_law_step"] Qg (aq iY):=by constructor<;>first | rfl | decide +kernel
def fg{m:Me}(F:IP K "_law_signs" "_law_signs" iY f g)(d:mg "_law_signs" = Y (.ref f))(B:Ki mg)(O:JT K mg C D)(b:∀m,IoAt P w K mg base 1 "_law_next" Qd ((gX K C D).at m) [false] ar) :
  IoAt P w K mg base 2 "_law_signs" Qg ((gX K C D).at m) [] gn:=oj F d dM M M (λ_ _ _ _ _ _ h e=>by obtain⟨_,rfl⟩:=L2.xu e;rfl) λ_ _ _ _ _ _ _ a =>
  (af (aD (jc `bd `ao) dM.nd M (Or.inr M))
  (af (cM (nB (bH (ae aj (ae aj (ae aj (ae aj (ae aj (ae aj (ae aj (ae aj ag))))))))) (bg (b _) a (bJ 0 L M (Or.inl M) M M (bC (aG aj) ba)))) dM.nd M Q4)
  (af (cM (bg (b _) a (bJ 0 L M (Or.inl M) M M (bC (aG aj) ba))) dM.nd M (Or.inr M))
  (af (cM (nB (bH (ae aj (ae aj (ae aj (ae aj ag))))) (bg (b _) a (bJ 0 L M (Or.inl M) M M (bC (aG aj) ba)))) dM.nd M (Or.inr M))
  (au (bT (vV (jc `bd `ao) (ae (kT 1 Q6 M (eO (qv 2) M B.Jc) (cO) (λ_ _ _ _ _=>(aP 0 (show List.Nodup Q6 from by decide +kernel) M Q4 (Or.inr M))) (λ_ _ _ _ _=>(bV {`bt,2} (w_mod (w_add {`bt,4} (w_mul {`bt,5} (qv 0))) aj) (λ_ _=>rfl))) M M `ao) ag))))))))
abbrev jX:Stmt:=top 14
def cV:Il ["_law_spring_here", "_law_signs_here", "_law_many", "_law_book_here", "_law_k", "_law_text_here", "_law_old"] Qf (aq jX):=by constructor<;>first | rfl | decide +kernel
def fX{m:Me}(F:IP K "_law_book" "_law_book" jX f h)(e:mg "_law_book" = Y (.ref f))(B:Ki mg)(O:JT K mg C D)(b:∀m,IoAt P w K mg base 1 "_law_next" Qd ((gX K C D).at m) [false] ar)(d:∀m,IoAt P w K mg base 2 "_law_text" Qe ((gX K C D).at m) [false,false] eJ) :
  IoAt P w K mg base 3 "_law_book" Qf ((gX K C D).at m) [false] dC:=oj F e cV M M (λ_ _ _ _ _ _ i g=>by obtain⟨_,_,rfl⟩:=L2.d5 g;rfl) λ_ _ _ _ _ _ _ a =>
  (af (cM (nB (bH (ae aj (ae aj (ae aj (ae aj (ae aj (ae aj (ae aj (ae aj ag))))))))) (bg (b _) a (bJ 0 L M (Or.inl M) M M (bC (aG aj) ba)))) cV.nd M Q4)
  (af (dN (bH ag) cV.nd M Q4)
  (af (eQ Yk M (eO (qv 2) M B.Jc) (aP 4 cV.nd M Q4 Q4)
  (af (cM (bg (d _) a (bJ 0 L M (Or.inl M) M M (bC (aG (qv 1)) (bC (nB (bH (ae aj (ae aj (ae aj (ae aj ag))))) (bg (b _) a (bJ 0 L M (Or.inl M) M M (bC (aG aj) ba)))) ba)))) cV.nd M Q4)
  (af (tY (pX (zi (qv 4) aj) (pT (jU a.units) ox (bg (b _) a (bJ 0 L M (Or.inl M) M M (bC (aG aj) ba))) (aG aj) (fj _))) (af (cM (FF 3 M (Or.inl M) M M (bg (b _) a (bJ 0 L M (Or.inl M) M M (bC (aG (qv 4)) ba))) (λ_ _=>rfl) M) cV.nd M Q4)
  (au (cM (Dh (o8 ju lD (Dh (aG (qv 6)) (kF (bg (b _) a (bJ 0 L M (Or.inl M) M M (bC (aG (w_add (cQ B.Iz (ae (qv 6) ag)) aj)) ba)))) kH) (aG (qv 5))) kH (kF (aG aj))) cV.nd M Q4))) bw)
  (au (om 3 (ae (qv 5) ag) M M Q4 M M)))))
  (af (tY (pX (oq aj (qv 2) aj (by with_unfolding_all rfl)) (pT (jU a.units) ox (bg (b _) a (bJ 0 L M (Or.inl M) M M (bC (aG aj) ba))) (aG aj) (fj _))) (au (v8 gJ a (cj 3) aj (o8 Ce Bv (o8 ju lD (o8 ju lD (aG (bV (qv 3) aj (λ_ _=>rfl))) (bg (d _) a (bJ 0 L M (Or.inl M) M M (bC (aG (qv 1)) (bC (aG aj) ba))))) (aG (bV (qv 3) Hr (λ_ _=>rfl)))) (o8 ju lD (aG aj) (bg (b _) a (bJ 0 L M (Or.inl M) M M (bC (aG aj) ba))))) (λ_=>rfl) M M M)) bw)
  (au (dS 3 M (Or.inl M) M M))))))
abbrev gK:Stmt:=top 15
def cz:Il ["_law_spring_here", "_law_signs_here", "_law_letters_here", "_law_way", "_law_some"] Qf (aq gK):=by constructor<;>first | rfl | decide +kernel
def dz{m:Me}(F:IP K "_law_letters" "_law_letters" gK f g)(d:mg "_law_letters" = Y (.ref f))(B:Ki mg)(O:JT K mg C D)(b:∀m,IoAt P w K mg base 1 "_law_next" Qd ((gX K C D).at m) [false] ar) :
  IoAt P w K mg base 2 "_law_letters" Qf ((gX K C D).at m) [false] eV:=oj F d cz M M (λ_ _ _ _ _ _ h e=>by obtain⟨_,_,rfl⟩:=L2.d5 e;rfl) λ_ _ _ _ _ _ _ a =>
  (af (aD (jc `bd `ao) cz.nd M Q4)
  (af (cM (bg (b _) a (bJ 0 L M (Or.inl M) M M (bC (aG aj) ba))) cz.nd M Q4)
  (af (cK (iC a (qv 3) aj) (au (dS 2 M (Or.inl M) M M)) bw)
  (af (dN (CM B.O6 (ae (qv 1) ag)) cz.nd M (Or.inr M))
  (af (cK (iC a (qv 3) aj) (au (xj 4 M (Or.inr Q4) M M kH (kF (o8 ju lD (aG aj) (bg (b _) a (bJ 0 L M (Or.inl M) M M (bC (aG (cQ B.Iz (ae (qv 1) ag))) ba))))) M cz.nd M (Or.inr M) M Q4)) bw)
  (af (cK (dA og tW iU (qv 3) aj (fj _)) (au (AY 4 M (Or.inr Q4) M M (AD (aG (qv 2)) (bg (b _) a (bJ 0 L M (Or.inl M) M M (bC (aG aj) ba)))) M M M M M M M)) bw)
  (ji 4 (af (cK (iC a (qv 3) aj) (au (yz (AD (aG (qv 2)) (bg (b _) a (bJ 0 L M (Or.inl M) M M (bC (aG aj) ba)))) cz.nd M (Or.inr M) M M Q4)) bw)
  (au (bT (vV (jc `bd `ao) (ae (hU 1 Qc M (cf (qv 2)) (cO) (λ_ _ _ _ _=>(aP 0 (show List.Nodup Qc from by decide +kernel) M Q4 (Or.inr M))) (λ_ _ _ _ _=>(C9 a (qv 0) {`bt,5} (by with_unfolding_all rfl) M)) (λ_ _ _ _ _=>(qv 0)) M M `ao) ag))))))))))))
abbrev iR:Stmt:=top 16
def bL:Il ["_law_book_here", "_law_letters_here", "_law_word", "_law_size", "_law_long", "_law_found", "_law_ahead", "_law_sign"] Q5 (aq iR):=by constructor<;>first | rfl | decide +kernel
def eX{m:Me}(F:IP K "_law_shown" "_law_shown" iR f i)(d:mg "_law_shown" = Y (.ref f))(B:Ki mg)(O:JT K mg C D)(b:∀m,FnAt P w K mg base 1 "parts_of" ["book", "long"] ((gX K C D).at m) eK)(g:∀m,FnAt P w K mg base 1 "places" Qj ((gX K C D).at m) g9) :
  FnAt P w K mg base 2 "_law_shown" Q5 ((gX K C D).at m) gu:=oi F d bL M M (λ_ _ _ _ _ _ j e=>by obtain⟨_,_,_,rfl⟩:=L2.uc e;rfl) λ_ _ _ _ _ _ a =>
  (af (cK (Np.RX (t7 (iC a {`bt,2} (jc `bd `ao)) (t7 (vP a (hU 1 Qa M (cf {`bt,2}) (cO) (λ_ _ _ _ _=>(aP 0 (show List.Nodup Qa from by decide +kernel) M Q4 (Or.inr M))) (λ_ _ _ _ _=>(dA qP pP jV (qv 0) {`bt,2} M)) (λ_ _ _ _ _=>(qv 0)) M M `ao) (bH ag)) (uU (vP a (ed (g _) a (ae (qv 0) (ae {`bt,2} ag)) `ao M M) (bH ag)))))) (au (bT rS)) bw)
  (af (aD aj bL.nd M Q4)
  (af (eQ Yk M (eO (cQ B.Iz (ae {`bt,2} ag)) M B.Jc) (aP 4 bL.nd M Q4 Q4)
  (af (jS 1 Q8 (λ_ _ _ h=>qw h) M (cf (ed (b _) a (ae (qv 0) (ae (qv 4) ag)) `ao M M)) (cO) (λ_ _ _ _ _=>(aP 0 (show List.Nodup Q8 from by decide +kernel) M Q4 (Or.inr M))) (λ_ _ _ _ _=>(iC a (hU 1 Qb M (cf (qv 0)) (cO) (λ_ _ _ _ _=>(aP 0 (show List.Nodup Qb from by decide +kernel) M Q4 (Or.inr M))) (λ_ _ _ _ _=>(dA qP pP jV (qv 0) {`bt,3} M)) (λ_ _ _ _ _=>(qv 0)) M M `ao) (bH ag))) (λ_ _ _ _ _=>(qv 0)) bL.nd M Q4 M M `ao)
  (af (cK (vP a (cQ B.Iz (ae (qv 5) ag)) (qv 3)) (au (bT rS)) bw)
  (au (aD (w_mul (qv 3) (cQ B.Iz (ae {`bt,1} ag))) bL.nd M Q4)))))
  (af (aD aj bL.nd M Q4)
  (af (eQ Yk M (cf {`bt,2}) (aP 7 bL.nd M Q4 Q4)
  (au (aD (w_add (w_mul (qv 6) (cQ B.Iz (ae {`bt,1} ag))) (BZ {`bt,1} (ae (qv 7) ag))) bL.nd M Q4)))
  (af (jS 1 Q8 (λ_ _ _ h=>qw h) M (cf (ed (b _) a (ae (qv 0) (ae (cQ B.Iz (ae {`bt,2} ag)) ag)) `ao M M)) (cO) (λ_ _ _ _ _=>(aP 0 (show List.Nodup Q8 from by decide +kernel) M Q4 (Or.inr M))) (λ_ _ _ _ _=>(iC a (hU 1 Qb M (cf (qv 0)) (cO) (λ_ _ _ _ _=>(aP 0 (show List.Nodup Qb from by decide +kernel) M Q4 (Or.inr M))) (λ_ _ _ _ _=>(dA qP pP jV (qv 0) {`bt,3} M)) (λ_ _ _ _ _=>(qv 0)) M M `ao) (bH ag))) (λ_ _ _ _ _=>(qv 0)) bL.nd M Q4 M M `ao)
  (au (bT (D6 (jU a.units) ox (cQ B.Iz (ae (hU 1 Q8 M (cf (qv 5)) (cO) (λ_ _ _ _ _=>(aP 0 (show List.Nodup Q8 from by decide +kernel) M Q4 (Or.inr M))) (λ_ _ _ _ _=>(dA og tW iU (qv 0) {`bt,3} (fj _))) (λ_ _ _ _ _=>(qv 0)) M M `ao) ag)) (qv 6) (fj _))))))))))
abbrev kK:Stmt:=top 17
def dD:Il ["_law_script", "_law_spring_here", "_law_signs_here", "_law_book_here", "_law_more", "_law_letters_here", "_law_word", "_law_most", "_law_turn", "_law_grown", "_law_at", "_law_after"] ["_law_script"] (aq kK):=by constructor<;>first | rfl | decide +kernel
def EZ{m:Me}(F:IP K "law" "law" kK f e)(B:Ki mg)(O:JT K mg C D)(l:∀m,IoAt P w K mg base 3 "_law_book" Qf ((gX K C D).at m) [false] dC)(o:∀m,IoAt P w K mg base 2 "_law_letters" Qf ((gX K C D).at m) [false] eV)(b:∀m,IoAt P w K mg base 1 "_law_next" Qd ((gX K C D).at m) [false] ar)(n:∀m,FnAt P w K mg base 2 "_law_shown" Q5 ((gX K C D).at m) gu)(j:∀m,IoAt P w K mg base 2 "_law_signs" Qg ((gX K C D).at m) [] gn)(h:∀m,FnAt P w K mg base 1 "_law_spring" Q9 ((gX K C D).at m) cB)(d:∀m,FnAt P w K mg base 7 "full" Qi ((gX K C D).at m) j8)(g:∀m,FnAt P w K mg base 6 "lacking" Qi ((gX K C D).at m) cJ)(i:∀m,FnAt P w K mg base 1 "places" Qj ((gX K C D).at m) g9) :
  FnOk P w K mg base Jk 8 f e ["_law_script"] (KO ((gX K C D).at m) xY):=UE F dD M M λ_ _ _ _ _ _ a =>
  (af (dN (ed (h _) a (ae (qv 0) (ae aj ag)) `ao M M) dD.nd M Q4)
  (af (cM (bg (j _) a (bJ 1 false M (Or.inl M) M M ba)) dD.nd M Q4)
  (af (yB (El (Ba (l _) a (bJ 1 false M (Or.inl M) M M (bC (aG (qv 2)) ba)) `ao M M M M) kH (kF (aG aj)) M) dD.nd M Q4 M Q4)
  (ji 1 (af (dN (ed (h _) a (ae (qv 0) (ae aj ag)) `ao M M) dD.nd M Q4)
  (af (cM (bg (o _) a (bJ 4 false M (Or.inl M) M M (bC (aG (qv 2)) ba))) dD.nd M Q4)
  (af (aD (ed (g _) a (ae (qv 3) (ae (qv 5) ag)) `ao M M) dD.nd M Q4)
  (af (aD (ed (d _) a (ae (qv 3) (ae (qv 5) ag)) `ao M M) dD.nd M Q4)
  (af (DQ Yk M M B.Jc (nB (bH (ae aj (ae aj ag))) (ED B.RB (Fh (jU a.units) ox (bg (b _) a (bJ 4 false M (Or.inl M) M M (bC (aG aj) ba))) (aG aj) (fj _)) M M)) (aP 8 dD.nd M Q4 Q4)
  (af (cK (CH (qM (ed (n _) a (ae (qv 3) (ae (qv 5) (ae (qv 6) ag))) `ao M M))) (au (bT rS)) bw)
  (af (aD (w_add (qv 3) (bH (ae (qv 6) ag))) dD.nd M Q4)
  (af (tY (BJ (iC a (cQ B.Iz (ae (qv 3) ag)) aj) (pX (vP a (qv 3) (bH ag)) (pT (jU a.units) ox (bg (b _) a (bJ 4 false M (Or.inl M) M M (bC (aG aj) ba))) (aG aj) (fj _)))) (af (cM (bg (b _) a (bJ 4 false M (Or.inl M) M M (bC (aG (cQ B.Iz (ae (qv 3) ag))) ba))) dD.nd M Q4)
  (au (aD (w_add (w_add (kJ (qv 3) m8 (iQ (qv 10))) (bH (ae (w_add (bV (qv 3) (qv 10) (λ_ _=>rfl)) (qv 6)) ag))) (kJ (qv 3) (iQ (w_add (qv 10) aj)) m8)) dD.nd M Q4))) bw)
  (af (cK (zi (w_sum B.Rz (ae (kT 1 Qh M (cf (qv 9)) (cO) (λ_ _ _ _ _=>(aP 0 (show List.Nodup Qh from by decide +kernel) M Q4 (Or.inr M))) (λ_ _ _ _ _=>(cQ B.Iz (ae (qv 0) ag))) M M `ao) ag)) aj) (au wK) bw)
  (af (aD (ed (g _) a (ae (qv 9) (ae (qv 5) ag)) `ao M M) dD.nd M Q4)
  (af (cK (Np.RX (t7 (iC a (ed (i _) a (ae (qv 9) (ae (qv 6) ag)) `ao M M) (bH ag)) (uU (dA (DJ a.units) DV wQ (jb (ae (cQ B.Iz (ae (qv 11) ag)) (ae (qv 11) ag))) (jb (ae (cQ B.Iz (ae (qv 6) ag)) (ae (qv 6) ag))) (fj _))))) (au (bT rS)) bw)
  (af (aD (qv 9) dD.nd M Q4)
  (au (aD (qv 11) dD.nd M Q4))))))))) M M (λ_=>rfl))
  (ji 4 (au (bT (oC a (ed (d _) a (ae (qv 3) (ae (qv 5) ag)) `ao M M) (iP pL p6 (cQ B.Iz (ae (qv 6) ag)) aj) (qv 7) (by with_unfolding_all rfl))))))))))))))
end
abbrev gN(K:X0)(x:Str)(f:KM):Prop:=PySem.W.nsIn K mainGlobals x=Y (Y (.ref f))
abbrev gZ(K:X0)(x:Str):Prop:=PySem.W.nsIn K mainGlobals x=Y O
def all_mk{l:PySem.W.OpenLaw}{K:X0}(X:K.In h)(G:h.Ns mainGlobals a)(x:a "law" = Y (.ref fa))(TZ:∀ns:Vg,ns.length<=63->xY [.scr ns]=Y (.fr,.bl L))(a0:Meth K C "new_node" f0)(F0:IP K "new_node" "Nodes.new_node" eD f0 Q)(a1:Mk K C f1)(F1:IP K "__init__" "Nodes.__init__" eI f1 P)(a2:Meth K C "node_just_behind" f2)(F2:IP K "node_just_behind" "Nodes.node_just_behind" b7 f2 N)(a3:Meth K C "head_behind" f3)(F3:IP K "head_behind" "Nodes.head_behind" dj f3 J)(a4:Meth K C "head_grown" f4)(F4:IP K "head_grown" "Nodes.head_grown" dH f4 H)(a5:Meth K C "numbers_by_node" f5)(F5:IP K "numbers_by_node" "Nodes.numbers_by_node" cw f5 E)(a6:Meth K C "row_of" f6)(F6:IP K "row_of" "Nodes.row_of" fT f6 D)(a7:Meth K C "table" f7)(F7:IP K "table" "Nodes.table" gM f7 A)(a8:gN K "table_of" f8)(F8:IP K "table_of" "table_of" jM f8 z)(a9:gN K "lacking" f9)(F9:IP K "lacking" "lacking" lB f9 y)(a10:gN K "full" r)(F10:IP K "full" "full" uA r UQ)(a11:gN K "places" q)(F11:IP K "places" "places" nM q UP)(a12:gN K "parts_of" p)(F12:IP K "parts_of" "parts_of" j6 p UO)(a13:gN K "_law_spring" o)(F13:IP K "_law_spring" "_law_spring" iB o UN)(a14:gN K "_law_next" n)(F14:IP K "_law_next" "_law_next" j7 n UM)(a15:gN K "_law_text" j)(F15:IP K "_law_text" "_law_text" j3 j UL)(a16:gN K "_law_signs" i)(F16:IP K "_law_signs" "_law_signs" iY i UK)(a17:gN K "_law_book" g)(F17:IP K "_law_book" "_law_book" jX g UJ)(Z:gN K "_law_letters" f)(F18:IP K "_law_letters" "_law_letters" gK f UI)(U:gN K "_law_shown" b)(F19:IP K "_law_shown" "_law_shown" iR b UH)(S:gN K "law" UR)(t:K.lookup UR=Y ⟨S8,S7,.func (PySem.W.fnOf "law" "law" (dU kK) (bq kK) (aq kK) .none Qz Ru P2 RE O5 Rv),SO⟩)(R:PySem.W.codeIn K O5 "law" = L)(u:PySem.W.keepIn K (.ref UR)=L)(Om:gZ K "dict")(KW:gZ K "enumerate")(PD:gZ K "int")(PB:gZ K "len")(Ol:gZ K "list")(Nt:gZ K "range")(Pz:gZ K "set")(My:gZ K "sorted")(Py:gZ K "sum")(Nr:gZ K "tuple")(w_Nodes:gN K "Nodes" C)(Iq:Kh K C)(IL:cZ K C "longs")(IM:cZ K C "links")(IV:cZ K C "ways")
  : ∃fd:P3,(∀(s:IR)(v:On),BindsTo s fd ⟨[v],[]⟩ [("_law_script",v)])/\∀base:XAA,K.In base->base.Ns mainGlobals a->FnOk l.prog w K a base Jk 8 fa fd ["_law_script"] (KO (Rf K) yH):=by
 have e:=x.symm.trans (YR X G S);cases e;have B:Ki a:=⟨YX X G Om,YX X G KW,YX X G PD,YX X G PB,YX X G Ol,YX X G Nt,YX X G Pz,YX X G My,YX X G Py,YX X G Nr⟩
 have O:JT K a C C:=⟨rfl,Iq,YR X G w_Nodes,IL,IM,IV⟩
 refine⟨PySem.W.fnOf "law" "law" (dU kK) (bq kK) (aq kK) .none Qz Ru P2 RE O5 Rv,λs v=>.of_eq M,λbase _ _=>?_⟩;have aO:=aO l.prog w base F0 a0 B O;have cy:=cy l.prog w base F1 a1 B O aO;have aT:=aT l.prog w base F2 a2 B O aO;have bG:=bG l.prog w base F3 a3 B O aO aT;have bS:=bS l.prog w base F4 a4 B O bG;have aZ:=λm=>aZ (m:=m) l.prog w base F5 a5 B O;have cX:=λm=>cX (m:=m) l.prog w base F6 a6 B O;have du:=λm=>du (m:=m) l.prog w base F7 a7 B O aZ cX;have fU:=λm=>fU (m:=m) l.prog w base F8 (YR X G a8) B O cy bS du;have c9:=λm=>c9 (m:=m) l.prog w base F9 (YR X G a9) B O fU;have lG:=λm=>lG (m:=m) l.prog w base F10 (YR X G a10) B O c9;have fh:=λm=>fh (m:=m) l.prog w base F11 (YR X G a11) B O;have d9:=λm=>d9 (m:=m) l.prog w base F12 (YR X G a12) B O;have c7:=λm=>c7 (m:=m) l.prog w base F13 (YR X G a13) B O;have aA:=λm=>aA (m:=m) l.prog w base F14 (YR X G a14) B O;have eu:=λm=>eu (m:=m) l.prog w base F15 (YR X G a15) B O aA;have fg:=λm=>fg (m:=m) l.prog w base F16 (YR X G a16) B O aA;have fX:=λm=>fX (m:=m) l.prog w base F17 (YR X G a17) B O aA eu;have dz:=λm=>dz (m:=m) l.prog w base F18 (YR X G Z) B O aA;have eX:=λm=>eX (m:=m) l.prog w base F19 (YR X G U) B O d9 fh;exact CD M (EZ l.prog w base (m:=λ_=>none) (An (st:=kK) t R u) B O fX dz aA eX fg c7 lG c9 fh) TZ
end T39
open PySem PySem.W PyProof.Rows PySem.W.X PySem.W.ZRun
set_option maxRecDepth 100000 in
set_option maxHeartbeats 0 in
theorem PySem.Challenge.cw_allparts_k39_whole_lacking_put_in_holds : PySem.Challenge.rw_allparts_k39_whole_lacking_put_in.Holds := by
 w_on;o_law;z_head;(case hw=>w_witness2)
 k_fill
 intro w s₀ s₁ mg mb G y fa o pm cd doc dV kV ho hd hcd hD hmg hg args vals as L hpre hlay hrd hwl hlo
 z_open y L KX ZH ZN ZT
 clear ZH ZN ZT;refine VS.yg (l:=PySem.Challenge.rw_allparts_k39_whole_lacking_put_in) (k:=8) (x := "_law_script") rfl rfl ⟨rfl,by decide,by decide⟩ ?F w s₀ s₁ mg mb G KX fa o pm cd doc dV kV ho hd hcd hD hmg hg args vals as hpre hlay hrd hwl hlo
 case F =>
  intro w mg fa h KX G hmg;apply T39.all_mk KX G hmg T39.AN
  (case w_Nodes=>unfold T39.gN;k_is)
  all_goals first | (refine' L2.An ?l ?c ?k;(case l=>k_is);(case c=>k_is);(case k=>k_is)) | (refine' ⟨?l,?c,?k⟩;(case l=>k_is);(case c=>k_is);(case k=>k_is)) | (refine' ⟨?l,?c,?k,?d⟩;(case l=>k_is);(case c=>k_is);(case k=>k_is);(case d=>k_is)) | (unfold T39.gN;k_is) | (unfold T39.gZ;k_is) | (unfold L2.cZ;k_is) | k_is | exact rfl | kernel_rfl
end
