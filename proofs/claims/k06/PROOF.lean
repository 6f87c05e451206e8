import PyProof.Rows.All
import Wide.All
import OpenK.AllK
import PySem.Challenge.RW_allparts_k06_tables_told
set_option linter.all false
set_option bootstrap.genMatcherCode false
set_option genSizeOf false
set_option genInjectivity false
noncomputable section
namespace PySem.W.Fast
def tw15684348298811587487:True:=⟨⟩
def tw18012763655203093187:True:=⟨⟩
def tw465807879118020117:True:=⟨⟩
def tw7212295240334021770:True:=⟨⟩
def tw7680456751561774869:True:=⟨⟩
def tw15847808929962874242:True:=⟨⟩
def tw4661091218307719822:True:=⟨⟩
def tw6549506988917547600:True:=⟨⟩
def tw11288422848110026686:True:=⟨⟩
def tw14481632782802301128:True:=⟨⟩
def tw17257324187397423835:True:=⟨⟩
def tw13218859861671072132:True:=⟨⟩
def tw614007800803352317:True:=⟨⟩
def tw5990792453968942583:True:=⟨⟩
def tw9958265710198488159:True:=⟨⟩
def tw12727889638932962847:True:=⟨⟩
def tw17992150691215152487:True:=⟨⟩
def tw942577590360907705:True:=⟨⟩
def tw12486170197202736193:True:=⟨⟩
def tw8448075805148250714:True:=⟨⟩
def tw3187683358292603684:True:=⟨⟩
def tw2367208802376540927:True:=⟨⟩
def tw11333919233896386651:True:=⟨⟩
def tw3106908528255377584:True:=⟨⟩
def tw849791519236783855:True:=⟨⟩
def tw16814195218518742526:True:=⟨⟩
def tw17365958941130459520:True:=⟨⟩
def tw661932875316618339:True:=⟨⟩
def tw15362993729834001659:True:=⟨⟩
def tw6120633166179247454:True:=⟨⟩
def tw9938841112713290973:True:=⟨⟩
def tw7558075526154165889:True:=⟨⟩
def tw4988626353145313805:True:=⟨⟩
def tw15678197084046791092:True:=⟨⟩
def tw13069647466677878127:True:=⟨⟩
def tw10981686969652098313:True:=⟨⟩
def tw8787855473681385892:True:=⟨⟩
def tw13003337309986057053:True:=⟨⟩
def tw8262561481710577279:True:=⟨⟩
def tw499657367560313560:True:=⟨⟩
def tw13637132763266247848:True:=⟨⟩
def tw2219452649059933458:True:=⟨⟩
def tw7876060970397948212:True:=⟨⟩
def tw17009178529331158189:True:=⟨⟩
def tw8211699794619037764:True:=⟨⟩
def tw18422045230813627622:True:=⟨⟩
def tw4422725705541396884:True:=⟨⟩
def tw16691305468566680252:True:=⟨⟩
def tw11526693141943327990:True:=⟨⟩
def tw10540174630177355143:True:=⟨⟩
def tw16873206503194627437:True:=⟨⟩
def tw16033646014006873824:True:=⟨⟩
def tw11964141806427574708:True:=⟨⟩
def tw15512564768959290895:True:=⟨⟩
def tw4332239024698586171:True:=⟨⟩
def tw12187331776818471592:True:=⟨⟩
def tw1862064140886606134:True:=⟨⟩
def tw14024641109505363702:True:=⟨⟩
def tw10790903146610740448:True:=⟨⟩
def tw7474931496964080161:True:=⟨⟩
def tw15800571829867666826:True:=⟨⟩
def tw1769723560865610693:True:=⟨⟩
def tw14882461099562407288:True:=⟨⟩
def tw3101956246997934749:True:=⟨⟩
def tw585063679091084500:True:=⟨⟩
def tw17709097469209550680:True:=⟨⟩
def tw482312773644790097:True:=⟨⟩
def tw6970882512988352690:True:=⟨⟩
def tw508868945830269723:True:=⟨⟩
def tw7001336068196424766:True:=⟨⟩
def tw16611107222110285180:True:=⟨⟩
def tw8229383246827402919:True:=⟨⟩
def tw7806046834457071793:True:=⟨⟩
def tw6625581635400792571:True:=⟨⟩
def tw6545311969725853704:True:=⟨⟩
def tw9120547515639465544:True:=⟨⟩
def tw7388420104112864951:True:=⟨⟩
def tw12594934673181414240:True:=⟨⟩
def tw775725110618297339:True:=⟨⟩
def tw6701985629294375679:True:=⟨⟩
def tw13040014789096806068:True:=⟨⟩
def tw17825559452706383938:True:=⟨⟩
def tw16755691658635454004:True:=⟨⟩
def tw4603762395102973488:True:=⟨⟩
def tw4744889431959878220:True:=⟨⟩
def tw3534854922474159680:True:=⟨⟩
def tw1287551359201707342:True:=⟨⟩
def tw17919117112247760084:True:=⟨⟩
def tw12566247678835327194:True:=⟨⟩
def tw503765396370979222:True:=⟨⟩
def tw5370824842152422384:True:=⟨⟩
def tw17383722235688098931:True:=⟨⟩
def tw8563705889597714836:True:=⟨⟩
def tw8410927355177901607:True:=⟨⟩
def tw9473905441291892698:True:=⟨⟩
def tw18290432330390302008:True:=⟨⟩
def tw12058136952718746674:True:=⟨⟩
def tw15277378998121665034:True:=⟨⟩
def tw17720724923018637357:True:=⟨⟩
def tw17631918902309625825:True:=⟨⟩
def tw4812879015744877661:True:=⟨⟩
def tw8969745136329896527:True:=⟨⟩
def tw18000498304984022121:True:=⟨⟩
def tw12076881632862087618:True:=⟨⟩
def tw5907215874965316380:True:=⟨⟩
def tw9839204023245516193:True:=⟨⟩
def tw16757935034981455721:True:=⟨⟩
def tw8232661500986525570:True:=⟨⟩
def tw18393056684939992130:True:=⟨⟩
def tw767815045662834240:True:=⟨⟩
def tw14222831448542762753:True:=⟨⟩
def tw12478766226146628202:True:=⟨⟩
def tw9176869351019366948:True:=⟨⟩
def tw9786059517014768821:True:=⟨⟩
def tw3927050715508485320:True:=⟨⟩
def tw13863813145644901023:True:=⟨⟩
def tw3724389107629386446:True:=⟨⟩
def tw16870924436887883448:True:=⟨⟩
def tw1754760157458433029:True:=⟨⟩
def tw9236585750466575831:True:=⟨⟩
def tw3559854743406764205:True:=⟨⟩
def tw10168619406844587641:True:=⟨⟩
def tw14521656237456397425:True:=⟨⟩
def tw10500067588235438558:True:=⟨⟩
def tw12091316630197289944:True:=⟨⟩
def tw11639932143346548275:True:=⟨⟩
def tw12125013486190961622:True:=⟨⟩
def tw1066693837332954550:True:=⟨⟩
def tw14094346654600019733:True:=⟨⟩
def tw7882206718475218388:True:=⟨⟩
def tw184904483279356857:True:=⟨⟩
def tw12764151630371825895:True:=⟨⟩
def tw12591049985518670435:True:=⟨⟩
def tw8161012793732445116:True:=⟨⟩
def tw3449603538670695422:True:=⟨⟩
def tw9908191058588325716:True:=⟨⟩
def tw12662122475137006961:True:=⟨⟩
def tw6130347608684037103:True:=⟨⟩
def tw17031955086767154024:True:=⟨⟩
def tw6506668024795062171:True:=⟨⟩
def tw13908046773470480928:True:=⟨⟩
def tw8546123805007078661:True:=⟨⟩
def tw9685519215333521555:True:=⟨⟩
def tw10603606231057806031:True:=⟨⟩
def tw8024439894436966465:True:=⟨⟩
def tw4922391709386682287:True:=⟨⟩
def tw3306288143231083601:True:=⟨⟩
def tw6899824771626833423:True:=⟨⟩
def tw13824907837642460021:True:=⟨⟩
def tw12420800384532519437:True:=⟨⟩
def tw6452576805938474335:True:=⟨⟩
def tw1722133593538237371:True:=⟨⟩
def tw10291512630406707657:True:=⟨⟩
def tw5874570930982244652:True:=⟨⟩
def tw3332172863526534192:True:=⟨⟩
def tw9164007403214539264:True:=⟨⟩
def tw7068313910355182932:True:=⟨⟩
def tw5114707613585819859:True:=⟨⟩
def tw17270404003098212132:True:=⟨⟩
def tw4489150733347216803:True:=⟨⟩
def tw7699084330225758171:True:=⟨⟩
def tw2901801195774174924:True:=⟨⟩
def tw14478265676174363373:True:=⟨⟩
def tw1269864066883899920:True:=⟨⟩
def tw1032150829204875392:True:=⟨⟩
def tw2013239006139611662:True:=⟨⟩
def tw17673296179445125878:True:=⟨⟩
def tw15876404984930913703:True:=⟨⟩
def tw11451402814847846820:True:=⟨⟩
def tw10402523630867624006:True:=⟨⟩
def tw2302718337911249154:True:=⟨⟩
def tw7212596936516858245:True:=⟨⟩
def tw2930197804914107701:True:=⟨⟩
def tw6099284639164545601:True:=⟨⟩
def tw1874458174108404051:True:=⟨⟩
def tw1766213885866616253:True:=⟨⟩
def tw17372501657663936607:True:=⟨⟩
def tw1248811542047660204:True:=⟨⟩
def tw3561079789645663274:True:=⟨⟩
def tw9769203187015214245:True:=⟨⟩
def tw9530535716916329702:True:=⟨⟩
def tw9029769969481232618:True:=⟨⟩
def tw8977120104333687:True:=⟨⟩
def tw8565682399655056076:True:=⟨⟩
def tw800606397201286277:True:=⟨⟩
def tw7964856730600157663:True:=⟨⟩
def tw7481296843555074795:True:=⟨⟩
def tw7206997897465170087:True:=⟨⟩
def tw7094020521597537782:True:=⟨⟩
def tw6660082537309749327:True:=⟨⟩
def tw6178998136057137587:True:=⟨⟩
def tw5888700276913301442:True:=⟨⟩
def tw5559577717778221159:True:=⟨⟩
def tw5322513570993115201:True:=⟨⟩
def tw5098098767215816858:True:=⟨⟩
def tw480012290617878969:True:=⟨⟩
def tw3687227343930044549:True:=⟨⟩
def tw3562274745880187734:True:=⟨⟩
def tw2829179541690028792:True:=⟨⟩
def tw2654998466964050266:True:=⟨⟩
def tw2538194092681764732:True:=⟨⟩
def tw2479396187516016217:True:=⟨⟩
def tw2417206310411714060:True:=⟨⟩
def tw2193001827213861240:True:=⟨⟩
def tw2185534639604826671:True:=⟨⟩
def tw18234243330701323450:True:=⟨⟩
def tw18030858569553514775:True:=⟨⟩
def tw17679271100830706382:True:=⟨⟩
def tw17337989364087545538:True:=⟨⟩
def tw17165346117267711946:True:=⟨⟩
def tw1672749911328915555:True:=⟨⟩
def tw16308580440473136715:True:=⟨⟩
def tw16149536081120630745:True:=⟨⟩
def tw16050513739940854570:True:=⟨⟩
def tw15510562888408383827:True:=⟨⟩
def tw15484421355353134922:True:=⟨⟩
def tw15335803621845294289:True:=⟨⟩
def tw15213225764318399842:True:=⟨⟩
def tw14974533381571380919:True:=⟨⟩
def tw14382115097390575650:True:=⟨⟩
def tw13877786646370037393:True:=⟨⟩
def tw13709429940935226907:True:=⟨⟩
def tw13615434395178885134:True:=⟨⟩
def tw13596057634101735187:True:=⟨⟩
def tw13056253161285853040:True:=⟨⟩
def tw12536427061083777421:True:=⟨⟩
def tw12369612817198880879:True:=⟨⟩
def tw12059967745368514579:True:=⟨⟩
def tw12032295817173453997:True:=⟨⟩
def tw11557362076179057467:True:=⟨⟩
def tw11070073018356612893:True:=⟨⟩
def tw108667634994267804:True:=⟨⟩
def tw10640104134908540733:True:=⟨⟩
def tw10520827342430009303:True:=⟨⟩
def tw10512412776922415575:True:=⟨⟩
def tw10042913891291290866:True:=⟨⟩
def tw10002902719190031610:True:=⟨⟩
end PySem.W.Fast
open Option renaming some->Z, none->J
open Bool renaming true->B, false->L
theorem q0(h:True:=by first | exact .inl Y | exact .inr Y | assumption):True:=h
theorem q1(h:True:=by decide):True:=h
theorem q2(h:True:=by rfl):True:=h
theorem q3(h:True:=by intro _;rfl):True:=h
theorem q4(h:True:=by with_unfolding_all rfl):True:=h
theorem q5(h:True:=by first | exact Or.inl Y | exact Or.inr (Or.inl Y) | exact Or.inr (Or.inr Y)):True:=h
theorem q6(h:True:=by first | exact Or.inl Y | exact Or.inr Y):True:=h
theorem q7(h:True:=by first | exact .inl Y | exact .inr Y):True:=h
theorem q8(h:True:=by exact rfl):True:=h
set_option hygiene false
local macro_rules|`({`q0,$x})=>`(autoParam $x q0._auto_1)|`({`q1,$x})=>`(autoParam $x q1._auto_1)|`({`q2,$x})=>`(autoParam $x q2._auto_1)|`({`q3,$x})=>`(autoParam $x q3._auto_1)|`({`q4,$x})=>`(autoParam $x q4._auto_1)|`({`q5,$x})=>`(autoParam $x q5._auto_1)|`({`q6,$x})=>`(autoParam $x q6._auto_1)|`({`q7,$x})=>`(autoParam $x q7._auto_1)|`({`q8,$x})=>`(autoParam $x q8._auto_1)
theorem Y.{u}{α:Sort u}{a:α}:a=a:=rfl
open PySem renaming Shared->IR, model->KB, sizeLine->KF, Addr->KM, Value->On, wpAny->PP, starEach->Pv, FuncData->P3, Program->Re, Around->SB, keywordEach->SL, compareOp->UF, Heap->UV, World->XAA, attributeBase->XAB, foldedSetIterable->XAC
open PyProof.Rows renaming Keyed->Pi, SortSt->SC, pendingOf->SZ
set_option linter.all false
set_option maxRecDepth 100000
set_option Elab.async false
set_option maxHeartbeats 4000000
abbrev Z9:=PySem.Value->PySem.Shared->Prop
abbrev Xi:=List (PySem.Addr×PySem.Obj)
abbrev Xc:=List (List PySem.Addr)
abbrev Ww:=PySem.W.Frag
abbrev Wp:=PySem.Str->Option PySem.Value
abbrev W6:=List PySem.Addr
abbrev W7:=List PySem.Value
abbrev Ut:=Option PySem.Value
abbrev Us:=List Nat
abbrev Ur:=List Int
abbrev Uq:=List (List (List Nat))
abbrev Zr:=@if_pos
abbrev Zq:=@if_neg
abbrev ZK:=@decide_eq_false
abbrev Z0:=@beq_eq_false_iff_ne
abbrev Z5:=@congrArg
open Option renaming bind_eq_some_iff->Zz,map_eq_some_iff->Zt,bind_some->Zs,isSome_iff_exists->YW,map_some->Y6,isSome_map->Xu,getD_some->Xm
open List renaming mem_cons_self->Zy,mem_cons_of_mem->Zw,length_append->Zv,length_map->Zu,getD_eq_getElem?_getD->Zp,map_cons->Zo,mem_singleton->Zl,getElem?_eq_getElem->Zk,mem_append->Zj,mem_cons->Zh,append_assoc->Ze,nodup_cons->Zc,length_cons->Zb,getElem?_eq_some_iff->ZZ,append_nil->ZV,mem_append_right->ZQ,size_toArray->ZP,zip_cons_cons->ZM,getElem?_map->ZL,pairwise_append->ZG,nodup_append->ZC,length_singleton->ZA,flatten_cons->Z1,find?_cons->Z3,length_drop->Z4,all_eq_true->Z6,map_map->Z7,mem_append_left->Z8,map_append->Yz,getElem?_append_right->Yy,length_range->Yx,getElem?_append_left->Yw,mem_map->Yv,length_zip->Yu,flatten_append->Yt,length_set->Ys,getElem?_eq_none->Yr,take_of_length_le->Yq,length_take->Yp,getElem_mem->Yo,mem_range->Ym,getElem_of_mem->Yj,getElem?_eq_none_iff->Yi,suffix_refl->Yh,mem_of_getElem?->Yb,getElem?_zip_eq_some->Ya,sublist_cons_self->YY,findIdx?_cons->YX,lookup_cons->YV,map_congr_left->YU,take_append_drop->YR,cons_lt_cons_iff->YQ,pairwise_cons->YL,pairwise_iff_getElem->YH,drop_eq_getElem_cons->YG,nil_append->YA,isSuffixOf_iff_suffix->Y4,drop_eq_nil_of_le->Y5,perm_append_comm->Y7,any_cons->Xz,nodup_nil->Xy,pairwise_singleton->Xs,getElem?_replicate->Xr,suffix_nil->Xp,lt_irrefl->Xh,sublist_append_right->Xe,mem_filter->Xd,mem_of_mem_take->Xa,mem_of_mem_drop->XZ,map_nil->XY,getElem?_set_ne->XX,getD_cons_succ->XS,mem_reverse->XR,cons_append->XQ,any_eq_true->XO,take_append_of_le_length->XI,getElem?_set_self->XF,drop_of_length_le->XE,zip_append->XA,length_replicate->X0,length_filter_le->X1,pairwise_map->X2,getElem_take->X3,getElem_drop->X4,mem_or_eq_of_mem_set->Wv,getElem?_cons_succ->Wi,drop_zero->Wf,map_snd_zip->WY,map_fst_zip->WX,drop_append->WW,not_lt->WV,nil_suffix->WQ,length_nil->WO,all_cons->W4,zipIdx_cons->Vy,filter_cons->Vx,drop_suffix->Vw,map_set->Vs,flatten_singleton->Vr,of_mem_zip->Vn,foldl_cons->Vm,set_getElem_self->Vj,mem_iff_getElem?->Vi,cons_prefix_cons->Vh,take_zero->Ve,mem_iff_getElem->Vd,map_id->Vc,filterMap_cons->VT,sum_cons->VP,lt_trans->VO,prefix_append->VL,mem_filterMap->VJ,map_singleton->VI,getElem?_set->V1,find?_isSome->V2,find?_append->V3,ext_getElem?->V4,prefix_of_prefix_length_le->V8,nodup_range->Ux,le_antisymm->Uw
open PySem renaming wpAny_bind->Zx,wpAny_pure->Zm,wpAny_truthy_bool->YM,wpAny_mono->YD,wpAny_specialOf->Y2,wpAny_call_entry->Y3,wpAny_forIn_list->Xw,wpAny_holding->Xf,wpAny_tupleItemsOf->X5,wpAny_Call_Name_kw->X6,wpAny_passesOwn->X7,wpAny_callSpecialIfBoundUnlessNone?_slot->Wy,isSubtype_tuple_tuple->Wx,mem_of_lookup->Wt,wpAny_isInstance->Wq,wpAny_rule->Wc,tupleKind_room_in1->Wb,sizeLine_eq->Wa,wpAny_typeNameOfWhole_keyiter->WH,wpAny_newObj_type->Vq,codeAny_mono->VY,wpAny_ret_mkInt->VR,wpAny_execs_nil->VQ
open Nat renaming le_refl->Zn,lt_of_lt_of_le->Zi,le_add_right->Zd,le_trans->ZU,ne_of_lt->ZR,le_of_lt->ZO,le_of_not_lt->ZJ,lt_of_le_of_lt->ZF,zero_le->ZE,lt_succ_of_lt->Yl,lt_of_succ_lt->Yg,add_lt_add_left->Ye,min_eq_left->Yd,sub_le->Yc,pos_of_ne_zero->YZ,lt_irrefl->YK,le_antisymm->YJ,le_of_lt_succ->YF,add_assoc->YE,le_add_left->YB,lt_succ_self->Y0,add_sub_cancel_left->Y1,le_of_eq->Y9,succ_le_succ->Xl,min_le_right->Xk,le_sub_one_of_lt->Xb,add_le_add_left->XT,zero_add->XH,le_add_right_of_le->XG,add_sub_cancel->Wo,zero_lt_of_lt->Wh,min_self->Wg,le_of_not_le->WZ,sub_lt->WE,lt_of_le_of_ne->WD,sub_pos_of_lt->WB,add_sub_assoc->WA,min_eq_right->W9,lt_add_of_pos_right->Vz,sub_self->Vv,ne_of_gt->Vu,lt_or_ge->Vt,zero_lt_one->Vp,not_lt_zero->Vo,sub_one_lt_of_le->Vf,sub_le_sub_left->VW,add_sub_cancel'->VU,succ_le_of_lt->VD,lt_trans->VB,lt_of_succ_le->VA,add_sub_of_le->V0,lt_of_not_le->Uy
open Option.some renaming inj->Zg
open Bool renaming false_ne_true->Zf,and_eq_true_iff->ZS,and_eq_true->YI,false_eq_true->Y8,eq_iff_iff->Xo,true_eq_false->VG
open PySem.Heap renaming get?_push_of_some->Za,lt_size->ZI,get?_push_size->ZD,get?_update_ne->XC,get?_push_ne->Wu,size_update->Wk,get?_update_other->WU,get?_update_self->VH,size_push->V5
open Array renaming getElem_mem->ZY,getElem?_toList->Z2,toList_append->YT,length_toList->YS,perm_iff_toList_perm->Xg,forIn_toList->XD,toList_extract->WR,size_append->W3,size_push->Vl,toList_reverse->Va,toList_push->V7,toList_map->Uu
open PyProof.Rows renaming wpS_pure->ZX,wpS_bind->ZW,wpS_forRange->YO,wpS_mono->XJ,wpS_modify->WM,size_push'->WK,callWith_type1->WI,listUpdate_at->W5,wpS_get->Vg
open PySem.W renaming mg_none_of->Yn,mg_of->Yf,kia_one->YC,plainGet_of->VX,callWith_K->VM
open PySem.PassesOwn renaming never->Yk
open Ne renaming symm->YN
open PySem.F renaming plainAttrs_list->Xv,slot_tuple_hash->Xn,slot_dict_keyiterator_next->Xj,type_list_append->XW,slot_list_append->XU,slot_dict_setdefault->XB,slot_tuple_eq->X8,slot_dict_keyiterator_iter->X9,plainAttrs_dict->W8,slot_dict_get->Vk,args_dict_setdefault_3->Uz
open Int renaming toNat_natCast->Xq,emod_lt_of_pos->Wm,emod_nonneg->WN,natCast_nonneg->WC,mul_le_mul_of_nonneg_right->Uv
open List.Perm renaming refl->XM
open PySem.Paired renaming length->Wz
open List.cons renaming inj->Ws,injEq->Wr
open Prod.mk renaming inj->Wj
open List.Sublist renaming refl->We
open PySem.Calls renaming callWith_builtin->WT,evalArgs_plain->V6
open PySem.Heap.SameBut renaming update->W0
open List.Pairwise renaming filter->Vb
open Prod renaming ext->VE
open Nat.succ renaming inj->VC
open PySem.Value renaming isStrOf_shape->V9
section
namespace L2
def ai{G:Prop}(h:∀P:Prop,(G->P)->P):G:=h G id
end L2
namespace VS
noncomputable abbrev Tx:=Us
inductive T where
 |non | bl (b:Bool) | int (i:Int) | str (s:Tx) | scr (ns:Ur)
 |tup (l:List T) | lst (l:List T) | dct (kd:Nat) (l:List (T×T)) | obj (c:Nat) (fs:List (Nat×T))
 deriving Inhabited
abbrev Ul:=List T
noncomputable def d4:Nat:=16777216
mutual
def Iw:T->Bool
 |.lst _=>L
 |.dct _ _=>L
 |.obj _ _=>L
 |.tup l=>fU l
 |_=>B
def fU:Ul->Bool
 |[]=>B
 |t :: r=>Iw t&&fU r
end
mutual
@[simp] def eqT:T->T->Bool
 |.non,.non=>B
 |.bl a,.bl b=>a==b
 |.bl a,.int i=>(if a then 1 else 0)==i
 |.int i,.bl a=>i==(if a then 1 else 0)
 |.int i,.int j=>i==j
 |.str s,.str t=>s==t
 |.tup a,.tup b=>kU a b
 |.lst a,.lst b=>kU a b
 |_,_=>L
def kU:Ul->Ul->Bool
 |[],[]=>B
 |a :: d,b :: bs=>eqT a b&&kU d bs
 |_,_=>L
end
noncomputable def Ji:Nat->T->Bool
 |_,.non=>B
 |_,.bl _=>B
 |_,.int _=>B
 |_,.str _=>B
 |n+1,.tup l=>l.all (Ji n)
 |n+1,.lst l=>l.all (Ji n)
 |_,_=>L
inductive Md where | fr | pu | bo
 deriving DecidableEq,Inhabited
noncomputable def Md.join:Md->Md->Md
 |.bo,_=>.bo
 |_,.bo=>.bo
 |.pu,_=>.pu
 |_,.pu=>.pu
 |.fr,.fr=>.fr
inductive Cell where | pu (t:T) | ow (t:T)
 deriving Inhabited
abbrev Up:=Option Cell
noncomputable abbrev Env:=List (Up)
noncomputable abbrev Val:=Md×T
abbrev Um:=Option Val
abbrev Uo:=List Val
abbrev Ex:=Env->Um
abbrev IE:=Env->Option (Uo)
@[simp] def up(m:Md)(t:T):Val:=(if Iw t then .fr else m,t)
noncomputable def C8:T->Bool
 |.lst _=>B
 |.dct _ _=>B
 |.obj _ _=>B
 |_=>L
@[simp] def cellOf:Val->Up
 | (.fr,t)=>Z (if C8 t then .ow t else .pu t)
 | (.pu,t)=>Z (.pu t)
 | (.bo,_)=>J
inductive Out where | nx (U:Env) | rt (v:Val) (U:Env) | bk (U:Env) | ct (U:Env)
abbrev Sx:=Env->Option Out
@[simp] noncomputable def eC(t:T)(_:Env):Um:=Z (.fr,t)
abbrev Q3(i:Int):Ex:=eC (.int i)
@[simp] def aa(i:Nat)(U:Env):Um:=match U[i]? with
 |some (some (.pu t))=>Z (up .pu t)
 |some (some (.ow t))=>Z (.bo,t)
 |_=>J
@[simp] noncomputable def e1(f:Val->Um)(a:Ex)(U:Env):Um:=(a U).bind f
@[simp] noncomputable def e2(f:Val->Val->Um)(a b:Ex)(U:Env):Um:=(a U).bind λx=>(b U).bind λy=>f x y
@[simp] noncomputable def aj(_:Env):Option (Uo):=Z []
@[simp] noncomputable def ae(a:Ex)(r:IE)(U:Env):Option (Uo):=(a U).bind λx=>(r U).bind λb=>Z (x :: b)
@[simp] noncomputable def eN(f:Uo->Um)(a:IE)(U:Env):Um:=(a U).bind f
@[simp] def cf:Uo->Md
 |[]=>.fr
 |v :: r=>v.1.join (cf r)
@[simp] noncomputable def trees(l:Uo):Ul:=l.map (·.2)
def Lm(m:Md)(l:Ul):Um:=if l.length<=d4 then Z (if fU l then .fr else m,.lst l) else J
@[simp] def gF(a:IE)(U:Env):Um:=(a U).bind λl=>Lm (cf l) (trees l)
def oC(l:Uo):Um:=if l.length<=d4 then Z (up (cf l) (.tup (trees l))) else J
@[simp] def kP(a:IE)(U:Env):Um:=(a U).bind oC
def dput(l:List (T×T))(k v:T):List (T×T):=if l.any (λp=>eqT p.1 k) then l.map (λp=>if eqT p.1 k then (p.1,v) else p) else l++[(k,v)]
noncomputable def iw:T->Bool
 |.int _=>B
 |.str _=>B
 |_=>L
def keyOk:Nat->T->Bool
 |0,t=>iw t
 |1,.tup l=>l.all iw
 |_,_=>L
noncomputable def pairs:List (Ex×Ex)->Env->Option (List (Val×Val))
 |[],_=>Z []
 | (a,b) :: r,U=>(a U).bind λx=>(b U).bind λy=>(pairs r U).map ((x,y) :: ·)
def l9(a:Nat)(b:List (Ex×Ex))(U:Env):Um:=(pairs b U).bind λl=>if l.all (λp=>keyOk a p.1.2)/\l.length<=15 then
 Z (cf (l.map (·.2)),.dct a (l.foldl (λd p=>dput d p.1.2 p.2.2) [])) else J
noncomputable def NA:T->Option Bool
 |.bl b=>Z b
 |.int i=>Z (i != 0)
 |.str s=>Z (!s.isEmpty)
 |.lst l=>Z (!l.isEmpty)
 |.tup l=>Z (!l.isEmpty)
 |.dct 0 l=>Z (!l.isEmpty)
 |.non=>Z L
 |_=>J
@[simp] noncomputable def ie(a b:Ex)(U:Env):Um:=(a U).bind λx=>match x.2 with
 |.bl true=>b U
 |.bl false=>Z (.fr,.bl L)
 |_=>J
@[simp] noncomputable def Mc(a b:Ex)(U:Env):Um:=(a U).bind λx=>match x.2 with
 |.bl true=>Z (.fr,.bl B)
 |.bl false=>b U
 |_=>J
@[simp] noncomputable def iq(a:Ex)(U:Env):Um:=(a U).bind λx=>match x.2 with
 |.bl b=>Z (.fr,.bl (!b))
 |_=>J
noncomputable def Pn:T->Bool
 |.non=>B
 |_=>L
@[simp] def Ha(a:Ex)(U:Env):Um:=(a U).bind λx=>Z (.fr,.bl (Pn x.2))
@[simp] def gS(a:Ex)(U:Env):Um:=(a U).bind λx=>Z (.fr,.bl (!Pn x.2))
@[simp] noncomputable def pK(f g:Val->Val->Um)(a b c:Ex)(U:Env):Um:=(a U).bind λx=>(b U).bind λy=>(f x y).bind λr=>match r.2 with
 |.bl true=>(c U).bind λz=>g y z
 |.bl false=>Z (.fr,.bl L)
 |_=>J
@[simp] noncomputable def int?:T->Option Int
 |.int i=>Z i
 |_=>J
def dH:Val->Val->Um
 | (_,.int i),(_,.int j)=>Z (.fr,.int (i+j))
 | (_,.str s),(_,.str t)=>if s.length+t.length<=d4 then Z (.fr,.str (s++t)) else J
 | (m,.lst s),(n,.lst t)=>Lm (m.join n) (s++t)
 |_,_=>J
@[simp] noncomputable def qu:Val->Val->Um
 | (_,.int i),(_,.int j)=>Z (.fr,.int (i-j))
 |_,_=>J
noncomputable def Sl:Int:=4611686018427387904
noncomputable def Rv:Int:=18446744073709551616
def oE:Val->Val->Um
 | (_,.int i),(_,.int j)=>if (-Rv<i/\i<Rv)\/(-Rv<j/\j<Rv) then Z (.fr,.int (i*j)) else J
 |_,_=>J
noncomputable def cA:Val->Val->Um
 | (_,.int i),(_,.int j)=>if 0<j/\j<1073741824 then Z (.fr,.int (i/j)) else J
 |_,_=>J
noncomputable def oMod:Val->Val->Um
 | (_,.int i),(_,.int j)=>if 0<j then Z (.fr,.int (i%j)) else J
 |_,_=>J
noncomputable def Mp:Tx->Tx->Bool
 |[],[]=>L
 |[],_ :: _=>B
 |_ :: _,[]=>L
 |a :: d,b :: bs=>if a<b then B else if b<a then L else Mp d bs
@[simp] def oLt:Val->Val->Um
 | (_,.int i),(_,.int j)=>Z (.fr,.bl (decide (i<j)))
 | (_,.str s),(_,.str t)=>Z (.fr,.bl (Mp s t))
 |_,_=>J
@[simp] def oLe:Val->Val->Um
 | (_,.int i),(_,.int j)=>Z (.fr,.bl (decide (i<=j)))
 | (_,.str s),(_,.str t)=>Z (.fr,.bl (!Mp t s))
 |_,_=>J
@[simp] def RL(a b:Val):Um:=oLt b a
@[simp] def RM(a b:Val):Um:=oLe b a
@[simp] def oEq(a b:Val):Um:=if Ji 60 a.2/\Ji 60 b.2 then Z (.fr,.bl (eqT a.2 b.2)) else J
@[simp] def Ly(a b:Val):Um:=if Ji 60 a.2/\Ji 60 b.2 then Z (.fr,.bl (!eqT a.2 b.2)) else J
def cH(l:List (T×T))(k:T):Option T:=(l.find? λp=>eqT p.1 k).map (·.2)
noncomputable def JY(n:Nat)(i:Int):Option Nat:=if 0<=i then (if i<n then Z i.toNat else J) else (if 0<=i+n then Z (i+n).toNat else J)
@[simp] def sub(m:Md)(t:T):Val:=up m t
@[simp] def aH:Val->Val->Um
 | (m,.lst l),(_,.int i)=>(JY l.length i).bind λk=>(l[k]?).map (sub m)
 | (m,.tup l),(_,.int i)=>(JY l.length i).bind λk=>(l[k]?).map (sub m)
 | (_,.scr l),(_,.int i)=>(JY l.length i).bind λk=>(l[k]?).map λn=>(.fr,.int n)
 | (_,.str l),(_,.int i)=>(JY l.length i).bind λk=>(l[k]?).map λn=>(.fr,.str [n])
 |_,_=>J
noncomputable def clip(n:Nat)(i:Int):Nat:=if i<0 then (i+n).toNat else min i.toNat n
def cut{α:Type}(l:List α)(a b:Option Int):List α :=
 let lo:=match a with | none=>0 | some i=>clip l.length i
 let d:=match b with | none=>l.length | some i=>clip l.length i
 (l.drop lo).take (d-lo)
@[simp] def oSl(v:Val)(a b:Option Int):Um:=match v with
 | (_,.str s)=>Z (.fr,.str (cut s a b))
 | (m,.lst l)=>Lm m (cut l a b)
 |_=>J
@[simp] def vE(c:Option Ex)(U:Env):Option (Option Int):=match c with
 |none=>Z J
 |some e=>(e U).bind λy=>(int? y.2).map Z
@[simp] def Se(a:Ex)(b d:Option Ex)(U:Env):Um:=(a U).bind λx=>(vE b U).bind λl=>(vE d U).bind λh=>oSl x l h
noncomputable def Hc:T->Option Nat
 |.lst l=>Z l.length
 |.tup l=>Z l.length
 |.str l=>Z l.length
 |.scr l=>Z l.length
 |.dct 0 l=>Z l.length
 |_=>J
@[simp] def dY:Uo->Um
 |[x]=>(Hc x.2).map λn=>(.fr,.int n)
 |_=>J
@[simp] noncomputable def qV:Uo->Um
 |[(_,.int i),(_,.int j)]=>Z (.fr,.int (if j<i then j else i))
 |_=>J
@[simp] noncomputable def uQ:Uo->Um
 |[(_,.int i),(_,.int j)]=>Z (.fr,.int (if j > i then j else i))
 |_=>J
noncomputable def sI:Ul->Option (Ur)
 |[]=>Z []
 |.int i :: r=>(sI r).map (i :: ·)
 |_=>J
noncomputable def strs?:Ul->Option (List Tx)
 |[]=>Z []
 |.str i :: r=>(strs? r).map (i :: ·)
 |_=>J
def BJ:Uo->Um
 |[(_,.lst l)]=>(sI l).bind λis=>Z (.fr,.int is.sum)
 |_=>J
@[simp] def CS:Uo->Um
 |[(m,.lst l)]=>Lm m l
 |[(m,.tup l)]=>Lm m l
 |_=>J
def iy:Uo->Um
 |[(m,.lst l)]=>if l.length<=d4 then Z (up m (.tup l)) else J
 |_=>J
def oR(x:Tx):List Tx->List Tx
 |[]=>[x]
 |y :: r=>if Mp y x then y :: oR x r else x :: y :: r
def eW(l:List Tx):List Tx:=l.foldr oR []
inductive Ty where | int | str | bool | list | tuple | dict
@[simp] noncomputable def rX:Ty->T->Bool
 |.int,.int _=>B
 |.int,.bl _=>B
 |.bool,.bl _=>B
 |.str,.str _=>B
 |.list,.lst _=>B
 |.tuple,.tup _=>B
 |.dict,.dct _ _=>B
 |_,_=>L
@[simp] noncomputable def u5:T->Bool
 |.obj _ _=>L
 |.scr _=>L
 |.dct 0 _=>B
 |.dct 1 _=>B
 |.dct _ _=>L
 |_=>B
@[simp] def MM(t:Ty)(a:Ex)(U:Env):Um:=(a U).bind λx=>if u5 x.2 then Z (.fr,.bl (rX t x.2)) else J
noncomputable def total:List Tx->Nat
 |[]=>0
 |x :: r=>x.length+total r
noncomputable def dc(a:Tx):List Tx->Tx
 |[]=>[]
 |[x]=>x
 |x :: r=>x++a++dc a r
def ng:Val->Uo->Um
 | (_,.str sep),[(_,.lst l)]=>(strs? l).bind λa=>if total a+a.length*sep.length<=d4 then Z (.fr,.str (dc sep a)) else J
 |_,_=>J
@[simp] noncomputable def eM(f:Val->Uo->Um)(o:Ex)(b:IE)(U:Env):Um:=(o U).bind λx=>(b U).bind λa=>f x a
noncomputable abbrev Fn:=Ul->Um
@[simp] def bR(g:Fn)(b:IE)(U:Env):Um:=(b U).bind λa=>(g (trees a)).bind λr=>match r with
 | (.fr,t)=>Z (.fr,t)
 | (_,t)=>Z ((Md.pu).join (cf a),t)
abbrev Ju:=Env->Option (Md×Ul)
noncomputable def zh:Val->Option (Md×Ul)
 | (m,.lst l)=>Z (m,l)
 | (m,.tup l)=>Z (m,l)
 | (_,.str l)=>Z (.fr,l.map λc=>.str [c])
 |_=>J
@[simp] def h9(a:Ex)(U:Env):Option (Md×Ul):=(a U).bind zh
noncomputable def rng(a:Int)(n:Nat):Ul:=(List.range n).map λ(k:Nat)=>T.int (a+k)
def fj(a:Ex)(U:Env):Option (Md×Ul):=(a U).bind λx=>(int? x.2).bind λj=>if -Sl<=j/\j<Sl then Z (.fr,rng 0 j.toNat) else J
noncomputable def gP(k:Nat):Ul->Ul
 |[]=>[]
 |t :: r=>.tup [.int k,t] :: gP (k+1) r
def GZ:Val->Option (Md×Ul)
 | (m,.lst l)=>Z (m,gP 0 l)
 |_=>J
@[simp] def zY(a:Ex)(U:Env):Option (Md×Ul):=(a U).bind GZ
abbrev Tg:=T->Env->Option Env
@[simp] noncomputable def bK(i:Nat)(t:T)(U:Env):Option Env:=if i<U.length then Z (U.set i (Z (.pu t))) else J
noncomputable def Bs:List Tg->Ul->Env->Option Env
 |[],[],U=>Z U
 |g :: b,t :: a,U=>(g t U).bind λd=>Bs b a d
 |_,_,_=>J
@[simp] def sM(a:List Tg)(t:T)(U:Env):Option Env:=match t with
 |.tup l=>Bs a l U
 |_=>J
@[simp] def SH(m:Md)(l:Ul):Bool:=match m with
 |.bo=>fU l
 |_=>B
def jH(e:Tg)(a:Option Ex)(d:Ex)(U:Env):Ul->Option (Uo)
 |[]=>Z []
 |t :: r=>(e t U).bind λf=>(match a with | none=>some true | some c=>(c f).bind λx=>NA x.2).bind λb =>
  if b then (d f).bind λv=>(jH e a d U r).map (v :: ·) else jH e a d U r
def eQ(k:Nat)(tg:Tg)(it:Ju)(a:Option Ex)(elt:Ex)(U:Env):Um:=(it U).bind λ(m,l)=>if SH m l then
 (jH tg a elt (List.replicate k J++U) l).bind λb=>Lm (cf b) (trees b) else J
@[simp] noncomputable def eX(U:Env):Option Out:=Z (.nx U)
@[simp] noncomputable def ak(a b:Sx)(U:Env):Option Out:=(a U).bind λo=>match o with
 |.nx d=>b d
 |o=>Z o
@[simp] def kH(i:Nat)(e:Ex)(U:Env):Option Out:=(e U).bind λv=>(cellOf v).bind λc=>if i<U.length then Z (.nx (U.set i (Z c))) else J
@[simp] noncomputable def aT(i:Nat)(e:Ex)(U:Env):Option Out:=(e U).bind λv=>match v.1 with
 |.bo=>J
 |_=>if i<U.length then Z (.nx (U.set i (Z (.pu v.2)))) else J
@[simp] noncomputable def eA(e:Ex)(U:Env):Option Out:=(e U).bind λv=>Z (.rt (match v.1 with | .bo=>.pu | m=>m,v.2) U)
@[simp] def ji(i:Nat)(U:Env):Option Out:=match U[i]? with
 |some (some (.ow t))=>Z (.rt (.fr,t) (U.set i J))
 |some (some (.pu t))=>Z (.rt (up .pu t) U)
 |_=>J
@[simp] def JB(c:Ex)(a b:Sx)(U:Env):Option Out:=(c U).bind λx=>(NA x.2).bind λt=>if t then a U else b U
noncomputable def forL(d:Tg)(a:Sx):Ul->Env->Option Out
 |[],U=>Z (.nx U)
 |t :: r,U=>(d t U).bind λe=>(a e).bind λo=>match o with
  |.nx b=>forL d a r b
  |.ct b=>forL d a r b
  |.bk b=>Z (.nx b)
  |.rt v b=>Z (.rt v b)
@[simp] noncomputable def okF:Md->Bool
 |.bo=>L
 |_=>B
@[simp] def iI(b:Tg)(d:Ju)(a:Sx)(U:Env):Option Out:=(d U).bind λ(m,l)=>if okF m then forL b a l U else J
def eY(c:Ex)(a:Sx):Nat->Env->Option Out
 |0,_=>J
 |n+1,U=>(c U).bind λx=>(NA x.2).bind λt=>if t then (a U).bind λo=>match o with
  |.nx b=>eY c a n b
  |.ct b=>eY c a n b
  |.bk b=>Z (.nx b)
  |.rt v b=>Z (.rt v b)
  else Z (.nx U)
noncomputable def xD:Nat:=1000000
def nz(c:Ex)(a:Sx)(U:Env):Option Out:=eY c a xD U
@[simp] noncomputable def sO(i:Nat)(U:Env):Option Out:=match U[i]? with
 |some (some (.ow t))=>Z (.nx (U.set i (Z (.pu t))))
 |some (some (.pu _))=>Z (.nx U)
 |_=>J
inductive Lj where | fld (k:Nat) | ix (e:Ex) | un
inductive Ky where | fld (k:Nat) | at (t:T) | un
def keys:List Lj->Env->Option (List Ky)
 |[],_=>Z []
 |.fld k :: r,U=>(keys r U).map (.fld k :: ·)
 |.ix e :: r,U=>(e U).bind λx=>(keys r U).map (.at x.2 :: ·)
 |.un :: r,U=>(keys r U).map (.un :: ·)
noncomputable def Ic(a:List (Nat×T))(k:Nat):Option T:=a.lookup k
noncomputable def HJ(a:List (Nat×T))(k:Nat)(v:T):List (Nat×T):=if a.any (λp=>p.1==k) then a.map (λp=>if p.1==k then (p.1,v) else p) else a++[(k,v)]
def Bu{α:Type}(f:T->Option (T×α)):List Ky->T->Option (T×α)
 |[],t=>f t
 |.fld k :: r,.obj c fs=>(Ic fs k).bind λx=>(Bu f r x).map λ(y,a)=>(.obj c (HJ fs k y),a)
 |.at (.int i) :: r,.lst l=>(JY l.length i).bind λj=>(l[j]?).bind λx=>(Bu f r x).map λ(y,a)=>(.lst (l.set j y),a)
 |.at k :: r,.dct d l=>(cH l k).bind λx=>(Bu f r x).map λ(y,a)=>(.dct d (dput l k y),a)
 |_,_=>J
abbrev Xx:=Env->Option (Val×Env)
@[simp] noncomputable def xP(e:Ex)(U:Env):Option (Val×Env):=(e U).map λv=>(v,U)
@[simp] def mh(i:Nat)(a:List Lj)(f:T->Uo->Option (T×Val))(e:IE)(U:Env):Option (Val×Env):=match U[i]? with
 |some (some (.ow t))=>(keys a U).bind λks=>(e U).bind λb=>(Bu (λx=>f x b) ks t).map λ(d,v)=>(v,U.set i (Z (.ow d)))
 |_=>J
@[simp] noncomputable def fit(v:Val):Option T:=match v.1 with
 |.fr=>Z v.2
 |_=>J
def aC:T->Uo->Option (T×Val)
 |.lst l,[v]=>(fit v).bind λt=>if l.length<d4 then Z (.lst (l++[t]),(.fr,.non)) else J
 |_,_=>J
@[simp] noncomputable def sX(x:Xx)(U:Env):Option Out:=(x U).map λr=>.nx r.2
@[simp] noncomputable def fn(d e:Nat)(a:Sx):Fn:=λb=>if b.length=d then
 (a (b.map (λt=>Z (.pu t))++List.replicate (e-d) J)).bind λo=>match o with
  |.rt v _=>Z v
  |.nx _=>Z (.fr,.non)
  |_=>J else J
def m7{s t:Tx}(h:s.length+t.length<=16777216):dH (m,.str s) (n,.str t)=Z (.fr,.str (s++t)):=Zr h
def nj{i j:Int}(h:-18446744073709551616<i/\i<18446744073709551616):oE (m,.int i) (n,.int j)=Z (.fr,.int (i*j)):=Zr (.inl h)
def i9{i j:Int}(h:0<j/\j<1073741824):cA (m,.int i) (n,.int j)=Z (.fr,.int (i/j)):=Zr h
def gh{i j:Int}(h:0<j):oMod (m,.int i) (n,.int j)=Z (.fr,.int (i%j)):=Zr h
def bV{l:Ul}(h:l.length<16777216):aC (.lst l) [(.fr,t)]=Z (.lst (l++[t]),(.fr,.non)):=by
 exact Zr h
def hZ{m:Md}{j:Int}(e:a U=Z (m,.int j))(h:-4611686018427387904<=j/\j<4611686018427387904):fj a U=Z (.fr,rng 0 j.toNat):=by
 simp only[fj,e,Zs,int?];exact Zr h
def zW{l:Ul}(h:l.length<=16777216):Lm m l=Z (if fU l then .fr else m,.lst l):=Zr h
def cI{b:Tg}{r:Ul}{U1:Env}(f:b t U=Z U1)(e:a U1=Z (.nx d)):forL b a (t :: r) U=forL b a r d:=by
 simp[forL,f,e]
theorem strs_map{α:Type}(f:α->Tx):∀l:List α,strs? (l.map λx=>T.str (f x))=Z (l.map f)
 |[]=>rfl
 |a :: r=>Z5 (Option.map (f a :: ·)) (strs_map f r)
theorem ints_map{α:Type}(f:α->Int):∀l:List α,sI (l.map λx=>T.int (f x))=Z (l.map f)
 |[]=>rfl
 |a :: r=>Z5 (Option.map (f a :: ·)) (ints_map f r)
theorem oz:∀a:List Tx,dc [] a=a.flatten
 |[]=>rfl
 |[x]=>by simp[dc]
 |x :: y :: r=>by
  have:=oz (y :: r);simp[dc]at this ⊢;exact this
theorem nV:∀a:List Tx,total a=a.flatten.length
 |[]=>rfl
 |x :: r=>by simp[total,nV r]
def wH{m n:Md}(e:strs? l=Z a)(b:a.flatten.length<=16777216):ng (m,.str []) [(n,.lst l)]=Z (.fr,.str a.flatten):=by
 simp only[ng,Zs,e,oz];refine Zr ?_;rw[nV];show _<=16777216;simpa using b
def kQ{α:Type}(l:List α):(l.map λx=>[x]).flatten=l:=by
 induction l with
 |nil=>rfl
 |cons a r b=>rw[Zo,Z1,b];rfl
def kj(n:Nat):rng 0 n=(List.range n).map λ(k:Nat)=>T.int (k:Int):=by
 unfold rng;simp
theorem mY{α:Type}(f:α->T)(h:∀x,Iw (f x)=B):∀l:List α,fU (l.map f)=B
 |[]=>rfl
 |a :: r=>ZS.mpr ⟨h a,mY f h r⟩
theorem pf{α:Type}(g:α->T)(f:α->Val):∀l:List α,(∀a∈l,∃e,i (g a) U=Z e/\d e=Z (f a))->jH i J d U (l.map g)=Z (l.map f)
 |[],_=>rfl
 |a :: r,h=>by
  obtain⟨e,m,j⟩:=h a Zy;simp[jH,m,j,pf g f r λb hb=>h b (Zw _ hb)]
theorem kF{α:Type}{c:Ex}(g:α->T)(p:α->Bool)(f:α->Val):∀l:List α,(∀a∈l,∃i x,j (g a) U=Z i/\c i=Z x/\NA x.2=Z (p a)/\(p a=B->d i=Z (f a))) →
  jH j (Z c) d U (l.map g)=Z ((l.filter p).map f)
 |[],_=>rfl
 |a :: r,h=>by
  obtain⟨i,x,q,o,n,s⟩:=h a Zy;have m:=kF (c:=c) g p f r λb hb=>h b (Zw _ hb);cases e:p a with
  |true=>simp[-NA,jH,q,o,n,e,s e,m]
  |false=>simp[-NA,jH,q,o,n,e,m]
theorem oh{α:Type}(f:α->T):∀l:List α,cf (l.map λa=>(Md.fr,f a))=.fr
 |[]=>rfl
 |a :: r=>Z5 (Md.join .fr) (oh f r)
def oT{α:Type}(f:α->Val)(l:List α):trees (l.map f)=l.map λa=>(f a).2:=by simp
def gQ{α:Type}{k:Nat}{tg:Tg}{it:Ju}{elt:Ex}{U:Env}{m:Md}(g:α->T)(f:α->T)(l:List α)(i:it U=Z (m,l.map g))(e:SH m (l.map g)=B)(d:l.length<=16777216)(h:∀a∈l,∃b,tg (g a) (List.replicate k J++U)=Z b/\elt b=Z (.fr,f a)):eQ k tg it J elt U=Z (.fr,.lst (l.map f)):=by
 simp only[eQ,i,Zs];rw[Zr e,pf g (λa=>(Md.fr,f a)) l h];simp only[Zs,oh,oT];rw[zW (by rw[Zu];exact d)];simp
def qI{α:Type}(g:α->T)(p:α->Bool)(f:α->T)(l:List α)(o:i U=Z (m,l.map g))(n:SH m (l.map g)=B)(j:l.length<=16777216)(h:∀a∈l,∃d x,e (g a) (List.replicate k J++U)=Z d/\c d=Z x/\NA x.2=Z (p a)/\(p a=B->b d=Z (.fr,f a))):eQ k e i (Z c) b U=Z (.fr,.lst ((l.filter p).map f)):=by
 simp only[eQ,o,Zs];rw[Zr n,kF g p (λa=>(Md.fr,f a)) l h];simp only[Zs,oh,oT];rw[zW (by rw[Zu];exact ZU (X1 _ _) j)];simp
def xS{α:Type}{m n:Md}(f:α->T)(l:List α)(i:Int)(d:α)(g:0<=i)(e:i<l.length)(a:Iw (f (l.getD i.toNat d))=B):aH (m,.lst (l.map f)) (n,.int i)=Z (.fr,f (l.getD i.toNat d)):=by
 have b:i.toNat<l.length:=by lia
 simp only[Zp,Zk b,Xm]at a ⊢;simp[JY,g,e,b,a]
def zO{l:Uo}(h:l.length<=16777216):oC l=Z (up (cf l) (.tup (trees l))):=Zr h
end VS
end
section
namespace L2
open PySem PySem.Spec PyProof.Rows
noncomputable abbrev Key:=Sum Int Str
def l6:Key->On->Bool
 |.inl k,v=>Value.isInt k v
 |.inr x,v=>Value.isStrOf x v
noncomputable def FT(w:XAA):Key->Int
 |.inl k=>hashInt k
 |.inr x=>hashStr w x
theorem bJ:∀{k:Key}{v:On},l6 k v=B->(∃i t,k=Sum.inl i/\v=Value.int i t)\/(∃x t,k=Sum.inr x/\v=Value.str x t)
 |.inl i,v,h=>by
  obtain⟨t,e⟩:=Value.isInt_shape (k:=i) (v:=v) h;exact .inl ⟨i,t,rfl,e⟩
 |.inr x,v,h=>by
  obtain⟨t,e⟩:=V9 (x:=x) (v:=v) h;exact .inr ⟨x,t,rfl,e⟩
def wx(i:Int)(t:Tok):l6 (.inl i) (.int i t)=B:=by simp[l6,Value.isInt]
def w6(x:Str)(t:Tok):l6 (.inr x) (.str x t)=B:=by simp[l6,Value.isStrOf]
def Ft(a b:Int):decide ((Sum.inl a:Key)=Sum.inl b)=(a==b):=by
 by_cases e:a=b
 ·subst e;simp
 ·rw[ZK (λq=>e (Sum.inl.inj q))];exact(Z0.mpr e).symm
def DO(a b:Str):decide ((Sum.inr a:Key)=Sum.inr b)=decide (a=b):=by
 by_cases e:a=b
 ·subst e;simp
 ·rw[ZK (λq=>e (Sum.inr.inj q)),ZK e]
def EE(a:Int)(b:Str):decide ((Sum.inl a:Key)=Sum.inr b)=L:=ZK (λq=>nomatch q)
def EG(a:Str)(b:Int):decide ((Sum.inr a:Key)=Sum.inl b)=L:=ZK (λq=>nomatch q)
def aQ(d:Re)(w:XAA):PySem.KeyKind d w Key where
 is:=l6
 hash:=FT w
 inj:=λv a b l hb=>by
  rcases bJ l with⟨i,t,rfl,rfl⟩ | ⟨x,t,rfl,rfl⟩
  ·rcases bJ hb with⟨j,u,rfl,e⟩ | ⟨y,u,rfl,e⟩
   ·injection e with e1 _;rw[e1]
   ·exact nomatch e
  ·rcases bJ hb with⟨j,u,rfl,e⟩ | ⟨y,u,rfl,e⟩
   ·exact nomatch e
   ·injection e with e1 _;rw[e1]
 byValue:=λk v h=>by
  rcases bJ h with⟨i,t,rfl,rfl⟩ | ⟨x,t,rfl,rfl⟩<;>rfl
 pyHash:=λf h=>by
  rcases bJ f with⟨i,t,rfl,rfl⟩ | ⟨x,t,rfl,rfl⟩
  ·exact wpAny_pyHash_int h
  ·exact wpAny_pyHash_str h
 eqBool:=λg f h=>by
  rcases bJ g with⟨i,t,rfl,rfl⟩ | ⟨x,t,rfl,rfl⟩
  ·rcases bJ f with⟨j,u,rfl,rfl⟩ | ⟨y,u,rfl,rfl⟩
   ·rw[Ft]at h;exact wpAny_eqBool_int h
   ·rw[EE]at h;exact SeqAt.EqAt.int_str i t y u _ _ _ _ h
  ·rcases bJ f with⟨j,u,rfl,rfl⟩ | ⟨y,u,rfl,rfl⟩
   ·rw[EG]at h;exact SeqAt.EqAt.str_int x t j u _ _ _ _ h
   ·rw[DO]at h;exact wpAny_eqBool_str h
 «strs» := λk x t v h=>by
  rcases bJ h with⟨i,u,rfl,e⟩ | ⟨y,u,rfl,e⟩
  ·exact nomatch e
  ·injection e with e1 _
   subst e1;cases v<;>rfl
def qT(a:Re)(w:XAA)(i:Int)(t:Tok):(aQ a w).is (.inl i) (.int i t)=B:=wx i t
def tj(a:Re)(w:XAA)(x:Str)(t:Tok):(aQ a w).is (.inr x) (.str x t)=B:=w6 x t
inductive V where
 |non | bl (b:Bool) | int (i:Int) | str (x:Str) | byt (b:Array UInt8) | flt (b:UInt64) | ref (a:KM) | ty (n:String)
 deriving DecidableEq
noncomputable def RelV:V->On->Prop
 |.non,u=>u=Value.none
 |.bl b,u=>u=Value.bool b
 |.int i,u=>∃t,u=Value.int i t
 |.str x,u=>∃t,u=Value.str x t
 |.byt b,u=>∃t,u=Value.bytes b t
 |.flt b,u=>∃t,u=Value.float b t
 |.ref a,u=>u=Value.ref a
 |.ty n,u=>u=Value.type n
abbrev aM:List V->W7->Prop:=Paired RelV
theorem aM.length{b:W7}(r:aM a b):a.length=b.length:=Wz r
theorem aM.get:∀{a:List V}{b:W7}{i:Nat}{x:V},aM a b->a[i]?=Z x->∃u,b[i]?=Z u/\RelV x u
 |_,_,_,_,.nil,e=>by simp at e
 |_,_,0,_,.cons r _,e=>by simp at e;subst e;exact⟨_,rfl,r⟩
 |_,_,i+1,x,.cons _ t,e=>by
  obtain⟨u,f,d⟩:=aM.get (i:=i) (x:=x) t (by simpa using e);exact⟨u,by simpa using f,d⟩
theorem aM.set(r:RelV x u):∀{a:List V}{b:W7}(i:Nat),aM a b->aM (a.set i x) (b.set i u)
 |_,_,_,.nil=>.nil
 |_,_,0,.cons _ t=>.cons r t
 |_,_,i+1,.cons q t=>.cons q (aM.set r i t)
theorem aM.append:∀{b a:List V}{e d:W7},aM b e->aM a d->aM (b++a) (e++d)
 |_,_,_,_,.nil,s=>s
 |_,_,_,_,.cons r t,s=>.cons r (aM.append t s)
theorem aM.take:∀{a:List V}{b:W7}(n:Nat),aM a b->aM (a.take n) (b.take n)
 |_,_,0,_=>.nil
 |_,_,_+1,.nil=>.nil
 |_,_,n+1,.cons r t=>.cons r (aM.take n t)
theorem aM.drop:∀{a:List V}{b:W7}(n:Nat),aM a b->aM (a.drop n) (b.drop n)
 |_,_,0,r=>r
 |_,_,_+1,.nil=>.nil
 |_,_,n+1,.cons _ t=>aM.drop n t
def aM.none_of:∀{a:List V}{b:W7}{i:Nat},aM a b->a[i]?=J->b[i]?=J:=λ{a b i} r e=>by
 have f:=r.length;have d:=Yi.mp e;exact Yi.mpr (by lia)
def iL:Option V->Ut->Prop
 |some v,some u=>RelV v u
 |none,none=>True
 |_,_=>False
def KV{κ:Type}:List (κ×V)->List (κ×On)->Prop:=Paired λ(p:κ×V) (q:κ×On)=>p.1=q.1/\RelV p.2 q.2
noncomputable def kV:Key->V
 |.inl i=>.int i
 |.inr x=>.str x
set_option genInjectivity true in
inductive HO where
 |lst (xs:List V)
 |tup (xs:List V)
 |dK (bt:List (Key×V)) | dT (bt:List (List Key×V))
 |set (S:Int->Bool) (n:Nat)
 |ins (C dx:KM) (fs:List (Str×V))
 |own (x:KM)
 |xd (fs:List (Str×V))
 |met (f x:KM)
 |rng (lo hi:Int)
 |frz (o:Obj) (u:HO)
 |tbl (q:Str)
 |ext (φ:XAA->UV->Prop)
noncomputable abbrev Hp:=KM->Option HO
noncomputable def upd(H:Hp)(a:KM)(o:HO):Hp:=λb=>if b=a then Z o else H b
def ar{H:Hp}:upd H a o a=Z o:=by unfold upd;rw[Zr Y]
def aw(h:b≠a):upd H a o b=H b:=by unfold upd;rw[Zq h]
def vi:upd (upd H a o) a u=upd H a u:=by
 funext b;unfold upd;split<;>rfl
def GO{H:Hp}{a b:KM}{o u:HO}(h:H a=Z o)(f:H b=Z u)(d:o≠u):a≠b:=by
 intro e;subst e;rw[h]at f;exact d (Zg f)
def bD{H:Hp}{a b:KM}{o:HO}(h:H a=Z o)(d:H b=J):a≠b:=by
 intro e;subst e;rw[h]at d;cases d
noncomputable def NT(h:UV)(a:KM):Prop:=∀o,h.get? a=Z o->o.dict=J
def NT.new(h:UV)(a:Array On):NT (h.push { cls:=.type "tuple",data:=.seq a }) h.objs.size:=λo e=>by
 rw[ZD _ Y]at e;cases e;rfl
def NT.of{h:UV}(e:h.get? a=Z o)(d:o.dict=J):NT h a:=λf b=>by
 rw[e]at b;cases b;exact d
section
variable(P:Re)(w:XAA)
def cU(H:Hp)(h:UV)(a:KM):HO->Prop
 |.lst b=>b.length<=KF/\∃(e:W7)(n:Nat),aM b e/\h.get? a=Z { cls:=.type "list",data:=.seq e.toArray n }
 |.tup b=>b.length<=KF/\∃e:W7,aM b e/\NT h a/\IsTup h a e.toArray
 |.dK i=>i.length<=KF/\(a==sysModules)=L/\∃g,KV i g/\h.DictOf (aQ P w) a g
 |.dT i=>i.length<=KF/\(a==sysModules)=L/\∃b:List (List Key×KM×On),
   Paired (λ(p:List Key×V) (q:List Key×KM×On)=>p.1=q.1/\H q.2.1=Z (.tup (p.1.map kV))/\RelV p.2 q.2.2) i b ∧
   ∃o s A,h.get? a=Z o/\o.ExactDict/\o.data=.dict s A/\s.toList=b.map (entryOfKey (tupleKind (aQ P w)))/\(b.map (·.1)).Nodup
 |.set S n=>h.SetOf (intKind P w) a S n
 |.ins C j fs=>H j=Z (.own a)/\fs.length<=1000/\j≠a/\h.get? a=Z (PySem.W.instObj C j) ∧
   ∃d,h.Ns1 j d/\(∀f,iL (fs.lookup f) (d f))/\PySem.Within d (fs.map (·.1))
 |.own _=>∃o,h.get? a=Z o
 |.xd fs=>∃d,h.Ns1 a d/\∀f,iL (fs.lookup f) (d f)
 |.rng lo z=>∃t u v,h.get? a=Z { cls:=.type "range",data:=.fields #[.int lo t,.int z u,.int 1 v] }
 |.frz o u=>h.get? a=Z o/\cU H h a u
 |.tbl q=>∃l,h.get? a=Z { cls:=.none,data:=.fields l }/\TriplesOk l.toList/\∀pos v,codeAmong pos l.toList=Z v->∃c o y g t,v=.ref c/\H c=Z (.frz o (.own y))/\o.data=.fields g/\g[1]?=Z (.str q t)
 |.met f x=>h.get? a=Z (PySem.W.methodObj (.ref f) (.ref x))
 |.ext φ=>φ w h/\(∃o,h.get? a=Z o)/\∀r m:UV,φ w r->(∀o,r.get? a=Z o->m.get? a=Z o)->φ w m
def Jm(H:Hp)(h:UV):Prop:=∀a o,H a=Z o->cU P w H h a o
end
section
variable{H:Hp}
theorem cU.lt(x:cU P w H h a o):a<h.objs.size:=by
 cases o with
 |lst b=>obtain⟨_,_,_,_,e⟩:=x;exact ZI e
 |tup b=>obtain⟨_,_,_,_,p⟩:=x;exact p.lt
 |dK d=>obtain⟨_,_,_,_,o,_,_,e,_⟩:=x;exact ZI e
 |dT d=>obtain⟨_,_,_,_,o,_,_,e,_⟩:=x;exact ZI e
 |set S n=>obtain⟨o,_,_,_,e,_⟩:=x;exact ZI e
 |ins C j fs=>obtain⟨_,_,_,e,_⟩:=x;exact ZI e
 |own y=>obtain⟨_,e⟩:=x;exact ZI e
 |xd fs=>obtain⟨_,⟨_,_,_,e,_⟩,_⟩:=x;exact ZI e
 |rng lo i=>obtain⟨_,_,_,e⟩:=x;exact ZI e
 |frz g u=>obtain⟨e,_⟩:=x;exact ZI e
 |tbl q=>obtain⟨_,e,_⟩:=x;exact ZI e
 |met f y=>exact ZI (x)
 |ext φ=>obtain⟨_,⟨_,e⟩,_⟩:=x;exact ZI e
theorem Paired.NI{α β:Type}{F G:α->β->Prop}:∀{e:List α}{d:List β},Paired F e d->(∀a b,F a b->G a b)->Paired G e d
 |_,_,.nil,_=>.nil
 |_,_,.cons r t,f=>.cons (f _ _ r) (Paired.NI t f)
def cU.Lu{h':UV}(x:cU P w H h a o)(k:∀b u,(b=a\/H b=Z (.own a))->h.get? b=Z u->h'.get? b=Z u)(N:∀b,H b=Z (.own a)->H' b=Z (.own a))(M:∀b l,H b=Z (.tup l)->H' b=Z (.tup l))(O:∀b o y,H b=Z (.frz o (.own y))->H' b=Z (.frz o (.own y))):cU P w H' h' a o:=by
 induction o with
 |lst l=>obtain⟨z,m,n,r,e⟩:=x;exact⟨z,m,n,r,k _ _ (.inl Y) e⟩
 |tup l=>obtain⟨z,m,r,nd,g,e,c⟩:=x;exact⟨z,m,r,NT.of (k _ _ (.inl Y) e) (nd _ e),g,k _ _ (.inl Y) e,c⟩
 |dK Q=>obtain⟨z,y,s,r,g,i,j,e,c⟩:=x;exact⟨z,y,s,r,g,i,j,k _ _ (.inl Y) e,c⟩
 |dT Q =>
  obtain⟨z,y,l,r,g,i,j,e,c⟩:=x;exact⟨z,y,l,Paired.NI r λp q z=>⟨z.1,M _ _ z.2.1,z.2.2⟩,g,i,j,k _ _ (.inl Y) e,c⟩
 |set S n=>obtain⟨g,i,j,t,e,c⟩:=x;exact⟨g,i,j,t,k _ _ (.inl Y) e,c⟩
 |ins C U fs =>
  obtain⟨d,z,ne,e,D,⟨A,i,j,e2,c⟩,r⟩:=x;exact⟨N _ d,z,ne,k _ _ (.inl Y) e,D,⟨A,i,j,k _ _ (.inr d) e2,c⟩,r⟩
 |own y=>obtain⟨g,e⟩:=x;exact⟨g,k _ _ (.inl Y) e⟩
 |xd fs=>obtain⟨D,⟨A,i,j,e,c⟩,r⟩:=x;exact⟨D,⟨A,i,j,k _ _ (.inl Y) e,c⟩,r⟩
 |rng lo R=>obtain⟨t,u,v,e⟩:=x;exact⟨t,u,v,k _ _ (.inl Y) e⟩
 |frz g u G=>obtain⟨e,q⟩:=x;exact⟨k _ _ (.inl Y) e,G q⟩
 |tbl q =>
  obtain⟨F,e,e1,e2⟩:=x;refine⟨F,k a _ (.inl Y) e,e1,λpos v r=>?_⟩;obtain⟨c,o,y,s,t,r1,r2,E⟩:=e2 pos v r;exact⟨c,o,y,s,t,r1,O _ _ _ r2,E⟩
 |met f y =>
  exact k a _ (.inl Y) x
 |ext φ=>obtain⟨p,⟨o,e⟩,st⟩:=x;exact⟨st _ _ p λo q=>k _ _ (.inl Y) q,⟨o,k _ _ (.inl Y) e⟩,st⟩
theorem Jm.lt(x:Jm P w H h)(e:H a=Z o):a<h.objs.size:=(x a o e).lt
def Jm.fresh(x:Jm P w H h)(e:h.objs.size<=a):H a=J:=by
 cases q:H a with
 |none=>rfl
 |some u=>exact absurd (Zi (x.lt q) e) (YK _)
def Jm.kept{h':UV}(x:Jm P w H h)(k:∀b u,h.get? b=Z u->h'.get? b=Z u):Jm P w H h':=λa o e =>
 (x a o e).Lu (λb u _ q=>k b u q) (λ_ q=>q) (λ_ _ q=>q) λ_ _ _ q=>q
def Jm.laid{h':UV}(x:Jm P w H h)(k:∀b u,h.get? b=Z u->h'.get? b=Z u)(g:h.objs.size<=a)(d:cU P w (upd H a o) h' a o):Jm P w (upd H a o) h':=λb u e=>by
 have f:=x.fresh g;by_cases hb:b=a
 ·subst hb;rw[ar]at e;cases e;exact d
 ·rw[aw hb]at e;exact(x b u e).Lu (λc v _ q=>k c v q) (λc q=>by rw[aw (bD q f)];exact q) (λc i q=>by rw[aw (bD q f)];exact q) λc _ _ q=>by rw[aw (bD q f)];exact q
end
noncomputable def Rd(H:Hp)(a:KM)(u:HO):Prop:=H a=Z u\/∃o,H a=Z (.frz o u)
def Rd.ok(r:Rd H a u)(x:Jm P w H h):cU P w H h a u:=by
 rcases r with r | ⟨o,r⟩
 ·exact x a u r
 ·obtain⟨_,q⟩:=x a _ r;exact q
def Il:Option HO->Prop
 |some (.lst _)=>True
 |some (.dK _)=>True
 |some (.dT _)=>True
 |some (.set _ _)=>True
 |some (.ins _ _ _)=>True
 |some (.ext _)=>True
 |_=>False
section
variable{H:Hp}
def Jm.write{h':UV}(m:Jm P w H h)(a:Il (H x))(he:e=x\/H e=Z (.own x))(k:∀b u,b≠e->h.get? b=Z u->h'.get? b=Z u)(o:∃u,h'.get? e=Z u)(g:cU P w (upd H x o') h' x o'):Jm P w (upd H x o') h':=λb u q=>by
 have l:∀c y,H c=Z (.own y)->c≠x:=λc y r z=>by subst z;rw[r]at a;exact a
 by_cases hb:b=x
 ·subst hb;rw[ar]at q;cases q;exact g
 ·rw[aw hb]at q;by_cases f:b=e
  ·have j:H b=Z (.own x):=by
    rcases he with z | z
    ·exact absurd (f.trans z) hb
    ·rw[f];exact z
   rw[q]at j;cases j;obtain⟨v,n⟩:=o;exact⟨v,by rw[f];exact n⟩
  ·refine(m b u q).Lu (λc v d r=>k c v ?_ r) (λc r=>by rw[aw (l c b r)];exact r) (λc i r=>by rw[aw ((λc i r z=>by subst z;rw[r]at a;exact a) c i r)];exact r) λc _ _ r=>by rw[aw λz=>by subst z;rw[r]at a;exact a];exact r
   rcases d with rfl | d
   ·exact f
   ·rintro rfl;rcases he with z | z
    ·exact l c b d z
    ·rw[d]at z;cases z;exact hb Y
end
structure Un(fs ex:W6)(H H':Hp)(h h':UV):Prop where
 keep:∀b o,h.get? b=some o->H b=none->b∉fs->b∉ex->h'.get? b=some o
 slot:∀b o,h.get? b=some o->H b=none->b∈fs->b∉ex->∃sl,h'.get? b=some { o with slots:=sl }
 free:∀b o,h.get? b=some o->H b=none->b∉ex->H' b=none
 there:∀b o,h.get? b=some o->b∉ex->∃o',h'.get? b=some o'
 KZ:∀b xs,H b=some (.tup xs)->H' b=some (.tup xs)
 Kv:∀b o u,H b=some (.frz o u)->H' b=some (.frz o u)
 Ko:∀b q,H b=some (.tbl q)->H' b=some (.tbl q)
section
variable{H:Hp}
def Un.any(u:Un fs ex H H1 h h1)(q:h.get? b=Z d)(n:H b=J)(f:b∉ex):∃g,h1.get? b=Z { d with slots:=g }:=by
 by_cases hb:b∈fs
 ·exact u.slot b d q n hb f
 ·exact⟨d.slots,u.keep b d q n hb f⟩
def Un.kept{h h':UV}(k:∀b u,h.get? b=Z u->h'.get? b=Z u):Un fs ex H H h h' :=
 ⟨λb d q _ _ _=>k b d q,λb d q _ _ _=>⟨d.slots,k b d q⟩,λ_ _ _ n _=>n,λb d q _=>⟨d,k b d q⟩,λ_ _ q=>q,λ_ _ _ q=>q,λ_ _ q=>q⟩
def Un.refl:Un fs ex H H h h:=Un.kept λ_ _ q=>q
def Un.laid{h h':UV}(k:∀b u,h.get? b=Z u->h'.get? b=Z u)(g:h.objs.size<=a)(d:H a=J):Un fs ex H (upd H a o) h h' where
 keep:=λb u q _ _ _=>k b u q
 slot:=λb u q _ _ _=>⟨u.slots,k b u q⟩
 free:=λb u q n _=>by rw[aw (ZR (Zi (ZI q) g))];exact n
 there:=λb u q _=>⟨u,k b u q⟩
 KZ:=λb f q=>by rw[aw (bD q d)];exact q
 Kv:=λb u f q=>by rw[aw (bD q d)];exact q
 Ko:=λb n q=>by rw[aw (bD q d)];exact q
def Un.write{h h':UV}(d:Il (H x))(he:e=x\/H e=Z (.own x))(k:∀b u,b≠e->h.get? b=Z u->h'.get? b=Z u)(l:∃u,h'.get? e=Z u):Un fs ex H (upd H x o) h h':=by
 have g:∀b,H b=J->b≠x:=λb n z=>by subst z;rw[n]at d;exact d
 have hb:∀b,H b=J->b≠e:=λb n z=>by
  subst z;rcases he with r | r
  ·exact g b n r
  ·rw[n]at r;cases r
 have f:∀b u,H b=Z u->¬Il (Z u)->b≠x:=λb u q nm z=>by subst z;rw[q]at d;exact nm d
 refine⟨λb u q n _ _=>k b u (hb b n) q,λb u q n _ _=>⟨u.slots,k b u (hb b n) q⟩,λb u q n _=>by rw[aw (g b n)];exact n,λb u q _=>?_,
  λb j q=>by rw[aw (f b _ q λz=>z)];exact q,λb u j q=>by rw[aw (f b _ q λz=>z)];exact q,λb n q=>by rw[aw (f b _ q λz=>z)];exact q⟩
 by_cases i:b=e
 ·subst i;exact l
 ·exact⟨u,k b u i q⟩
end
noncomputable def gone(v:On):Obj:=⟨v,J,.freed,#[]⟩
def wk(H:Hp)(a:KM)(o:Obj):Obj:=match H a with
 |some (.tbl q)=>gone (.str q 0)
 |some _=>gone .none
 |none=>match o.data with
  |.freed=>gone .none
  |_=>o
def rZ(h:UV)(H:Hp):Heap:=⟨h.objs.mapIdx λa o=>wk H a o,h.life⟩
def Tb(b:UV)(a:KM)(q:Str):Prop:=b.objs[a]?=Z (gone (.str q 0))
def vX(h:UV)(H:Hp):(rZ h H).objs.size=h.objs.size:=Array.size_mapIdx
def qF(h:UV)(H:Hp)(b:KM):(rZ h H).objs[b]?=(h.objs[b]?).map (wk H b):=Array.getElem?_mapIdx
def mJ{h:UV}:h.get? b=Z o↔h.objs[b]?=Z o/\o.data ≠ .freed:=by
 unfold Heap.get?;split
 ·rename_i e;exact⟨λz=>(nomatch z),λ⟨z,n⟩=>by rw[e]at z;cases z;exact absurd Y n⟩
 ·rename_i n;exact⟨λz=>⟨z,λd=>by
   obtain⟨c,u,f,a⟩:=o;cases (d);exact n _ _ _ z⟩,λz=>z.1⟩
def zP{h:UV}(e:h.get? b=Z o)(n:H b=J):(rZ h H).get? b=Z o:=by
 obtain⟨e1,e2⟩:=mJ.mp e;refine mJ.mpr ⟨?_,e2⟩;rw[qF,e1,Y6];unfold wk;rw[n];cases h:o.data with
 |freed=>exact absurd h e2
 |_=>rfl
def Az(e:(rZ h H).get? b=Z o):h.get? b=Z o/\H b=J:=by
 obtain⟨e1,e2⟩:=mJ.mp e;rw[qF]at e1;obtain⟨u,e3,a⟩:=Zt.mp e1;unfold wk at a;cases q:H b with
 |some y =>
  rw[q]at a;cases y<;>(cases a;exact absurd Y e2)
 |none =>
  rw[q]at a;refine⟨mJ.mpr ?_,rfl⟩;cases d:u.data with
  |freed=>rw[d]at a;cases a;exact absurd Y e2
  |_ =>
   have f:u=o:=by rw[d]at a;exact a
   subst f;exact⟨e3,e2⟩
def B3:Tb (rZ h H) b q↔H b=Z (.tbl q)/\b<h.objs.size:=by
 unfold Tb;rw[qF];constructor
 ·intro e;obtain⟨u,e3,a⟩:=Zt.mp e;refine⟨?_,(Array.getElem?_eq_some_iff.mp e3).1⟩;unfold wk at a;cases y:H b with
  |some f =>
   rw[y]at a;cases f with
   |tbl i=>cases a;rfl
   |_=>cases a
  |none =>
   rw[y]at a;cases d:u.data with
   |freed=>rw[d]at a;cases a
   |_ =>
    have g:u=gone (.str q 0):=by rw[d]at a;exact a
    rw[g]at d;cases d
 ·rintro⟨e,l⟩;rw[Array.getElem?_eq_getElem l,Y6];unfold wk;rw[e]
noncomputable def Bf(g h:UV)(L:KM):Xi:=(List.range h.objs.size).filterMap λa=>if a=L\/(g.get? a).isSome=B then J else (h.get? a).map λo=>(a,o)
def rest(g h:UV)(L d:KM):Xi:=(Bf g h L).filter λp=>decide (p.1≠d)
structure Mod(K:Ww)(mg:Wp)(base:UV):Prop where
 Qy:K.In base
 glob:base.Ns mainGlobals mg
 blt:∃mb,base.Ns builtinsNs mb/\∀x:Str,x ≠ "__name__" → mb x=bootBuiltins x
 nolimit:base.NoLimit
structure Cx where
 prog:Re
 w:XAA
 K:Ww
 mg:Wp
 base:UV
 A:SB
 N:List Str
 s₀:IR
 H₀:Hp
 env:Env
 outer:List Env
 stack:List Env
 ex:W6
 fn:Str->Bool
 calm:Bool
 pn:Xi
 xe:Z9
abbrev K1(e:Expr)(l:List Expr)(X:Cx):Prop:=Pv (e :: l) X.env=(L,eval e X.env) :: Pv l X.env
abbrev K2(p:Pos)(l:List Expr)(X:Cx):Prop:=(backTo p (Pv l X.env)).any (·.1)=L
abbrev K3(x:Str):Prop:=(x==("__debug__" : Str))=L
abbrev K4(x:Str):Prop:=(x==("__classdict__" : Str))=L
noncomputable def JJ(l:List Env):W6:=l.filterMap (·.frame)
abbrev Cx.fs(X:Cx):W6:=JJ X.outer
noncomputable def KG(a:Scope)(x:Str):Prop:=a.names.lookup x=Z .local\/a.names.lookup x=Z .cell\/a.names.lookup x=Z .free
noncomputable def Loc(a:Scope)(x:Str):Prop:=a.names.lookup x=Z .local\/a.names.lookup x=Z .cell
noncomputable def Look(a:Env)(h:UV)(m:Wp)(x:Str)(u:On):Prop :=
 (a.kindOf x=Z .local/\m x=Z u)\/((a.kindOf x=Z .cell\/a.kindOf x=Z .free)/\∃c,a.cells.lookup x=Z c/\h.IsCell c (Z u))
structure Cx.Ok(X:Cx):Prop where
 mod:Mod X.K X.mg X.base
 kind:X.env.scope.kind=.function
 glob:X.env.globals=mainGlobals
 blt:X.env.builtins=builtinsNs
 above:X.s₀.heap.objs.size<=X.env.locals
 inj:∀x y c,X.env.cells.lookup x=some c->X.env.cells.lookup y=some c->x=y
 has:∀x,(X.env.kindOf x=some .cell\/X.env.kindOf x=some .free)->∃c,X.env.cells.lookup x=some c
 Rj:∀x c,X.fn x=true->X.env.cells.lookup x=some c->X.s₀.heap.objs.size<=c
 hd:X.calm=true->X.A.handled=none
 frames:X.A.frames=some X.stack
 RC:X.stack=X.outer\/(X.stack=X.env :: X.outer/\X.env.frame=some X.env.locals)
 exf:∀b∈X.ex,b≠X.env.locals/\∀x c,X.env.cells.lookup x=some c->c≠b
 tb:∀b q,Tb X.base b q->X.H₀ b=some (.tbl q)
 bs:∀b o,X.base.get? b=some o->X.s₀.heap.get? b=some o/\X.H₀ b=none
 Nt:X.base.objs.size<=X.s₀.heap.objs.size
 MY:∀b o,X.base.get? b=some o->b∉X.ex
 NQ:∀b∈X.ex,b∉X.fs
 JS:X.s₀.heap.FunFrames X.base X.outer
 Oi:∀b∈X.fs,X.H₀ b=none
structure Inv(X:Cx)(pins:Xi)(O:List (Option V))(H:Hp)(s:IR):Prop where
 ok:X.Ok
 os:s.os=X.s₀.os
 bare:AllBare s.gens
 base:Un X.fs X.ex X.H₀ H X.s₀.heap s.heap
 loc:∃m,s.heap.Ns X.env.locals m/\∀(i:Nat)(x:Str)(v:V),X.N[i]?=some x->O[i]?=some (some v)->KG X.env.scope x->∃u,RelV v u/\Look X.env s.heap m x u
 cell:∀x c,X.env.cells.lookup x=some c->∃v,s.heap.IsCell c v
 free:H X.env.locals=none
 Jt:∀x c,X.env.cells.lookup x=some c->H c=none
 pin:∀p∈X.pn++pins,s.heap.get? p.1=some p.2/\H p.1=none/\p.1≠X.env.locals/\p.1∉X.fs/\∀v,p.2.data ≠ .cell v
 xt:Jm X.prog X.w H s.heap
 len:O.length=X.N.length
section
variable{H:Hp}
def Cx.Ok.SS{X:Cx}(a:X.Ok)(e:X.base.get? b=Z o):b∉X.fs:=λhb=>by
 have:=(a.JS.mem hb).1;rw[e]at this;cases this
theorem Inv.bs(I:Inv X pins O H s):∀b o,X.base.get? b=Z o->s.heap.get? b=Z o/\H b=J:=λb o e =>
 ⟨I.base.keep b o (I.ok.bs b o e).1 (I.ok.bs b o e).2 (I.ok.SS e) (I.ok.MY b o e),I.base.free b o (I.ok.bs b o e).1 (I.ok.bs b o e).2 (I.ok.MY b o e)⟩
theorem Inv.tb(I:Inv X pins O H s):∀b q,Tb X.base b q->H b=Z (.tbl q):=λb q e=>I.base.Ko b q (I.ok.tb b q e)
def Inv.bk(I:Inv X pins O H s):∀b o,X.base.get? b=Z o->s.heap.get? b=Z o:=λb o e=>(I.bs b o e).1
theorem Inv.mod(I:Inv X pins O H s):Mod X.K X.mg X.base:=I.ok.mod
def Inv.JO(I:Inv X pins O H s):X.K.In s.heap:=I.ok.mod.Qy.keeps I.bk
theorem Inv.lt(I:Inv X pins O H s):X.env.locals<s.heap.objs.size:=let ⟨_,a,_⟩:=I.loc;a.lt
def Inv.sz(I:Inv X pins O H s):X.s₀.heap.objs.size<=s.heap.objs.size:=ZU I.ok.above (ZO I.lt)
def Inv.SQ(I:Inv X pins O H s)(h:s.heap.objs.size<=a):a∉X.fs:=λhb=>by
 obtain⟨_,o,b,_⟩:=I.ok.JS.mem hb;exact absurd (Zi (ZI b) (ZU I.sz h)) (YK _)
def Inv.O8(I:Inv X pins O H s):∀x c,X.env.cells.lookup x=Z c->c≠X.env.locals:=λx c e z=>by
 obtain⟨v,o,a,hd⟩:=I.cell x c e;obtain⟨m,⟨f,g,h,d,b,_⟩,_⟩:=I.loc;rw[z,d]at a;cases a;rw[b]at hd;cases hd
theorem Inv.JS(I:Inv X pins O H s):s.heap.FunFrames X.base X.outer:=by
 have all:∀(l:List Env),(∀b∈JJ l,b∈X.fs)->X.s₀.heap.FunFrames X.base l->s.heap.FunFrames X.base l:=by
  intro l
  induction l with
  |nil=>intro _ _;trivial
  |cons env r g =>
   intro f m;obtain⟨n,⟨L,o,a,j,i,hd⟩,h⟩:=m;have d:=f L (by unfold JJ;rw[VT,a];exact Zy);obtain⟨p,e⟩:=I.base.slot L o i (I.ok.Oi L d) d λz=>I.ok.NQ L z d;exact⟨n,⟨L,_,a,j,e,hd⟩,g (λb hb=>f b (by unfold JJ;rw[VT,a];exact Zw _ hb)) h⟩
 exact all X.outer (λ_ hb=>hb) I.ok.JS
theorem Inv.stack(I:Inv X pins O H s):s.heap.FunFrames X.base X.stack:=by
 rcases I.ok.RC with e | ⟨e,b⟩
 ·rw[e];exact I.JS
 ·rw[e];obtain⟨m,a,_⟩:=I.loc;refine .cons (by rw[I.ok.kind];decide) b a ?_ I.JS;exact Heap.get?_none_of_le (ZU I.ok.Nt I.ok.above)
def Inv.J4(I:Inv X pins O H s):∀b∈JJ X.stack,b∈X.env.locals :: X.fs:=λb hb=>by
 rcases I.ok.RC with e | ⟨e,a⟩
 ·rw[e]at hb;exact Zw _ hb
 ·rw[e]at hb;unfold JJ at hb;rw[VT,a]at hb;exact hb
def Inv.LY(I:Inv X pins O H s):∀b∈JJ X.stack,H b=J:=λb hb=>by
 rcases Zh.mp (I.J4 b hb) with e | hb
 ·rw[e];exact I.free
 ·obtain⟨_,o,a,_⟩:=I.ok.JS.mem hb;exact I.base.free b o a (I.ok.Oi b hb) λz=>I.ok.NQ b z hb
def Inv.step{h':UV}{ch:W6}(I:Inv X pins O H s)(E:∀b∈ch,(b∈X.ex\/X.s₀.heap.objs.size<=b)/\b≠X.env.locals/\(∀x c,X.env.cells.lookup x=Z c->c≠b)/\∀p∈X.pn++pins,p.1≠b)(g:∀b o,b≠X.env.locals->b∉X.fs->b∉ch->s.heap.get? b=Z o->H b=J->h'.get? b=Z o)(j:∀b o,b≠X.env.locals->b∈X.fs->b∉ch->s.heap.get? b=Z o->H b=J->∃M,h'.get? b=Z { o with slots:=M })(f:∀b o,b∉ch->s.heap.get? b=some o->H b=none->H' b=none)(t:∀b o,b∉ch->s.heap.get? b=Z o->∃A,h'.get? b=Z A)(KZ:∀b h,H b=Z (.tup h)->H' b=Z (.tup h))(Kv:∀b o u,H b=Z (.frz o u)->H' b=Z (.frz o u))(Ko:∀b q,H b=Z (.tbl q)->H' b=Z (.tbl q))(ns:∀m,s.heap.Ns X.env.locals m->h'.Ns X.env.locals m)(S:Jm X.prog X.w H' h')(hg:AllBare R) :
  Inv X pins O H' { s with heap:=h',gens:=R,drawn:=d',toks:=U }:=by
 have C:∀b o,X.s₀.heap.get? b=Z o->b≠X.env.locals:=λb o e=>ZR (Zi (ZI e) I.ok.above);have F:∀b o,X.s₀.heap.get? b=Z o->b∉X.ex->b∉ch:=λb o e a hb=>by
  rcases (E b hb).1 with z | z
  ·exact a z
  ·exact absurd (Zi (ZI e) z) (YK _)
 have cellK:∀x c,X.env.cells.lookup x=Z c->∀v,s.heap.IsCell c v->h'.IsCell c v:=λx c e v ⟨o,y,hd⟩=>by
  have D:c∉ch:=λz=>(E c z).2.2.1 x c e Y;by_cases Q:c∈X.fs
  ·obtain⟨M,q⟩:=j c o (I.O8 x c e) Q D y (I.Jt x c e);exact⟨_,q,hd⟩
  ·exact⟨o,g c o (I.O8 x c e) Q D y (I.Jt x c e),hd⟩
 refine⟨I.ok,I.os,hg,⟨λb o e n hb a=>?_,λb o e n hb a=>?_,λb o e n a=>?_,λb o e a=>?_,λb h e=>KZ b h (I.base.KZ b h e),λb o h e=>Kv b o h (I.base.Kv b o h e),λb q e=>Ko b q (I.base.Ko b q e)⟩,?_,λx c e=>?_,?_,λx c e=>?_,λp P=>?_,S,I.len⟩
 ·exact g b o (C b o e) hb (F b o e a) (I.base.keep b o e n hb a) (I.base.free b o e n a)
 ·obtain⟨M,e1⟩:=I.base.slot b o e n hb a;obtain⟨G,e2⟩:=j b _ (C b o e) hb (F b o e a) e1 (I.base.free b o e n a);exact⟨G,e2⟩
 ·obtain⟨A,e1⟩:=I.base.there b o e a;exact f b A (F b o e a) e1 (I.base.free b o e n a)
 ·obtain⟨A,e1⟩:=I.base.there b o e a;exact t b A (F b o e a) e1
 ·obtain⟨m,hn,hl⟩:=I.loc;refine⟨m,ns m hn,λi x v e1 e2 e3=>?_⟩;obtain⟨u,r,l⟩:=hl i x v e1 e2 e3;refine⟨u,r,?_⟩;rcases l with l | ⟨k,c,e,z⟩
  ·exact .inl l
  ·exact .inr ⟨k,c,e,cellK x c e _ z⟩
 ·obtain⟨v,z⟩:=I.cell x c e;exact⟨v,cellK x c e v z⟩
 ·obtain⟨m,⟨o,_,_,y,_⟩,_⟩:=I.loc;exact f _ o (λz=>(E _ z).2.1 Y) y I.free
 ·obtain⟨v,o,y,hd⟩:=I.cell x c e;exact f c o (λz=>(E c z).2.2.1 x c e Y) y (I.Jt x c e)
 ·obtain⟨e,n,ne,N,d⟩:=I.pin p P;have D:=λz=>(E p.1 z).2.2.2 p P Y;exact⟨g p.1 p.2 ne N D e n,f p.1 p.2 D e n,ne,N,d⟩
def Inv.un{t':Nat}(I:Inv X pins O H s)(u:Un X.fs [] H H' s.heap h')(f:Jm X.prog X.w H' h'):Inv X pins O H' { s with heap:=h',toks:=t' }:=by
 obtain⟨m,⟨o,v,x,a,r⟩,_⟩:=id I.loc;obtain⟨p,i⟩:=u.any a I.free (by simp);exact I.step (ch:=[]) (λ_ z=>nomatch z) (λb o _ hb _ e n=>u.keep b o e n hb (by simp)) (λb o _ hb _ e n=>u.slot b o e n hb (by simp)) (λb o _ e n=>u.free b o e n (by simp)) (λb o _ e=>u.there b o e (by simp)) u.KZ u.Kv u.Ko (λt h=>by
  obtain⟨q,l,j,d,g⟩:=h;rw[a]at d;cases d;exact⟨_,l,j,i,g⟩) f I.bare
def Inv.call{g':Array GenState}{t':Nat}{d':Drawn}{ch:W6}(I:Inv X pins O H s)(u:Un (JJ X.stack) ch H H' s.heap h')(i:Jm X.prog X.w H' h')(q:AllBare g')(g:∀b∈ch,(b∈X.ex\/X.s₀.heap.objs.size<=b)/\b≠X.env.locals/\(∀x c,X.env.cells.lookup x=Z c->c≠b)/\∀p∈X.pn++pins,p.1≠b) :
  Inv X pins O H' { s with heap:=h',gens:=g',drawn:=d',toks:=t' }:=by
 obtain⟨m,⟨o,D,E,f,r⟩,_⟩:=id I.loc;obtain⟨y,d⟩:=u.any f I.free λz=>(g _ z).2.1 Y;exact I.step (ch:=ch) g (λb o d hb a e n=>u.keep b o e n (λz=>(Zh.mp (I.J4 b z)).elim d hb) a) (λb o _ _ a e n=>u.any e n a) (λb o a e n=>u.free b o e n a) (λb o a e=>u.there b o e a) u.KZ u.Kv u.Ko (λC l=>by
  obtain⟨A,v,t,h,j⟩:=l;rw[f]at h;cases h;exact⟨_,v,t,d,j⟩) i q
def Inv.turned{h':UV}{t':Nat}(I:Inv X pins O H s)(k:∀b o,b≠a->s.heap.get? b=Z o->h'.get? b=Z o)(i:H a=J)(g:a≠X.env.locals)(w:a∈X.ex\/X.s₀.heap.objs.size<=a)(t:∀x c,X.env.cells.lookup x=Z c->c≠a)(l:∀p∈X.pn++pins,p.1≠a):Inv X pins O H { s with heap:=h',toks:=t' }:=by
 have f:∀b u,H b=Z u->b≠a:=λb u e z=>by rw[z,i]at e;cases e
 refine I.step (ch:=[a]) (λb hb=>?_) (λb o _ _ d e _=>k b o (λz=>d (by simp[z])) e) (λb o _ _ d e _=>⟨o.slots,k b o (λz=>d (by simp[z])) e⟩) (λ_ _ _ _ n=>n)
  (λb o d e=>⟨o,k b o (λz=>d (by simp[z])) e⟩) (λ_ _ e=>e) (λ_ _ _ e=>e) (λ_ _ e=>e) (λm j=>?_) (λb u e=>?_) I.bare
 ·have e:b=a:=by simpa using hb
  subst e;exact⟨w,g,t,l⟩
 ·obtain⟨o,y,A,h,r⟩:=j;exact⟨o,y,A,k _ o (YN g) h,r⟩
 ·refine(I.xt b u e).Lu (λc v d q=>k c v ?_ q) (λ_ q=>q) (λ_ _ q=>q) λ_ _ _ q=>q;rcases d with z | z
  ·rw[z];exact f b u e
  ·exact f c _ z
def Inv.tok(I:Inv X pins O H s)(t:Nat):Inv X pins O H { s with toks:=t }:=I.un (t':=t) Un.refl I.xt
theorem Inv.kept{h':UV}{t':Nat}(I:Inv X pins O H s)(k:∀b u,s.heap.get? b=Z u->h'.get? b=Z u):Inv X pins O H { s with heap:=h',toks:=t' }:=I.un (Un.kept k) (I.xt.kept k)
theorem Inv.laid{h':UV}{o:HO}{t':Nat}(I:Inv X pins O H s)(k:∀b u,s.heap.get? b=Z u->h'.get? b=Z u)(e:s.heap.objs.size<=a)(d:cU X.prog X.w (upd H a o) h' a o) :
  Inv X pins O (upd H a o) { s with heap:=h',toks:=t' }:=I.un (Un.laid k e (I.xt.fresh e)) (I.xt.laid k e d)
theorem Inv.write{h':UV}{x e:KM}(I:Inv X pins O H s)(d:Il (H x))(he:e=x\/H e=Z (.own x))(k:∀b u,b≠e->s.heap.get? b=Z u->h'.get? b=Z u)(f:∃u,h'.get? e=Z u)(a:cU X.prog X.w (upd H x o) h' x o):Inv X pins O (upd H x o) { s with heap:=h',toks:=g }:=I.un (Un.write d he k f) (I.xt.write d he k f a)
def Inv.L4(I:Inv X pins O H s)(h:∀p∈a,s.heap.get? p.1=Z p.2/\H p.1=J/\p.1≠X.env.locals/\p.1∉X.fs/\∀v,p.2.data ≠ .cell v):Inv X a O H s :=
 ⟨I.ok,I.os,I.bare,I.base,I.loc,I.cell,I.free,I.Jt,λp b=>(Zj.mp b).elim (λz=>I.pin p (Z8 _ z)) (h p),I.xt,I.len⟩
def rW{N:List Str}(d:N.Nodup){i j:Nat}{x:Str}(a:N[i]?=Z x)(b:N[j]?=Z x):i=j:=by
 obtain⟨f,e1⟩:=ZZ.mp a;obtain⟨e,e2⟩:=ZZ.mp b;exact(List.getElem_inj d).mp (e1.trans e2.symm)
def pG{v:V}(I:Inv X pins O H s)(hN:X.N.Nodup)(G:X.N[i]?=Z x)(l:Loc X.env.scope x)(r:RelV v u)(h:∀s',Inv X pins (O.set i (Z v)) H s'->(∃a,Heap.SameBut a s.heap s'.heap/\(a=X.env.locals\/X.env.cells.lookup x=Z a))->Q () s')(hf:{`q0,X.fn x=B\/X.env.scope.names.lookup x=Z .local}):PP M A (storeName X.env x u) Q E s:=by
 obtain⟨m,hn,hl⟩:=id I.loc;have F:i<O.length:=by rw[I.len];exact(ZZ.mp G).1
 have O8:=I.O8;have tracked:∀{a:KM}{h':UV},(∃o,s.heap.get? a=Z o/\H a=J)->Heap.SameBut a s.heap h'->Jm X.prog X.w H h':=λ{a h'} ha f b ob e=>by
  obtain⟨_,_,Oh⟩:=ha;refine(I.xt b ob e).Lu (λc P g q=>(f.2 c ?_).trans q) (λ_ q=>q) (λ_ _ q=>q) λ_ _ _ q=>q;rintro rfl;rcases g with rfl | g
  ·rw[Oh]at e;cases e
  ·rw[Oh]at g;cases g
 rcases l with t | t
 ·refine wpAny_storeName_local t hn (λh' hn' f=>?_) (by rw[I.ok.kind];rfl);obtain⟨oL,_,_,M5,_⟩:=id hn;refine h _ ⟨I.ok,I.os,I.bare,⟨λb o e n hb l=>?_,λb o e n hb l=>?_,I.base.free,λb o e l=>?_,I.base.KZ,I.base.Kv,I.base.Ko⟩,⟨_,hn',λj y S e1 e2 e3=>?_⟩,λy c e=>?_,I.free,I.Jt,λp hp=>?_,tracked ⟨oL,M5,I.free⟩ f,by simpa using I.len⟩ ⟨_,f,.inl Y⟩
  ·exact(f.2 b (ZR (Zi (ZI e) I.ok.above))).trans (I.base.keep b o e n hb l)
  ·obtain⟨sl,e1⟩:=I.base.slot b o e n hb l;exact⟨sl,(f.2 b (ZR (Zi (ZI e) I.ok.above))).trans e1⟩
  ·obtain⟨o',e1⟩:=I.base.there b o e l;exact⟨o',(f.2 b (ZR (Zi (ZI e) I.ok.above))).trans e1⟩
  ·by_cases C:j=i
   ·subst C;rw[G]at e1;cases e1;rw[XF F]at e2;cases e2;exact⟨u,r,.inl ⟨t,by simp⟩⟩
   ·rw[XX (YN C)]at e2;obtain⟨U,r',q⟩:=hl j y S e1 e2 e3;refine⟨U,r',?_⟩;rcases q with⟨k,e⟩ | ⟨k,c,e,z⟩
    ·refine .inl ⟨k,?_⟩;have:y≠x:=λe=>C (rW hN e1 (e ▸ G));simp[this,e]
    ·exact .inr ⟨k,c,e,z.sameBut f (O8 y c e)⟩
  ·obtain⟨P,z⟩:=I.cell y c e;exact⟨P,z.sameBut f (O8 y c e)⟩
  ·obtain⟨e,n,ne,nf,d⟩:=I.pin p hp;exact⟨(f.2 p.1 ne).trans e,n,ne,nf,d⟩
 ·have TB:X.fn x=B:=by
   rcases hf with z | z
   ·exact z
   ·rw[z]at t;cases t
  obtain⟨c,g⟩:=I.ok.has x (.inl t);obtain⟨P,z⟩:=I.cell x c g;refine wpAny_storeName_cell I.ok.kind t g z (λh' JR f=>?_);obtain⟨oc,D,Ti⟩:=id z;refine h { s with heap:=h' } ⟨I.ok,I.os,I.bare,⟨λb o e n hb l=>?_,λb o e n hb l=>?_,I.base.free,λb o e l=>?_,I.base.KZ,I.base.Kv,I.base.Ko⟩,⟨m,hn.sameBut f (YN (O8 x c g)),λj y S e1 e2 e3=>?_⟩,λy R e=>?_,I.free,I.Jt,λp hp=>?_,tracked ⟨oc,D,I.Jt x c g⟩ f,by simpa using I.len⟩ ⟨c,f,.inr g⟩
  ·exact(f.2 b (ZR (Zi (ZI e) (I.ok.Rj x c TB g)))).trans (I.base.keep b o e n hb l)
  ·obtain⟨sl,e1⟩:=I.base.slot b o e n hb l;exact⟨sl,(f.2 b (ZR (Zi (ZI e) (I.ok.Rj x c TB g)))).trans e1⟩
  ·obtain⟨o',e1⟩:=I.base.there b o e l;exact⟨o',(f.2 b (ZR (Zi (ZI e) (I.ok.Rj x c TB g)))).trans e1⟩
  ·by_cases C:j=i
   ·subst C;rw[G]at e1;cases e1;rw[XF F]at e2;cases e2;exact⟨u,r,.inr ⟨.inl t,c,g,JR⟩⟩
   ·rw[XX (YN C)]at e2;obtain⟨U,r',q⟩:=hl j y S e1 e2 e3;refine⟨U,r',?_⟩;rcases q with q | ⟨k,R,e,z'⟩
    ·exact .inl q
    ·refine .inr ⟨k,R,e,z'.sameBut f ?_⟩;rintro rfl;exact C (rW hN e1 (I.ok.inj _ _ _ e g ▸ G))
  ·by_cases R5:R=c
   ·subst R5;exact⟨_,JR⟩
   ·obtain⟨w2,z2⟩:=I.cell y R e;exact⟨w2,z2.sameBut f R5⟩
  ·obtain⟨e,n,ne,nf,d⟩:=I.pin p hp;refine⟨(f.2 p.1 ?_).trans e,n,ne,nf,d⟩;intro q;rw[q,D]at e;exact d P (by rw[← (Zg e)];exact Ti)
def tm(I:Inv X pins O H s)(f:X.N.Nodup)(d:X.N[i]?=Z x)(b:Loc X.env.scope x)(r:RelV v u)(h:∀a,Inv X pins (O.set i (Z v)) H a->Q () a)(e:{`q0,X.fn x=B\/X.env.scope.names.lookup x=Z .local}):PP M A (storeName X.env x u) Q E s :=
 pG I f d b r (λa g _=>h a g) e
def Inv.Ri{a:IR}{ch:W6}(I:Inv X pins O H s)(e:a.os=s.os)(u:Un (JJ X.stack) ch H H' s.heap a.heap)(d:Jm X.prog X.w H' a.heap)(f:AllBare a.gens)(g:∀b∈ch,(b∈X.ex\/X.s₀.heap.objs.size<=b)/\b≠X.env.locals/\(∀x c,X.env.cells.lookup x=Z c->c≠b)/\∀p∈X.pn++pins,p.1≠b):Inv X pins O H' a:=by
 obtain⟨h',g',d',t',h⟩:=a;subst e;exact I.call (g':=g') (t':=t') (d':=d') u d f g
end
abbrev XK:=On->Option KM->Hp->Prop
noncomputable abbrev St:=List (Option V)
abbrev VK:=V->Hp->Prop
abbrev TE:=St->Hp->VK->Prop
abbrev TT:=St->Hp->(Bool->Hp->Prop)->Prop
abbrev TA:=St->Hp->(List V->Hp->Prop)->Prop
structure Ends where
 nx:St->Hp->Prop
 rt:VK
 bk:St->Hp->Prop:=λ_ _=>False
 ct:St->Hp->Prop:=λ_ _=>False
abbrev TS:=Ends->St->Hp->Prop
def EP(X:Cx)(a:Xi)(O:St)(Q:VK)(u:On)(d:IR):Prop:=∃v b,Inv X a O b d/\RelV v u/\Q v b
noncomputable def TP(X:Cx)(a:Xi)(O:St)(Q:Bool->Hp->Prop)(b:Bool)(e:IR):Prop:=∃d,Inv X a O d e/\Q b d
def AP(X:Cx)(a:Xi)(O:St)(Q:List V->Hp->Prop)(e:W7)(f:IR):Prop:=∃b d,Inv X a O d f/\aM b e/\Q b d
def SP(X:Cx)(a:Xi)(D:Ends)(f:Flow)(e:IR):Prop :=
 match f with
 |.next=>∃d b,Inv X a d b e/\D.nx d b
 |.brk=>∃d b,Inv X a d b e/\D.bk d b
 |.cont=>∃d b,Inv X a d b e/\D.ct d b
 |.ret u=>∃v d b,Inv X a d b e/\RelV v u/\D.rt v b
def PE(X:Cx)(e:Expr)(t:TE):Prop :=
 ∀(a:Xi)(s:IR)(O:St)(H:Hp)(Q:VK),Inv X a O H s->t O H Q->PP (KB X.prog X.w) X.A (eval e X.env) (EP X a O Q) X.xe s
def PT(X:Cx)(e:Expr)(t:TT):Prop :=
 ∀(a:Xi)(s:IR)(O:St)(H:Hp)(Q:Bool->Hp->Prop),Inv X a O H s->t O H Q->PP (KB X.prog X.w) X.A (isTrue e X.env (eval e X.env)) (TP X a O Q) X.xe s
def PW(X:Cx)(e:Expr)(t:TT):Prop :=
 ∀(whole:Sem On)(a:Xi)(s:IR)(O:St)(H:Hp)(Q:Bool->Hp->Prop),Inv X a O H s->t O H Q->PP (KB X.prog X.w) X.A (isTrue e X.env whole) (TP X a O Q) X.xe s
def PW.pt(h:PW X e t):PT X e t:=h _
def PA(X:Cx)(b:List Expr)(t:TA):Prop :=
 ∀(pos:Pos)(a:Xi)(s:IR)(O:St)(H:Hp)(Q:List V->Hp->Prop),Inv X a O H s->t O H Q->PP (KB X.prog X.w) X.A (spliced (backTo pos (Pv b X.env))) (AP X a O Q) X.xe s
def PS(X:Cx)(b:Stmt)(t:TS):Prop :=
 ∀(a:Xi)(s:IR)(O:St)(H:Hp)(D:Ends),Inv X a O H s->t D O H->PP (KB X.prog X.w) X.A (exec b X.env) (SP X a D) X.xe s
def Kc(X:Cx)(b:List Stmt)(t:TS):Prop :=
 ∀(a:Xi)(s:IR)(O:St)(H:Hp)(D:Ends),Inv X a O H s->t D O H->PP (KB X.prog X.w) X.A (execs b X.env) (SP X a D) X.xe s
def thn{α:Type}{t:Sem α}{Q b:α->IR->Prop}(h:PP M A t Q E s)(d:∀a s,Q a s->b a s):PP M A t b E s:=YD h d λ_ _ x=>x
section
noncomputable def CC(i:Nat):TE:=λO H Q=>∃v,O[i]?=Z (Z v)/\Q v H
noncomputable def tC(v:V):TE:=λ_ H Q=>Q v H
def dk{X:Cx}(w:X.N[i]?=Z x)(o:KG X.env.scope x)(f:{`q1,K3 x})(g:{`q1,K4 x}):PE X (.Name x d) (CC i):=by
 intro b s O H Q I h;obtain⟨v,e,h⟩:=h;obtain⟨m,p,t⟩:=I.loc;obtain⟨u,r,l⟩:=t i x v w e o;have fin:EP X b O Q u s:=⟨v,H,I,r,h⟩
 rcases l with⟨a,q⟩ | ⟨a,c,j,n⟩
 ·exact wpAny_Name (wpAny_loadName_local I.ok.kind a p q fin) f
 ·rcases a with a | a
  ·exact wpAny_Name (wpAny_loadName_cell I.ok.kind a j n fin) f
  ·exact wpAny_Name (wpAny_loadName_free I.ok.kind a j n fin g) f
def qO{i j pos}:PE X (.Constant (.int i) j pos) (tC (.int i)):=λ_ _ _ H _ I h=>wpAny_Constant_int ⟨.int i,H,I.tok _,⟨_,rfl⟩,h⟩
def GL{b j pos}:PE X (.Constant (.bool b) j pos) (tC (.bl b)):=λ_ _ _ H _ I h=>Constant_bool ⟨.bl b,H,I,rfl,h⟩
def ES{j pos}:PE X (.Constant .none j pos) (tC .non):=λ_ _ _ H _ I h=>Constant_none ⟨.non,H,I,rfl,h⟩
def yJ{x j pos}:PE X (.Constant (.str x) j pos) (tC (.str x)):=λ_ _ _ H _ I h=>Calls.Constant_str ⟨.str x,H,I.tok _,⟨_,rfl⟩,h⟩
noncomputable def Gl(X:Cx)(x:Str):Prop:=X.env.kindOf x=Z .globalImplicit
def mE(I:Inv X a O H s)(e:Gl X x)(d:X.mg x=Z u)(h:Q u s)(f:{`q1,K3 x}):PP (KB X.prog X.w) X.A (eval (.Name x b) X.env) Q E s :=
 Calls.Name_function_global I.ok.kind e (Calls.loadGlobal_global (by rw[I.ok.glob];exact I.mod.glob.keeps I.bk) d h) f
def lr(I:Inv X a O H s)(g:Gl X x)(f:X.mg x=J)(d:bootBuiltins x=Z u)(h:Q u s)(e:{`q1,x ≠ "__name__"})(i:{`q1,K3 x}):PP (KB X.prog X.w) X.A (eval (.Name x b) X.env) Q E s:=by
 obtain⟨m,l,j⟩:=I.mod.blt;exact Calls.Name_function_global I.ok.kind g (Calls.loadGlobal_builtin (by rw[I.ok.glob];exact I.mod.glob.keeps I.bk) f (by rw[I.ok.blt];exact l.keeps I.bk) ((j x e).trans d) h) i
def uT{v:V}(d:Gl X x)(b:X.mg x=Z u)(r:RelV v u)(e:{`q1,K3 x}):PE X (.Name x a) (tC v) :=
 λ_ _ _ H _ I h=>mE I d b ⟨v,H,I,r,h⟩ e
def BB{v:V}(f:Gl X x)(e:X.mg x=J)(b:bootBuiltins x=Z u)(r:RelV v u)(d:{`q1,x ≠ "__name__"})(g:{`q1,K3 x}):PE X (.Name x a) (tC v) :=
 λ_ _ _ H _ I h=>lr I f e b ⟨v,H,I,r,h⟩ d g
def PC(X:Cx)(g:CmpOp)(a b:Expr)(t:TE):Prop :=
 ∀(d:Xi)(s:IR)(O:St)(H:Hp)(Q:VK),Inv X d O H s->t O H Q →
  PP (KB X.prog X.w) X.A (eval a X.env) (λv f=>PP (KB X.prog X.w) X.A (eval b X.env) (λu e=>PP (KB X.prog X.w) X.A (UF g v u) (EP X d O Q) X.xe e) X.xe f) X.xe s
def xV(b:Expr)(h:d ≠ .In)(e:d ≠ .NotIn):behindInMarks d b=L:=by
 have e1:(d==CmpOp.In)=L:=by cases d<;>first | rfl | exact absurd Y h
 have e2:(d==CmpOp.NotIn)=L:=by cases d<;>first | rfl | exact absurd Y e
 cases b<;>simp[behindInMarks,e1,e2]
noncomputable def HA(ta:TE):TE:=λO H Q=>ta O H λx d=>Q (.bl (decide (x=.non))) d
noncomputable def Hh(ta:TE):TE:=λO H Q=>ta O H λx d=>Q (.bl (!decide (x=.non))) d
def RelV.La(r:RelV x v):(v==Value.none)=decide (x=.non):=by
 cases x with
 |non=>cases r;rfl
 |bl _=>cases r;rfl
 |int _=>obtain⟨t,rfl⟩:=r;rfl
 |str _=>obtain⟨t,rfl⟩:=r;rfl
 |byt _=>obtain⟨t,rfl⟩:=r;rfl
 |flt _=>obtain⟨t,rfl⟩:=r;rfl
 |ref _=>cases r;rfl
 |ty _=>cases r;rfl
def D3{j pos'}(f:PE X a ta):PC X .Is a (.Constant .none j pos') (HA ta):=by
 intro d s O H Q I h;refine thn (f d s O H _ I h) λv m g=>?_;obtain⟨x,l,i,r1,e⟩:=g;exact Constant_none (is_none_gen ⟨.bl _,l,i,by rw[r1.La];rfl,e⟩)
def Cb{j pos'}(f:PE X a ta):PC X .IsNot a (.Constant .none j pos') (Hh ta):=by
 intro d s O H Q I h;refine thn (f d s O H _ I h) λv m g=>?_;obtain⟨x,l,i,r1,e⟩:=g;exact Constant_none (isnot_none_gen ⟨.bl _,l,i,by rw[r1.La];rfl,e⟩)
noncomputable def tB(t:TE):TT:=λO H Q=>t O H λx d=>∃c,x=.bl c/\Q c d
def Ah(h:PC X f a b t)(g:behindInMarks f b=L:=by first | exact xV _ (by decide) (by decide) | rfl):PT X (.Compare a [f] [b] pos) (tB t):=by
 intro e s O H Q I hw;refine wpAny_isTrue_Compare1 (thn (h e s O H _ I hw) λv r g=>thn g λu p l=>thn l λc o j=>?_) g;obtain⟨x,n,m,r1,i⟩:=j;obtain⟨d,rfl,q⟩:=i;cases r1;exact YM ⟨n,m,q⟩
noncomputable def HG(t u:TT):TT:=λO H Q=>t O H λc d=>if c=B then u O d Q else Q L d
noncomputable def tOr(t u:TT):TT:=λO H Q=>t O H λc d=>if c=B then Q B d else u O d Q
noncomputable def Hv(t:TT):TT:=λO H Q=>t O H λc d=>Q (!c) d
def mM(f:PT X a tA):PW X (.BoolOp .And [a] pos) tA:=by
 intro g d s O H Q I h;refine isTrue_and (thn (f d s O H Q I h) λc i e=>?_);cases c with
 |true=>exact isTrue_and_nil e
 |false=>exact e
def lH(f:PT X a tA):PW X (.BoolOp .Or [a] pos) tA:=by
 intro g d s O H Q I h;refine isTrue_or (thn (f d s O H Q I h) λc i e=>?_);cases c with
 |false=>exact isTrue_or_nil e
 |true=>exact e
def Dr{X:Cx}{a:Expr}{pos:Pos}{tA RB:TT}{rest:List Expr}(m:PT X a tA)(l:PW X (.BoolOp .And (b :: rest) pos) RB):PW X (.BoolOp .And (a :: b :: rest) pos) (HG tA RB):=by
 intro i d s O H Q I h;refine isTrue_and (thn (m d s O H _ I h) λc j n=>?_);obtain⟨g,f,e⟩:=n;cases c with
 |true=>exact l i d j O g Q f e
 |false=>exact⟨g,f,e⟩
def Gn{X:Cx}{a:Expr}{pos:Pos}{tA RB:TT}{rest:List Expr}(m:PT X a tA)(l:PW X (.BoolOp .Or (b :: rest) pos) RB):PW X (.BoolOp .Or (a :: b :: rest) pos) (tOr tA RB):=by
 intro i d s O H Q I h;refine isTrue_or (thn (m d s O H _ I h) λc j n=>?_);obtain⟨g,f,e⟩:=n;cases c with
 |true=>exact⟨g,f,e⟩
 |false=>exact l i d j O g Q f e
def De(e:PT X a tA):PT X (.UnaryOp .Not a pos) (Hv tA):=by
 intro d s O H Q I h;exact isTrue_not (e d s O H (λc f=>Q (!c) f) I h)
noncomputable def GG(ta e:TE):TE:=λO H Q=>ta O H λx d=>∃c,x=.bl c/\if c=B then e O d Q else Q (.bl L) d
noncomputable def GP(ta:TE):TE:=λO H Q=>ta O H λx d=>∃c,x=.bl c/\Q (.bl (!c)) d
def D0{op}(h:PE X a t):PE X (.BoolOp op [a] pos) t:=λd s O H Q I hw=>BoolOp_one (h d s O H Q I hw)
def DV{X:Cx}{a:Expr}{ta tb:TE}{pos:Pos}{rest:List Expr}(l:PE X a ta)(j:PE X (.BoolOp .And (b :: rest) pos) tb):PE X (.BoolOp .And (a :: b :: rest) pos) (GG ta tb):=by
 intro d s O H Q I h;refine BoolOp_and (thn (l d s O H _ I h) λv i m=>?_);obtain⟨x,g,f,r1,e⟩:=m;obtain⟨c,rfl,e⟩:=e;cases r1;refine YM ?_;cases c with
 |true=>exact j d i O g Q f e
 |false=>exact⟨.bl L,g,f,rfl,e⟩
def Ew(f:PE X a ta):PE X (.UnaryOp .Not a pos) (GP ta):=by
 intro d s O H Q I h;refine UnaryOp_ (thn (f d s O H _ I h) λv l g=>?_);obtain⟨x,j,i,r1,e⟩:=g;obtain⟨c,rfl,e⟩:=e;cases r1;exact not_of (YM ⟨.bl (!c),j,i,rfl,e⟩)
end
def Iv(K:Ww)(H:Hp)(a:KM)(d:List V):Prop :=
 Rd H a (.lst d) ∨
  ∃(o:Obj)(b:Array On)(n:Nat),K.lookup a=Z o/\o.cls=.type "list" ∧ o.dict=J/\o.data=.seq b n/\b.size<=KF/\aM d b.toList
def Jy(K:Ww)(H:Hp)(a:KM)(d:List V):Prop :=
 Rd H a (.tup d) ∨
  ∃(o:Obj)(b:Array On)(n:Nat),K.lookup a=Z o/\o.cls=.type "tuple" ∧ o.data=.seq b n/\b.size<=KF/\aM d b.toList
noncomputable def Ie:On->Option V
 |.none=>Z .non
 |.bool b=>Z (.bl b)
 |.int i _=>Z (.int i)
 |.str x _=>Z (.str x)
 |.bytes b _=>Z (.byt b)
 |.float b _=>Z (.flt b)
 |.ref a=>Z (.ref a)
 |.type n=>Z (.ty n)
 |_=>J
def RelV.abs(r:RelV x u):Ie u=Z x:=by
 cases x with
 |non=>cases r;rfl
 |bl _=>cases r;rfl
 |int _=>obtain⟨t,rfl⟩:=r;rfl
 |str _=>obtain⟨t,rfl⟩:=r;rfl
 |byt _=>obtain⟨t,rfl⟩:=r;rfl
 |flt _=>obtain⟨t,rfl⟩:=r;rfl
 |ref _=>cases r;rfl
 |ty _=>cases r;rfl
def RelV.inj(r:RelV x u)(q:RelV y u):x=y:=Zg (r.abs.symm.trans q.abs)
theorem aM.inj:∀{b a:List V}{d:W7},aM b d->aM a d->b=a
 |_,_,_,.nil,.nil=>rfl
 |_,_,_,.cons r t,.cons f e=>by rw[r.inj f,aM.inj t e]
section
variable{H:Hp}
def Iv.of{K:Ww}(h:H a=Z (.lst xs)):Iv K H a xs:=.inl (.inl h)
def Jy.of{K:Ww}(h:H a=Z (.tup xs)):Jy K H a xs:=.inl (.inl h)
def Inv.list(I:Inv X pins O H s)(h:Iv X.K H a xs):∃b:W7,aM xs b/\PlainL s.heap a b.toArray/\xs.length<=sizeLine:=by
 rcases h with h | ⟨o,b,n,f,g,hd,d,i,r⟩
 ·obtain⟨z,b,n,r,e⟩:=h.ok I.xt;exact⟨b,r,⟨_,n,e,rfl,rfl,rfl⟩,z⟩
 ·refine⟨b.toList,r,⟨o,n,I.JO a o f,g,hd,by simpa using d⟩,?_⟩;have e:=r.length;simp only[YS]at e;lia
def Inv.tuple(I:Inv X pins O H s)(h:Jy X.K H a xs):∃b:W7,aM xs b/\IsTup s.heap a b.toArray/\xs.length<=sizeLine:=by
 rcases h with h | ⟨o,b,n,f,g,d,i,r⟩
 ·obtain⟨z,b,r,_,p⟩:=h.ok I.xt;exact⟨b,r,p,z⟩
 ·refine⟨b.toList,r,⟨o,I.JO a o f,g,n,by simpa using d⟩,?_⟩;have e:=r.length;simp only[YS]at e;lia
def Inv.Lb(I:Inv X pins O H s)(h:Iv X.K H a xs)(j:Iv X.K H a ys):xs=ys:=by
 obtain⟨g,r,⟨o,n,e,_,_,d⟩,_⟩:=I.list h;obtain⟨l,i,⟨m,p,b,_,_,f⟩,_⟩:=I.list j;rw[e]at b;cases b;rw[d]at f;injection f with d1 _
 have:g=l:=by simpa using Z5 Array.toList d1
 subst this;exact r.inj i
def Inv.Ml(I:Inv X pins O H s)(h:Jy X.K H a xs)(j:Jy X.K H a ys):xs=ys:=by
 obtain⟨g,r,⟨o,e,_,n,d⟩,_⟩:=I.tuple h;obtain⟨l,i,⟨m,b,_,p,f⟩,_⟩:=I.tuple j;rw[e]at b;cases b;rw[d]at f;injection f with d1 _
 have:g=l:=by simpa using Z5 Array.toList d1
 subst this;exact r.inj i
end
noncomputable abbrev Cx.Kd(X:Cx)(E:Z9):Cx:={ X with xe:=E }
abbrev Cx.Lz(X:Cx):Cx:=X.Kd λ_ _=>False
theorem Cx.Ok.Kd{X:Cx}(a:X.Ok)(E:Z9):(X.Kd E).Ok :=
 ⟨a.mod,a.kind,a.glob,a.blt,a.above,a.inj,a.has,a.Rj,a.hd,a.frames,a.RC,a.exf,a.tb,a.bs,a.Nt,a.MY,a.NQ,a.JS,a.Oi⟩
def Cx.Ok.Jf{X:Cx}(a:(X.Kd E).Ok):X.Ok :=
 ⟨a.mod,a.kind,a.glob,a.blt,a.above,a.inj,a.has,a.Rj,a.hd,a.frames,a.RC,a.exf,a.tb,a.bs,a.Nt,a.MY,a.NQ,a.JS,a.Oi⟩
section
variable{H:Hp}
theorem Inv.Kd(I:Inv X pins O H s)(E:Z9):Inv (X.Kd E) pins O H s:=⟨I.ok.Kd E,I.os,I.bare,I.base,I.loc,I.cell,I.free,I.Jt,I.pin,I.xt,I.len⟩
theorem Inv.Jf{X:Cx}(I:Inv (X.Kd E) pins O H s):Inv X pins O H s:=⟨I.ok.Jf,I.os,I.bare,I.base,I.loc,I.cell,I.free,I.Jt,I.pin,I.xt,I.len⟩
theorem SP.Jf{X:Cx}(h:SP (X.Kd E) pins D f d):SP X pins D f d:=by
 cases f with
 |next=>obtain⟨a,b,I,q⟩:=h;exact⟨a,b,I.Jf,q⟩
 |brk=>obtain⟨a,b,I,q⟩:=h;exact⟨a,b,I.Jf,q⟩
 |cont=>obtain⟨a,b,I,q⟩:=h;exact⟨a,b,I.Jf,q⟩
 |ret u=>obtain⟨v,a,b,I,r,q⟩:=h;exact⟨v,a,b,I.Jf,r,q⟩
theorem Kc.Lz{X:Cx}(h:Kc X.Lz a t):Kc X a t:=λpins s O H D I hw =>
 YD (h pins s O H D (I.Kd _) hw) (λ_ _ q=>q.Jf) λ_ _ z=>False.elim z
end
section
variable{st:Stmt}
noncomputable def FH:TS:=λD O H=>D.nx O H
noncomputable def HY(t u:TS):TS:=λD O H=>t { D with nx:=u D } O H
def Cr:Kc X [] FH:=λ_ _ O H _ I h=>VQ ⟨O,H,I,h⟩
def yd{X:Cx}{rest:List Stmt}{t u:TS}(g:PS X st t)(d:Kc X rest u):Kc X (st :: rest) (HY t u):=by
 intro a s O H D I h;refine wpAny_execs_cons (thn (g a s O H { D with nx:=u D } I h) λf b q=>?_);cases f with
 |next =>
  obtain⟨i,l,j,q⟩:=q;exact d a b i l D j q
 |ret v=>exact q
 |brk=>exact q
 |cont=>exact q
def av(b:PS X st t):Kc X [st] t:=by
 intro a s O H D I h;refine wpAny_execs_cons (thn (b a s O H D I h) λf d q=>?_);cases f with
 |next=>exact VQ q
 |ret v=>exact q
 |brk=>exact q
 |cont=>exact q
def Inv.quiet(I:Inv X a O H s):interactive X.env=L:=by simp[interactive,I.ok.kind]
noncomputable def FR(a:TE):TS:=λD O H=>a O H λ_ b=>D.nx O b
def fY{pos:Pos}(he:PE X e te)(d:{`q2,swapsWith e J pos.line X.env=pure L}):PS X (.Expr e pos) (FR te):=by
 intro a s O H D I h;exact wpAny_Expr_any (thn (he a s O H _ I h) λv i ⟨x,g,f,r1,b⟩=>⟨O,g,f,b⟩) I.quiet d
noncomputable def HC(a:TE):TS:=λD O H=>a O H D.rt
def p5(he:PE X e te):PS X (.Return (Z e) pos) (HC te):=by
 intro a s O H D I h;refine wpAny_Return_some (thn (he a s O H _ I h) λv i d=>?_);obtain⟨x,g,f,r1,b⟩:=d;exact⟨x,O,g,f,r1,b⟩
noncomputable def Hx(c:TT)(t u:TS):TS:=λD O H=>c O H λb a=>if b=B then t D O a else u D O a
def Gj(n:PT X c g)(p:Kc X a t)(o:Kc X b u):PS X (.If c a b pos) (Hx g t u):=by
 intro f s O H D I h;refine wpAny_If (thn (n f s O H _ I h) λd i q=>?_);obtain⟨m,l,j⟩:=q;cases d with
 |true=>exact p f i O m D l j
 |false=>exact o f i O m D l j
end
abbrev TG:=V->St->Hp->(St->Hp->Prop)->Prop
abbrev NS:=List V->St->Hp->(St->Hp->Prop)->Prop
def PG(X:Cx)(a:Expr)(t:TG):Prop :=
 ∀(b:Xi)(s:IR)(O:St)(H:Hp)(v:V)(u:On)(Q:St->Hp->Prop),Inv X b O H s->RelV v u->t v O H Q →
  PP (KB X.prog X.w) X.A (assign a X.env u) (λ_ f=>∃d e,Inv X b d e f/\Q d e) X.xe s
def Nu(X:Cx)(g:List Expr)(t:NS):Prop :=
 ∀(a:Xi)(s:IR)(O:St)(H:Hp)(b:List V)(d:W7)(Q:St->Hp->Prop),Inv X a O H s->aM b d->t b O H Q →
  PP (KB X.prog X.w) X.A (assignInOrder ((assignEach g X.env).map (·.2)) d) (λ_ h=>∃e f,Inv X a e f h/\Q e f) X.xe s
abbrev AR:=V->V->V->Hp->(Hp->Prop)->Prop
def FA(X:Cx)(t:AR):Prop :=
 ∀(a:Xi)(s:IR)(O:St)(H:Hp)(o i v:V)(b iv u:On)(Q:Hp->Prop),Inv X a O H s->RelV o b->RelV i iv->RelV v u->t o i v H Q →
  PP (KB X.prog X.w) X.A (setItem b iv u) (λ_ e=>∃d,Inv X a O d e/\Q d) X.xe s
section
noncomputable def zB(i:Nat):TG:=λv O H Q=>Q (O.set i (Z v)) H
def uY{X:Cx}(f:X.N.Nodup)(d:X.N[i]?=Z x)(b:Loc X.env.scope x)(e:{`q0,X.fn x=B\/X.env.scope.names.lookup x=Z .local}):PG X (.Name x pos) (zB i):=by
 intro a s O H v u Q I r h;exact wpAny_assign_Name (tm I f d b r (λj g=>⟨_,H,g,h⟩) e)
noncomputable def HL:NS:=λa O H Q=>a=[]/\Q O H
noncomputable def Hl(t:TG)(u:NS):NS:=λa O H Q=>∃v r,a=v :: r/\t v O H λb d=>u r b d Q
def AJ:Nu X [] HL:=by
 intro a s O H b d Q I r h;obtain⟨e,h⟩:=h;subst e;cases r;exact assignInOrder_nil ⟨O,H,I,h⟩
def Ag(m:PG X e t)(l:Nu X b u)(i:{`q2,(assignEach (e :: b) X.env).map (·.2)=assign e X.env :: (assignEach b X.env).map (·.2)}):Nu X (e :: b) (Hl t u):=by
 intro a s O H q x Q I r h;obtain⟨v,w,e1,h⟩:=h;subst e1;cases r with
 |cons r f =>
  rw[i];refine assignInOrder_cons (thn (m a s O H _ _ _ I r h) λ_ d j=>?_);obtain⟨n,p,o,g⟩:=j;exact l a d n p _ _ Q o f g
def sM(K:Ww)(n:Nat)(t:NS):TG:=λv O H Q=>∃a b,v=.ref a/\Jy K H a b/\b.length=n/\t b O H Q
def D5{X:Cx}(w:X.calm=B)(h:Nu X f t)(p:{`q2,(assignEach f X.env).length=n})(x:{`q2,(assignEach f X.env).findIdx? (·.1)=J}):PG X (.Tuple f k pos) (sM X.K n t):=by
 intro d s O H v u Q I r hw;obtain⟨a,i,e1,m,q,hw⟩:=hw;subst e1;cases r;obtain⟨y,g,l,z⟩:=I.tuple m;refine assign_Tuple_tuple (I.ok.hd w) l (by simp[p,← q,g.length]) x λA j=>?_;exact h d _ O H i _ Q (I.kept (t':=s.toks) λb o e=>j b o (ZR (ZI e)) e) (by simpa using g) hw
noncomputable def GH(a b:TE)(t:AR):TG:=λv O H Q=>a O H λo f=>b O f λi e=>t o i v e λd=>Q O d
def t8(q:PE X o e)(w:PE X i f)(p:FA X t)(z:{`q3,∀v,assign (.Subscript o i pos) X.env v=(do
   let b ← holding [v] (eval o X.env)
   let iv ← holding [v,b] (eval i X.env)
   standAt pos
   holding [v,b,iv] (setItem b iv v)
   release [v,b,iv] [])}):PG X (.Subscript o i pos) (GH e f t):=by
 intro a s O H v u Q I r h;rw[z];refine Zx (Xf (thn (q a s O H _ I h) λb j d=>?_));obtain⟨x,G,D,r1,n⟩:=d;refine Zx (Xf (thn (w a j O G _ D n) λiv g d=>?_));obtain⟨y,F,C,r2,m⟩:=d;refine Zx (wpAny_standAt (Zx (Xf (thn (p a g O F x y v b iv u _ C r1 r2 r m) λ_ M d=>?_))));obtain⟨E,A,l⟩:=d;exact wpAny_release ⟨O,E,A,l⟩
noncomputable def He(a:TE)(g:TG):TS:=λD O H=>a O H λx b=>g x O b D.nx
def t7{pos:Pos}(he:PE X e d)(l:PG X b g)(j:{`q2,swapsWithSole [b] e pos.line X.env=pure L})(hw:{`q2,swappedStores [b] e X.env=pure J})(n:{`q2,(assignEach [b] X.env).map (·.2)=[assign b X.env]}):PS X (.Assign [b] e pos) (He d g):=by
 intro a s O H D I h;refine wpAny_Assign_stores (thn (he a s O H _ I h) λv f m=>?_) j hw;obtain⟨x,p,o,r1,i⟩:=m;rw[n];exact thn (l a f O p x v _ o r1 i) λ_ r q=>q
def ub{X:Cx}{pos:Pos}(o:X.N.Nodup)(l:X.N[i]?=Z x)(g:Loc X.env.scope x)(he:PE X e d)(j:{`q2,swapsWith e (Z (.Name x a)) pos.line X.env=pure L})(m:{`q0,X.fn x=B\/X.env.scope.names.lookup x=Z .local}) :
  PS X (.Assign [.Name x a] e pos) (He d (zB i)):=by
 intro b s O H D I h;refine wpAny_Assign_Name (thn (he b s O H _ I h) λv u n=>?_) j;obtain⟨y,r,q,r1,f⟩:=n;exact tm q o l g r1 (λt p=>⟨_,r,p,f⟩) m
end
section
def DJ(c:TT)(g:TS):TS:=λD O H=>∃W:Nat->St->Hp->Prop,(∃m,W m O H)/\∀m O H,W m O H →
 c O H λb e=>if b=B then ∃N:St->Hp->Prop,(∀d f,N d f->∃a,a<m/\W a d f)/\g { D with nx:=N,ct:=N,bk:=D.nx } O e else D.nx O e
def zu{X:Cx}(x:PassesOwn (KB X.prog X.w) X.A X.env X.xe)(U:PT X c t)(hb:Kc X d u):PS X (.While c d [] pos) (DJ t u):=by
 intro a s O H D I h;obtain⟨W,⟨S,M⟩,turn⟩:=h;refine wpAny_While (codeAny_whileLoop (λn R=>∃y F,Inv X a y F R/\W n y F) ?_ S ⟨O,H,I,M⟩);rintro n Q ⟨l,E,I1,G⟩;refine X7 x (thn (U a Q l E _ I1 (turn n l E G)) λb P h_=>?_);obtain⟨C,z,j⟩:=h_;cases b with
 |true =>
  obtain⟨N,hN,j⟩:=j;rw[Zr Y];refine X7 x (thn (hb a P l C _ z j) λf s3 i=>?_);cases f with
  |next =>
   obtain⟨e,g,r,o⟩:=i;obtain⟨p,q,m⟩:=hN e g o;exact⟨p,q,e,g,r,m⟩
  |cont =>
   obtain⟨e,g,r,o⟩:=i;obtain⟨p,q,m⟩:=hN e g o;exact⟨p,q,e,g,r,m⟩
  |brk=>exact i
  |ret v=>exact i
 |false =>
  rw[Zq Zf];exact VQ ⟨l,C,z,j⟩
end
structure It where
 go:Nat->Hp->Prop
 Rw:Nat->Hp->V->Hp->Prop
 stop:Nat->Hp->Prop
def jO(X:Cx)(a:Xi)(H:Hp)(b:KM):Prop :=
 H b=J/\b≠X.env.locals/\b∉X.fs/\(b∈X.ex\/X.s₀.heap.objs.size<=b)/\(∀x c,X.env.cells.lookup x=Z c->c≠b)/\∀p∈X.pn++a,p.1≠b
def Inv.Li(I:Inv X a O H s)(d:s.heap.objs.size<=b)(h:f b=J):jO X a f b:=by
 refine⟨h,Vu (Zi I.lt d),I.SQ d,.inr (ZU I.sz d),λx c e z=>?_,λp g z=>?_⟩
 ·obtain⟨v,q⟩:=I.cell x c e;exact absurd (Zi q.lt (by rw[z];exact d)) (YK _)
 ·exact absurd (Zi (ZI (I.pin p g).1) (by rw[z];exact d)) (YK _)
structure Turn(P:Re)(w:XAA)(K:Ww)(tg:Expr)(J:It)(fp:W6)(it:KM)(tn:Nat->UV->Prop):Prop where
 mem:it∈fp
 obj:∀i h,tn i h->∀b∈fp,∃o,h.get? b=some o/\∀v,o.data ≠ .cell v
 keep:∀i h h',tn i h->(∀b∈fp,∀o,h.get? b=some o->h'.get? b=some o)->tn i h'
 item:∀(X:Cx),X.prog=P->X.w=w->X.K=K->X.calm=true->∀(i:Nat)(pins:Xi)(s:IR)(O:St)(H:Hp)(E:Z9),Inv X pins O H s->(∀b∈fp,jO X pins H b)->tn i s.heap->J.go i H →
  PP (KB P w) X.A (pyNext (.ref it)) (λr s1=>∃u,r=some u ∧
   PP (KB P w) X.A (letOwnedTupleGo tg (.ref it) u) (λ_ s2=>∃x H',Inv X pins O H' s2/\RelV x u/\J.Rw i H x H'/\tn (i+1) s2.heap/\∀b∈fp,H' b=none) E s1) E s
 done:∀(X:Cx),X.prog=P->X.w=w->X.K=K->X.calm=true->∀(i:Nat)(pins:Xi)(s:IR)(O:St)(H:Hp)(E:Z9),Inv X pins O H s->(∀b∈fp,jO X pins H b)->tn i s.heap->J.stop i H →
  PP (KB P w) X.A (pyNext (.ref it)) (λr s1=>r=none/\Inv X pins O H s1) E s
 self:∀(A:SB)(i:Nat)(s:IR)(Q:Z9)(E:Z9),tn i s.heap->Q (.ref it) s->PP (KB P w) A (pyIter (.ref it)) Q E s
abbrev TI:=St->Hp->(It->Hp->Prop)->Prop
def PIE(X:Cx)(a:Xi)(O:St)(g:Expr)(Rq:It->Hp->Prop)(h:On)(f:IR):Prop :=
 ∃(it:KM)(fp:W6)(e:Nat->UV->Prop)(J:It)(d:Hp),h=.ref it/\Inv X a O d f/\Turn X.prog X.w X.K g J fp it e/\e 0 f.heap/\(∀b∈fp,jO X a d b)/\Rq J d
def PI(X:Cx)(e b:Expr)(d:TI):Prop :=
 ∀(a:Xi)(s:IR)(O:St)(H:Hp)(Rq:It->Hp->Prop),Inv X a O H s->d O H Rq →
  PP (KB X.prog X.w) X.A (eval b X.env) (λv f=>PP (KB X.prog X.w) X.A (pyIter v) (PIE X a O e Rq) X.xe f) X.xe s
def pE{s:IR}(f:s.heap.get? e=Z o)(j:o.cls=.type n)(i:o.data=.fields b)(g:["enumerate", "zip", "dict_itemiterator", "dict_reverseitemiterator", "odict_iterator", "itertools.zip_longest", "itertools.pairwise"].contains n=L)(a:Q () s):PP M A (letOwnedTupleGo d (.ref e) u) Q E s:=by
 cases d<;>first
  |exact Zm a
  | (cases u<;>first
    |exact Zm a
    | (refine Zx (wpAny_load f ?_)
       rw[j,i];show PP M A (if (["enumerate", "zip", "dict_itemiterator", "dict_reverseitemiterator", "odict_iterator", "itertools.zip_longest", "itertools.pairwise"].contains n&&b[0]? == Z (rawInt _))=B then _ else _) Q E s;rw[Zq (by intro h;rw[g,Bool.false_and]at h;cases h)];exact Zm a))
def UW(K:Ww)(a:KM):It :=
 ⟨λi H=>∃b x,Iv K H a b/\b[i]?=Z x,λi H x d=>d=H/\∀b,Iv K H a b->b[i]?=Z x,λi H=>∃b,Iv K H a b/\b.length<=i⟩
def UU(K:Ww)(a:KM):It :=
 ⟨λi H=>∃b x,Jy K H a b/\b[i]?=Z x,λi H x d=>d=H/\∀b,Jy K H a b->b[i]?=Z x,λi H=>∃b,Jy K H a b/\b.length<=i⟩
noncomputable def Sj(a:Int)(n:Nat):It:=⟨λi _=>i<n,λi H x b=>b=H/\x=.int (a+i),λi _=>n<=i⟩
def xg{K:Ww}(a f:KM):Turn P w K R (UW K a) [f] f (λi h=>h.IsListIter f a i) where
 mem:=by simp
 obj:=λi h st b hb=>by
  have e:b=f:=by simpa using hb
  subst e;obtain⟨o,e,c,d⟩:=st;exact⟨o,e,λv z=>by rw[d]at z;cases z⟩
 keep:=λi h M st k=>st.at λo e=>k f (by simp) o e
 item:=by
  intro X r hw t G i g s O H E I l st hg;refine L2.ai λP_ n=>?_;subst r hw t;obtain⟨N,x,j,q⟩:=hg;obtain⟨Q,m,p,U⟩:=I.list j;obtain⟨u,hu,S⟩:=m.get q;obtain⟨D,f1,f2,C,A,y⟩:=l f (by simp);refine n ?_;refine wpAny_pyNext_list_item st p.isList (x:=u) (by simpa using hu) λM F sb=>?_;obtain⟨o,e,c,d⟩:=id F;exact⟨u,rfl,pE e c d (by decide) ⟨x,H,(I.turned (t':=s.toks) (λb o hb e=>(sb.2 b hb).trans e) D f1 C A y),S,⟨rfl,λys Y=>by rw[I.Lb Y j];exact q⟩,F,λb hb=>(l b hb).1⟩⟩
 done:=by
  intro X r hw t G i g s O H E I l st hg;refine L2.ai λP_ n=>?_;subst r hw t;obtain⟨N,j,q⟩:=hg;obtain⟨Q,m,p,U⟩:=I.list j;obtain⟨D,f1,f2,C,A,y⟩:=l f (by simp);refine n ?_;have hl:=m.length;exact wpAny_pyNext_list_end (I.ok.hd G) st p.isList (by simp;lia) λM eb=>⟨rfl,I.turned (λb o hb e=>eb b o hb e) D f1 C A y⟩
 self:=λ_ _ _ _ _ st h=>wpAny_pyIter_listiter st h
def uv{K:Ww}(a f:KM):Turn P w K R (UU K a) [f] f (λi h=>h.IsTupleIter f a i) where
 mem:=by simp
 obj:=λi h st b hb=>by
  have e:b=f:=by simpa using hb
  subst e;obtain⟨o,e,c,d⟩:=st;exact⟨o,e,λv z=>by rw[d]at z;cases z⟩
 keep:=λi h M st k=>st.at λo e=>k f (by simp) o e
 item:=by
  intro X r hw t G i g s O H E I l st hg;refine L2.ai λP_ n=>?_;subst r hw t;obtain⟨N,x,j,q⟩:=hg;obtain⟨Q,m,p,U⟩:=I.tuple j;obtain⟨u,hu,S⟩:=m.get q;obtain⟨D,f1,f2,C,A,y⟩:=l f (by simp);refine n ?_;refine wpAny_pyNext_tuple_item st (p) (x:=u) (by simpa using hu) λM F sb=>?_;obtain⟨o,e,c,d⟩:=id F;exact⟨u,rfl,pE e c d (by decide) ⟨x,H,(I.turned (t':=s.toks) (λb o hb e=>(sb.2 b hb).trans e) D f1 C A y),S,⟨rfl,λys Y=>by rw[I.Ml Y j];exact q⟩,F,λb hb=>(l b hb).1⟩⟩
 done:=by
  intro X r hw t G i g s O H E I l st hg;refine L2.ai λP_ n=>?_;subst r hw t;obtain⟨N,j,q⟩:=hg;obtain⟨Q,m,p,U⟩:=I.tuple j;obtain⟨D,f1,f2,C,A,y⟩:=l f (by simp);refine n ?_;have hl:=m.length;exact wpAny_pyNext_tuple_end (I.ok.hd G) st (p) (by simp;lia) λM eb=>⟨rfl,I.turned (λb o hb e=>eb b o hb e) D f1 C A y⟩
 self:=λ_ _ _ _ _ st h=>wpAny_pyIter_tupleiter st h
def uc{K:Ww}(a:KM)(f:Int)(n:Nat):Turn P w K A (Sj f n) [a] a (λi h=>IsRangeIter h a (f+(i:Nat)*1) ((n:Int)-(i:Nat)) 1) where
 mem:=by simp
 obj:=λi h st b hb=>by
  have e:b=a:=by simpa using hb
  subst e;exact⟨_,st,λv z=>by
   cases z⟩
 keep:=λi h y st k=>k a (by simp) _ st
 item:=by
  intro X l hw m j i d s O H E I g st hg;subst l hw m;obtain⟨u,f1,f2,r,q,p⟩:=g a (by simp);refine(Walks.range (prog:=X.prog) (w:=X.w) (I.ok.hd j) a f 1 n).item i s _ _ hg st λv y G D x C=>?_;obtain⟨t,rfl⟩:=D;refine⟨_,rfl,pE x Y Y (by decide) ⟨.int (f+i),H,(I.turned (λb o hb e=>C b o (by simpa using hb) e) u f1 r q p),⟨t,?_⟩,⟨rfl,rfl⟩,x,λb hb=>(g b hb).1⟩⟩;rw[Int.mul_one]
 done:=by
  intro X l hw m j i d s O H E I g st hg;subst l hw m;obtain⟨u,f1,f2,r,q,p⟩:=g a (by simp);exact wpAny_pyNext_range_end (I.ok.hd j) st (by have:n<=i:=hg;lia) λy F=>⟨rfl,I.turned (λb o hb e=>F b o hb e) u f1 r q p⟩
 self:=λ_ _ _ _ _ st h=>wpAny_pyIter_rangeiter st h
section
def xJ{a f:Int}(I:Inv X d O H s)(m:-(2 ^ 62)<=a)(l:a<2 ^ 62)(j:-(2 ^ 62)<=f)(i:f<2 ^ 62)(q:Rq (Sj a (f-a).toNat) H):PP (KB X.prog X.w) X.A (pyIter (.ref s.heap.objs.size)) (PIE X d O tg Rq) E { s with heap:=s.heap.push { cls:=.type "range",data:=.fields #[.int a t,.int f u,.int 1 v] },toks:=g }:=by
 refine wpAny_pyIter_range (IsRange.new ..) (small_one m l j i) ?_;have h:Inv X d O H { s with heap:=s.heap.push { cls:=.type "range",data:=.fields #[.int a t,.int f u,.int 1 v] },toks:=g }:=I.kept λb o e=>Za _ e;refine⟨(s.heap.push { cls:=.type "range",data:=.fields #[.int a t,.int f u,.int 1 v] }).objs.size,[(s.heap.push { cls:=.type "range",data:=.fields #[.int a t,.int f u,.int 1 v] }).objs.size],_,_,H,rfl,
  h.kept (t':=g) λb o e=>Za _ e,uc _ a (f-a).toNat,?_,λb hb=>?_,q⟩
 ·have e1:a+((0:Nat):Int)*1=a:=by simp
  have e2:(((f-a).toNat:Nat):Int)-((0:Nat):Int)=Builtin.Range.rangeSize a f 1:=by rw[rangeSize_one];split<;>lia
  rw[e1,e2];exact ZD _ Y
 ·have e:b=(s.heap.push { cls:=.type "range",data:=.fields #[.int a t,.int f u,.int 1 v] }).objs.size:=by simpa using hb
  subst e;exact h.Li (Zn _) (h.xt.fresh (Zn _))
def GS(ta:TA):TI:=λO H Rq=>ta O H λa b=>∃j:Int,a=[.int j]/\-(2 ^ 62)<=j/\j<2 ^ 62/\Rq (Sj 0 j.toNat) b
def wj(o:Gl X "range")(n:X.mg "range" = J)(u:PA X [a] g)(m:{`q2,Pv [a] X.env=[(L,eval a X.env)]}):PI X tg (.Call (.Name "range" p) [a] [] b) (GS g):=by
 intro d s O H Rq I h;refine Call_ (lr I o n boot_range (WI (thn (u b d s O H _ I h) λy z v=>?_) m Y));obtain⟨x,A,w,r1,f⟩:=v;obtain⟨j,e,f,l,q⟩:=f;subst e;cases r1 with
 |cons r i =>
  cases i;obtain⟨t,rfl⟩:=r;exact call_range_1 (xJ w (by lia) (by lia) f l (by simpa using q))
def FL(e:TI)(g:TG)(f:TS):TS:=λD O H=>e O H λJ l=>∃W:Nat->Nat->St->Hp->Prop,(∃m,W 0 m O l)/\∀i m O H,W i m O H →
 (J.stop i H/\D.nx O H)\/(J.go i H/\∃N:St->Hp->Prop,(∀d a,N d a->∃b,b<m/\W (i+1) b d a)/\∀x a,J.Rw i H x a->g x O a λh j=>f { D with nx:=N,ct:=N,bk:=D.nx } h j)
noncomputable def mS(a:W6)(h:UV):Xi:=a.filterMap λb=>(h.get? b).map λo=>(b,o)
def iC{h:UV}(d:b∈a)(e:h.get? b=Z o):(b,o)∈mS a h:=VJ.mpr ⟨b,d,by rw[e];rfl⟩
def wt(d:p∈mS a h):p.1∈a/\h.get? p.1=Z p.2:=by
 obtain⟨b,hb,e⟩:=VJ.mp d;cases q:h.get? b with
 |none=>rw[q]at e;cases e
 |some o =>
  rw[q]at e;have f:=Zg e;subst f;exact⟨hb,q⟩
def Inv.pinned(I:Inv X a O H s)(j:∀b∈f,jO X a H b)(i:∀b∈f,∃o,s.heap.get? b=Z o/\∀v,o.data ≠ .cell v):Inv X (a++mS f s.heap) O H s :=
 I.L4 λp h=>(Zj.mp h).elim (λz=>I.pin p (ZQ _ z)) λz=>by
  obtain⟨hb,e⟩:=wt z;obtain⟨l,f1,f2,_⟩:=j p.1 hb;obtain⟨o,g,d⟩:=i p.1 hb;rw[e]at g;cases g;exact⟨e,l,f1,f2,d⟩
def Inv.Jz(I:Inv X (a++b) O H s):Inv X a O H s:=I.L4 λp d=>I.pin p (ZQ _ (Z8 _ d))
def Ef{X:Cx}(G:PassesOwn (KB X.prog X.w) X.A X.env X.xe)(hc:X.calm=B)(hi:PI X tg j wi)(hg:PG X tg g)(l:Kc X C tb)(hs:{`q3,∀x,XAC j X.env x=pure x}):PS X (.For tg j C [] S) (FL wi g tb):=by
 intro a s O H D I h;refine wpAny_For (thn (hi a s O H _ I h) λv s1 h1=>thn h1 λTa s2 h2=>?_) hs;refine L2.ai λP_ k_=>?_;obtain⟨it,fp,tn,J,H2,e,I2,T,JM,f2,W,⟨m0,w0⟩,turn⟩:=h2;subst e;refine k_ ?_;have Lv:∀{y:Hp},(∀b∈fp,y b=none)->∀b∈fp,jO X a y b:=λhn b l=>⟨hn b l,(f2 b l).2⟩
 refine codeAny_forLoop_any (λn s'=>∃i P y,Inv X a P y s'/\tn i s'.heap/\(∀b∈fp,y b=none)/\W i n P y) ?_ m0 ⟨0,O,H2,I2,JM,λb l=>(f2 b l).1,w0⟩;rintro n s3 ⟨i,M,Q,I3,Lx,QW,w3⟩;rcases turn i n M Q w3 with⟨stop,qn⟩ | ⟨go,N,hN,step⟩
 ·refine X7 G (thn (T.done X Y Y Y hc i a s3 M Q X.xe I3 (Lv QW) Lx stop) λr s4 E=>?_);obtain⟨U,I4⟩:=E;subst U;exact VQ ⟨M,Q,I4,qn⟩
 ·refine X7 G (thn (T.item X Y Y Y hc i a s3 M Q X.xe I3 (Lv QW) Lx go) λr s4 E=>?_);obtain⟨u,U,h4⟩:=E;subst U;refine X7 G (thn h4 λ_ s5 E=>?_);obtain⟨x,H5,I5,r5,y5,Oz,T1⟩:=E;refine X7 G (thn (hg _ s5 M H5 x u _ (I5.pinned (Lv T1) (T.obj _ _ Oz)) r5 (step x H5 y5)) λ_ s6 E=>?_);obtain⟨O6,H6,I6,q6⟩:=E;refine X7 G (thn (l _ s6 O6 H6 _ I6 q6) λf R z=>?_);have again:∀{p:St}{t:Hp},Inv X (a++mS fp s5.heap) p t R->N p t->∃m,m<n/\∃i P y,Inv X a P y R/\tn i R.heap/\(∀b∈fp,y b=none)/\W i m P y:=λ{p t} q F=>by
   obtain⟨m',hm,w7⟩:=hN p t F;refine⟨m',hm,i+1,p,t,q.Jz,T.keep _ _ _ Oz λb l o e=>(q.pin (b,o) (ZQ _ (ZQ _ (iC l e)))).1,λb l=>?_,w7⟩;obtain⟨o,e,d⟩:=T.obj _ _ Oz b l;exact(q.pin (b,o) (ZQ _ (ZQ _ (iC l e)))).2.1
  cases f with
  |next=>obtain⟨p,t,q,F⟩:=z;exact again q F
  |cont=>obtain⟨p,t,q,F⟩:=z;exact again q F
  |brk=>obtain⟨p,t,q,z⟩:=z;exact⟨p,t,q.Jz,z⟩
  |ret v=>obtain⟨x7,p,t,q,r7,z⟩:=z;exact⟨x7,p,t,q.Jz,r7,z⟩
end
abbrev Ja:=V->V->Hp->VK->Prop
def OpR(X:Cx)(f:On->On->Sem On)(r:Ja):Prop :=
 ∀(a:Xi)(s:IR)(O:St)(H:Hp)(x y:V)(v u:On)(Q:VK),Inv X a O H s->RelV x v->RelV y u->r x y H Q →
  PP (KB X.prog X.w) X.A (f v u) (EP X a O Q) X.xe s
def UnR(X:Cx)(f:On->Sem On)(r:V->Hp->VK->Prop):Prop :=
 ∀(a:Xi)(s:IR)(O:St)(H:Hp)(x:V)(v:On)(Q:VK),Inv X a O H s->RelV x v->r x H Q →
  PP (KB X.prog X.w) X.A (f v) (EP X a O Q) X.xe s
def dD(X:Cx)(f:On)(r:List V->Hp->VK->Prop):Prop :=
 ∀(a:Xi)(s:IR)(O:St)(H:Hp)(b:List V)(d:W7)(Q:VK),Inv X a O H s->aM b d->r b H Q →
  PP (KB X.prog X.w) X.A (call f d) (EP X a O Q) X.xe s
def HE(X:Cx)(r:V->Hp->(Bool->Hp->Prop)->Prop):Prop :=
 ∀(a:Xi)(s:IR)(O:St)(H:Hp)(x:V)(v:On)(Q:Bool->Hp->Prop),Inv X a O H s->RelV x v->r x H Q →
  PP (KB X.prog X.w) X.A (truthy v) (TP X a O Q) X.xe s
noncomputable def P7(r:Ja)(ta a:TE):TE:=λO H Q=>ta O H λx d=>a O d λy b=>r x y b Q
noncomputable def tUn(r:V->Hp->VK->Prop)(ta:TE):TE:=λO H Q=>ta O H λx a=>r x a Q
noncomputable def rI(C:Int->Int->Prop)(g:Int->Int->V):Ja:=λx y H Q=>∃i j,x=.int i/\y=.int j/\C i j/\Q (g i j) H
noncomputable def LZ(g:Int->Int->V):Ja:=λx y H Q=>∃i j,x=.int i/\y=.int j/\Q (g i j) H
noncomputable def rU(g:Int->V):V->Hp->VK->Prop:=λx H Q=>∃i,x=.int i/\Q (g i) H
section
def Fo{X:Cx}{a b:Expr}{ta tb:TE}(t:PE X a ta)(r:PE X b tb){d:Xi}{s:IR}{O:St}{H:Hp}{Rq:V->V->Hp->Prop}(I:Inv X d O H s)(h:ta O H λx j=>tb O j λy e=>Rq x y e){Q:Z9}{f:On->On->Sem On}(q:∀v u g x y e,Inv X d O e g->RelV x v->RelV y u->Rq x y e->PP (KB X.prog X.w) X.A (f v u) Q X.xe g) :
  PP (KB X.prog X.w) X.A (eval a X.env) (λv m=>PP (KB X.prog X.w) X.A (eval b X.env) (λu l=>PP (KB X.prog X.w) X.A (f v u) Q X.xe l) X.xe m) X.xe s:=by
 refine thn (t d s O H _ I h) λv n i=>?_;obtain⟨x,j,C,r1,p⟩:=i;refine thn (r d n O j _ C p) λu g i=>?_;obtain⟨y,e,z,r2,o⟩:=i;exact q v u g x y e z r1 r2 o
def FO(j:OpR X (binaryOp e) r)(m:PE X a ta)(l:PE X b tb):PE X (.BinOp a e b pos) (P7 r ta tb):=by
 intro d s O H Q I h;exact wpAny_BinOp (Fo m l I h λv u f x y o n i g q=>j d f O o x y v u Q n i g q)
def Ho(i:UnR X (unaryOp e) r)(j:PE X a ta):PE X (.UnaryOp e a pos) (tUn r ta):=by
 intro d s O H Q I h;refine UnaryOp_ (thn (j d s O H _ I h) λv f l=>?_);obtain⟨x,n,m,r1,g⟩:=l;exact i d f O n x v Q m r1 g
def SE{X:Cx}{f:On->On->Sem On}{C:Int->Int->Prop}{g:Int->Int->Int}(d:∀(i j:Int)(t u:Tok)(s:IR)(Q:Z9)(E:Z9),C i j->Q (.int (g i j) s.toks) { s with toks:=s.toks+1 }->PP (KB X.prog X.w) X.A (f (.int i t) (.int j u)) Q E s) :
  OpR X f (rI C λi j=>.int (g i j)):=by
 intro e s O H x y v u Q I n m h;obtain⟨i,j,rfl,rfl,o,q⟩:=h;obtain⟨t,rfl⟩:=n;obtain⟨l,rfl⟩:=m;exact d i j t l s _ _ o ⟨.int (g i j),H,I.tok _,⟨_,rfl⟩,q⟩
def Hn{X:Cx}{f:On->On->Sem On}{g:Int->Int->Int}(d:∀(i j:Int)(t u:Tok)(s:IR)(Q:Z9)(E:Z9),Q (.int (g i j) s.toks) { s with toks:=s.toks+1 }->PP (KB X.prog X.w) X.A (f (.int i t) (.int j u)) Q E s) :
  OpR X f (LZ λi j=>.int (g i j)):=by
 intro e s O H x y v u Q I n m h;obtain⟨i,j,rfl,rfl,q⟩:=h;obtain⟨t,rfl⟩:=n;obtain⟨l,rfl⟩:=m;exact d i j t l s _ _ ⟨.int (g i j),H,I.tok _,⟨_,rfl⟩,q⟩
def Cu{X:Cx}{f:On->On->Sem On}{g:Int->Int->Bool}(d:∀(i j:Int)(t u:Tok)(s:IR)(Q:Z9)(E:Z9),Q (.bool (g i j)) s->PP (KB X.prog X.w) X.A (f (.int i t) (.int j u)) Q E s) :
  OpR X f (LZ λi j=>.bl (g i j)):=by
 intro e s O H x y v u Q I n m h;obtain⟨i,j,rfl,rfl,q⟩:=h;obtain⟨t,rfl⟩:=n;obtain⟨l,rfl⟩:=m;exact d i j t l s _ _ ⟨.bl (g i j),H,I,rfl,q⟩
noncomputable def Hj(i j:Int):Prop:=0<j/\j<1073741824
noncomputable def B8(i j:Int):Prop:=(-(2 ^ 64)<i/\i<2 ^ 64)\/(-(2 ^ 64)<j/\j<2 ^ 64)
def B8.ok{i j:Int}(h:B8 i j):IntMulOk i j:=by
 rcases h with⟨e,d⟩ | ⟨e,d⟩
 ·exact .of_left (intBits_le_64 e d)
 ·exact .of_right (intBits_le_64 e d)
def Es:OpR X (binaryOp .Add) (LZ λi j=>.int (i+j)):=Hn λ_ _ _ _ _ _ _ q=>add_int q
def uu:OpR X (binaryOp .Sub) (LZ λi j=>.int (i-j)):=Hn λ_ _ _ _ _ _ _ q=>sub_int q
def mW:OpR X (binaryOp .Mult) (rI B8 λi j=>.int (i*j)):=SE λ_ _ _ _ _ _ _ d q=>mul_int q d.ok
def AV:OpR X (binaryOp .FloorDiv) (rI Hj λi j=>.int (i/j)):=SE λi j _ _ _ _ _ d q=>by
 have f:=d.1;have e:=d.2;exact floordiv_int (by lia) (by rw[Int.fdiv_eq_ediv_of_nonneg i (by lia)];exact q) (.inl (PyProof.noPylong_small (by omega)))
def Fl:OpR X (binaryOp .Mod) (rI (λ_ j=>0<j) λi j=>.int (i%j)):=SE λi j _ _ _ _ _ d q=>by
 exact mod_int' (by lia) (by rw[Int.fmod_eq_emod_of_nonneg i (by lia)];exact q)
def unI{X:Cx}{f:On->Sem On}{g:Int->Int}(d:∀(i:Int)(t:Tok)(s:IR)(Q:Z9)(E:Z9),Q (.int (g i) s.toks) { s with toks:=s.toks+1 }->PP (KB X.prog X.w) X.A (f (.int i t)) Q E s) :
  UnR X f (rU λi=>.int (g i)):=by
 intro e s O H x v Q I j h;obtain⟨i,rfl,q⟩:=h;obtain⟨t,rfl⟩:=j;exact d i t s _ _ ⟨.int (g i),H,I.tok _,⟨_,rfl⟩,q⟩
def DG:UnR X (unaryOp .USub) (rU λi=>.int (-i)):=unI λ_ _ _ _ _ q=>neg_int q
end
section
def Eg(I:Inv X d O H s)(q:Q (.bl k) H)(e:k=f):EP X d O Q (.bool f) s:=by
 subst e;exact⟨.bl k,H,I,rfl,q⟩
def FI:OpR X (UF .Lt) (LZ λi j=>.bl (decide (i<j))):=Cu λ_ _ _ _ _ _ _ q=>lt_int q
def GW:OpR X (UF .LtE) (LZ λi j=>.bl (decide (i<=j))):=Cu λ_ _ _ _ _ _ _ q=>le_int q
def GI:OpR X (UF .Gt) (LZ λi j=>.bl (decide (j<i))):=Cu λ_ _ _ _ _ _ _ q=>gt_int q
def Hg:OpR X (UF .GtE) (LZ λi j=>.bl (decide (j<=i))):=Cu λ_ _ _ _ _ _ _ q=>ge_int q
def wa:OpR X (UF .Lt) (λx y H Q=>∃i j,x=.str i/\y=.str j/\Q (.bl (decide (i.cps.toList<j.cps.toList))) H):=by
 intro d s O H x y v u Q I f e h;obtain⟨i,j,rfl,rfl,q⟩:=h;obtain⟨t,rfl⟩:=f;obtain⟨g,rfl⟩:=e;exact lt_str (Eg I q Y)
def OpR.or(h:OpR X f r)(j:OpR X f i):OpR X f (λx y H Q=>r x y H Q\/i x y H Q):=by
 intro d s O H x y v u Q I g e q;rcases q with q | q
 ·exact h d s O H x y v u Q I g e q
 ·exact j d s O H x y v u Q I g e q
def ig(b:Expr)(h:{`q1,d ≠ .In})(e:{`q1,d ≠ .NotIn}):behindInMarks d b=L:=by
 have e1:(d==CmpOp.In)=L:=by cases d<;>first | rfl | exact absurd Y h
 have e2:(d==CmpOp.NotIn)=L:=by cases d<;>first | rfl | exact absurd Y e
 cases b<;>simp[behindInMarks,e1,e2]
def CG(j:OpR X (UF e) r)(n:PE X a ta)(m:PE X b tb)(l:behindInMarks e b=L):PE X (.Compare a [e] [b] pos) (P7 r ta tb):=by
 intro d s O H Q I h;exact wpAny_Compare1 (Fo n m I h λv u f x y p o i g q=>j d f O p x y v u Q o i g q) l
noncomputable def yf(t:TE):TT:=λO H Q=>t O H λx d=>∃k,x=.bl k/\Q k d
def BK(o:OpR X (UF f) r)(t:PE X a ta)(q:PE X b tb)(p:behindInMarks f b=L):PT X (.Compare a [f] [b] pos) (yf (P7 r ta tb)):=by
 intro d s O H Q I h;refine wpAny_isTrue_Compare1 (thn (t d s O H _ I h) λv i ⟨x,G,D,r1,n⟩=>thn (q d i O G _ D n) λu g ⟨y,F,C,r2,m⟩ =>
  thn (o d g O F x y v u _ C r1 r2 m) λc M w=>?_) p
 obtain⟨z,E,A,j,k,e,l⟩:=w;subst e;cases j;exact YM ⟨E,A,l⟩
noncomputable def yi(r h:Ja)(ta g f:TE):TE:=λO H Q=>ta O H λx l=>g O l λy j=>r x y j λz d=>∃k,z=.bl k ∧
 (if k=B then f O d λe i=>h y e i Q else Q (.bl L) d)
def zc(R:OpR X (UF g) r)(LH:OpR X (UF i) j)(ha:PE X a ta)(Y:PE X b tb)(U:PE X c tc)(S:{`q4,lastMarks [g,i] [b,c]=L}):PT X (.Compare a [g,i] [b,c] pos) (yf (yi r j ta tb tc)):=by
 intro f s O H Q I h;refine isTrue_chain (thn (ha f s O H _ I h) λv A ⟨x,H1,I1,r1,N⟩=>test_link (thn (Y f A O H1 _ I1 N) λu w ⟨y,H2,I2,r2,M⟩ =>
  thn (R f w O H2 x y v u _ I2 r1 r2 M) λd t h_=>?_)) S
 obtain⟨z,n,m,E,k,e,l⟩:=h_;subst e;cases E;refine YM ?_;cases k with
 |false =>
  obtain⟨k',e',P⟩:=l;cases e';exact ite_ff ⟨n,m,P⟩
 |true =>
  refine ite_tt (test_last (thn (U f t O n _ m l) λp q ⟨o,H4,I4,D,G⟩=>thn (LH f q O H4 y o u p _ I4 r2 D G) λd' s5 ⟨z2,H5,I5,C,k2,e2,F⟩=>?_));subst e2;cases C;exact YM ⟨H5,I5,F⟩
def E4(K:Ww)(x:V)(H:Hp)(k:Bool):Prop :=
 match x with
 |.non=>k=L
 |.bl b=>k=b
 |.int i=>k=(i != 0)
 |.str y=>y.length<=KF/\k=((y.length:Int) != 0)
 |.byt y=>y.size<=KF/\k=((y.size:Int) != 0)
 |.ref p=>(∃d,Iv K H p d/\k=!d.isEmpty)\/(∃d,Jy K H p d/\k=!d.isEmpty)\/∃e,H p=Z (.dK e)/\k=!e.isEmpty
 |_=>False
def uA{κ:Type}{e:List (κ×V)}{d:List (κ×On)}(r:KV e d):(!d.isEmpty)=!e.isEmpty:=by
 cases r<;>rfl
def oq(r:aM d e):(!e.toArray.isEmpty)=!d.isEmpty:=by
 cases r<;>simp
def qw:(KF:Nat)<2 ^ 63:=by rw[Wa];decide
def Ff:HE X (λx H Q=>∃k,E4 X.K x H k/\Q k H):=by
 intro n s O H x v Q I f h;obtain⟨k,e,q⟩:=h;have E:=Wa;cases x with
 |non =>
  cases f;subst e;exact truthy_none ⟨H,I,q⟩
 |bl b =>
  cases f;subst e;exact YM ⟨H,I,q⟩
 |int i =>
  obtain⟨t,rfl⟩:=f;subst e;exact PySem.P.truthy_int ⟨H,I,q⟩
 |str y =>
  obtain⟨t,rfl⟩:=f;obtain⟨C,d⟩:y.length<=KF/\k=((y.length:Int) != 0):=e;subst d;exact PySem.P.truthy_str (by lia) ⟨H,I.tok _,q⟩
 |byt y =>
  obtain⟨t,rfl⟩:=f;obtain⟨C,d⟩:y.size<=KF/\k=((y.size:Int) != 0):=e;subst d;exact PySem.W.truthy_bytes (by lia) ⟨H,I.tok _,q⟩
 |ref p =>
  cases f;have d:=e;rcases d with⟨z,g,d⟩ | ⟨z,g,d⟩ | ⟨u,g,d⟩
  ·subst d;obtain⟨A,r,l,o⟩:=I.list g;have hlen:=r.length;exact wpAny_truthy_list l.isList (by simp only[ZP];lia) ⟨H,I.tok _,by rw[oq r];exact q⟩
  ·subst d;obtain⟨A,r,l,o⟩:=I.tuple g;have hlen:=r.length;exact truthy_tuple l (by simp only[ZP];lia) ⟨H,I.tok _,by rw[oq r];exact q⟩
  ·subst d;obtain⟨o,D,j,r,m⟩:u.length<=KF/\(p==sysModules)=L/\∃j,KV u j/\s.heap.DictOf (aQ X.prog X.w) p j:=I.xt p _ g;have hlen:=Wz r;exact wpAny_truthy_dict D m (by lia) ⟨H,I.tok _,by rw[uA r];exact q⟩
 |_=>exact(e).elim
def ye(i:PE X a ta)(he:∀whole,isTrue a X.env whole=(do let v ← whole;standAt a.pos;holding [v] (truthy v))) :
  PT X a (λO H Q=>ta O H λx e=>∃k,E4 X.K x e k/\Q k e):=by
 intro d s O H Q I h;exact isTrue_plain (thn (i d s O H _ I h) λv f ⟨x,l,j,r1,g⟩=>Ff d f O l x v Q j r1 g) (he _)
def tJ:OpR X (binaryOp .Add) (λx y H Q=>∃i j,x=.str i/\y=.str j/\i.length+j.length<=KF/\Q (.str (i++j)) H):=by
 intro d s O H x y v u Q I g f h;obtain⟨i,j,rfl,rfl,l,q⟩:=h;obtain⟨t,rfl⟩:=g;obtain⟨e,rfl⟩:=f;exact add_str (λe m=>⟨.str (i++j),H,I.tok _,⟨_,rfl⟩,q⟩) l
def vals1(r:aM [x] d):∃u,d=[u]/\RelV x u:=by
 cases r with
 |cons r1 r2=>cases r2;exact⟨_,rfl,r1⟩
def vals2(r:aM [x,y] e):∃u d,e=[u,d]/\RelV x u/\RelV y d:=by
 cases r with
 |cons r1 r2 =>
  cases r2 with
  |cons g f=>cases f;exact⟨_,_,rfl,r1,g⟩
def vO{X:Cx}(g:X.calm=B):dD X (.builtin "max") (λe H Q=>∃i j,e=[.int i,.int j]/\Q (.int (if j > i then j else i)) H):=by
 intro f s O H e m Q I r h;obtain⟨i,j,rfl,q⟩:=h;obtain⟨u,l,rfl,⟨t,rfl⟩,⟨o,rfl⟩⟩:=vals2 r;refine max_two_ints (I.ok.hd g) λp n k=>⟨_,H,I.kept k,?_,q⟩
 by_cases d:j > i
 ·rw[Zr d,Zr d];exact⟨_,rfl⟩
 ·rw[Zq d,Zq d];exact⟨_,rfl⟩
def wY{X:Cx}(g:X.calm=B):dD X (.builtin "min") (λe H Q=>∃i j,e=[.int i,.int j]/\Q (.int (if j<i then j else i)) H):=by
 intro f s O H e m Q I r h;obtain⟨i,j,rfl,q⟩:=h;obtain⟨u,l,rfl,⟨t,rfl⟩,⟨o,rfl⟩⟩:=vals2 r;refine min_two_ints (I.ok.hd g) λp n k=>⟨_,H,I.kept k,?_,q⟩
 by_cases d:j<i
 ·rw[Zr d,Zr d];exact⟨_,rfl⟩
 ·rw[Zq d,Zq d];exact⟨_,rfl⟩
def Gy(K:Ww)(x:V)(H:Hp)(n:Nat):Prop :=
 match x with
 |.str y=>y.length<=KF/\n=y.length
 |.byt y=>y.size<=KF/\n=y.size
 |.ref p=>(∃d,Iv K H p d/\n=d.length)\/∃d,Jy K H p d/\n=d.length
 |_=>False
def zf:dD X (.builtin "len") (λf H Q=>∃x n,f=[x]/\Gy X.K x H n/\Q (.int n) H):=by
 intro m s O H f z Q I r h;obtain⟨x,n,rfl,e,q⟩:=h;obtain⟨u,rfl,g⟩:=vals1 r;have A:=Wa;cases x with
 |str y =>
  obtain⟨t,rfl⟩:=g;obtain⟨w,d⟩:y.length<=KF/\n=y.length:=e;subst d;exact len_str (by lia) ⟨.int _,H,I.tok _,⟨_,rfl⟩,q⟩
 |byt y =>
  obtain⟨t,rfl⟩:=g;obtain⟨w,d⟩:y.size<=KF/\n=y.size:=e;subst d;exact PySem.W.len_bytes (by lia) ⟨.int _,H,I.tok _,⟨_,rfl⟩,q⟩
 |ref p =>
  cases g;have d:=e;rcases d with⟨f,l,d⟩ | ⟨f,l,d⟩
  ·subst d;obtain⟨o,i,j,v⟩:=I.list l;have hlen:=i.length;exact Calls.call_len_list j.isList (by simp only[ZP];lia) ⟨.int f.length,H,I.tok _,⟨_,by simp only[ZP];rw[hlen]⟩,q⟩
  ·subst d;obtain⟨o,i,j,v⟩:=I.tuple l;have hlen:=i.length;exact len_tuple j (by simp only[ZP];lia) ⟨.int f.length,H,I.tok _,⟨_,by simp only[ZP];rw[hlen]⟩,q⟩
 |_=>exact(e).elim
end
structure LW(h:UV)(x dx C:KM)(mA:Wp):Prop where
 obj:h.get? x=some (PySem.W.instObj C dx)
 ns:h.Ns1 dx mA
 ne:dx≠x
def vN{h:UV}(n:h.Ns1 f d):∃b,h.get? f=Z b/\∀name,PySem.W.lookIn name b=Z (d name):=by
 obtain⟨o,m,r,i,hd,l,_,j⟩:=n;refine⟨o,i,λname=>?_⟩;have e:=j name;unfold nsFind findBy at e;rw[← Array.find?_toList]at e;unfold PySem.W.lookIn;rw[hd];dsimp only;split
 ·rename_i y q;rw[q]at e;exact Z5 Z e
 ·rename_i q;rw[q]at e;have a:m.toList.any (·.refKey)=L:=by
   rw[List.any_eq_false];intro y g;obtain⟨z,t,p⟩:=l y (Array.mem_toList_iff.mp g);simp[DictEntry.refKey,p]
  rw[Zq (by rw[a];exact Zf)];exact Z5 Z e
def LW.look(I:LW h x d C b):∃a,PySem.W.InstAt h x (PySem.W.instObj C d) C (Z a)/\∀name,PySem.W.lookIn name a=Z (b name) :=
 let ⟨a,e,f⟩:=vN I.ns
 ⟨a,⟨I.obj,rfl,rfl,e⟩,f⟩
section
variable{K:Ww}
def get_map{s:IR}(X:K.In s.heap)(I:LW s.heap x dx C mA)(i:PySem.W.plainGet K C name=B)(g:PySem.W.hasDictIn K C=B)(j:PySem.W.findIn K (.ref C) name=Z none)(d:mA name=Z v)(b:PySem.W.handedIn v=B)(h:Q v { s with toks:=s.toks+1 }) :
  PP (KB prog w) A (getAttr (.ref x) name a) Q E s:=by
 obtain⟨l,J,e⟩:=I.look;exact PySem.W.get_value X J (VX i).1 (PySem.W.findObj_own g j Y (by rw[e,d])) b h
def xY{s:IR}(X:K.In s.heap)(I:LW s.heap x dx C mA)(a:PySem.W.plainGet K C name=B)(j:PySem.W.findIn K (.ref C) name=Z (Z (.ref f)))(g:PySem.W.isFn K (.ref f)=B)(e:mA name=none)(h:Q (.ref f,[.ref x]) s) :
  PP (KB prog w) A (getMethod (.ref x) name b) Q E s:=by
 obtain⟨d,J,i⟩:=I.look;exact PySem.W.method_fn X J (VX a).1 (VX a).2 j (beq_iff_eq.mp g) (by show (PySem.W.lookIn name d).map (·.isSome)=Z L;rw[i,e];rfl) h
def Bp{s:IR}(X:K.In s.heap)(I:LW s.heap x dx C mA)(p:PySem.W.findIn K (.ref C) "__setattr__" = Z (Z (.builtin "object.__setattr__")))(q:PySem.W.plainOver K C=B)(o:PySem.W.takerIn K C name=Z none)(r:PySem.W.hasDictIn K C=B)(hw:PySem.Within mA j)(d:j.length<=KF)(h:∀a,LW a x dx C (λy=>if y=name then Z v else mA y)->Heap.SameBut dx s.heap a->Q () { s with heap:=a,toks:=s.toks+2 }) :
  PP (KB prog w) A (setAttr (.ref x) name v) Q E s:=by
 obtain⟨F,J,H⟩:=I.look;refine PySem.W.set_plain X J p (PySem.W.osa_open X J q o λb=>?_);obtain⟨cd,t,D⟩:=PySem.W.any_some r;refine Zx (Zm (Zx (Zx (wpAny_loadPart I.obj (Zx (PySem.W.Looks.here (PySem.W.looks_clsIn X t) ?_))))));rw[D];refine Zm (Zx (Zm (Zx ?_)));refine wpAny_nsSet1 I.ns λa l m=>?_;refine L2.ai λM n=>?_;obtain⟨G,u,z,e,g,i⟩:=l.count (PySem.Within.cons name v hw);refine n ?_;refine Zx (wpAny_lookBehind e (by rw[g];exact pastItsLine_dict (ZU i (by rw[Zb];exact Xl d))) ?_);exact Zm (h _ ⟨(m.2 _ (YN I.ne)).trans I.obj,l,I.ne⟩ m)
def zt{A:SB}{s:IR}(X:K.In s.heap)(e:PySem.W.makesIn K C=B)(i:PySem.W.findIn K (.ref C) "__init__" = Z (Z (.ref f)))(j:PySem.W.typeIn K (.ref f)=Z (.type "function"))(h:codeAny (KB prog w) (A.under (.builtin "type.__call__" ⟨.ref C :: a,b⟩)) (.call (.ref f) ⟨.ref (s.heap.objs.size+1) :: a,b⟩) (PySem.W.InitBack (s.heap.objs.size+1) Rq)
   { s with heap:=(s.heap.push PySem.W.emptyDict).push (PySem.W.instObj C s.heap.objs.size) }) :
  codeAny (KB prog w) A (.call (.ref C) ⟨a,b⟩) Rq s:=by
 obtain⟨l,g,d,t,os⟩:=s;exact PySem.W.make_core (PySem.W.makes_of X e) (PySem.W.looks_findIn X i) (λself=>PySem.W.bind_fn X self j) (.inl Y) h
end
noncomputable def i6(f:Str)(v:V):List (Str×V)->List (Str×V)
 |[]=>[(f,v)]
 | (g,x) :: r=>if g=f then (g,v) :: r else (g,x) :: i6 f v r
theorem l5(f g:Str)(v:V):∀fs:List (Str×V),(i6 f v fs).lookup g=if g=f then Z v else fs.lookup g
 |[]=>by
  show List.lookup g [(f,v)]=_;by_cases h:g=f
  ·simp only[List.lookup,(beq_iff_eq.mpr h),Zr h]
  ·simp only[List.lookup,(Z0.mpr h),Zq h]
 | (k,x) :: r=>by
  rw[show i6 f v ((k,x) :: r)=(if k=f then (k,v) :: r else (k,x) :: i6 f v r) from rfl];by_cases a:k=f
  ·rw[Zr a];by_cases h:g=k
   ·simp only[List.lookup,(beq_iff_eq.mpr h),Zr (h.trans a)]
   ·simp only[List.lookup,(Z0.mpr h),Zq (λe:g=f=>h (e.trans a.symm))]
  ·rw[Zq a];by_cases h:g=k
   ·simp only[List.lookup,(beq_iff_eq.mpr h),Zq (λe:g=f=>a (h.symm.trans e))]
   ·simp only[List.lookup,(Z0.mpr h)];exact(l5 f g v r)
theorem lj(f:Str)(v:V):∀fs:List (Str×V),f∈(i6 f v fs).map (·.1)/\∀g,g∈fs.map (·.1)->g∈(i6 f v fs).map (·.1)
 |[]=>⟨by simp[i6],λg h=>by simp at h⟩
 | (k,x) :: r=>by
  obtain⟨d,b⟩:=lj f v r;rw[show i6 f v ((k,x) :: r)=(if k=f then (k,v) :: r else (k,x) :: i6 f v r) from rfl];by_cases a:k=f
  ·rw[Zr a];subst a;exact⟨by simp,λg h=>by simpa using h⟩
  ·rw[Zq a];refine⟨?_,λg h=>?_⟩
   ·rw[Zo];exact Zw _ d
   ·rw[Zo]at h ⊢;rcases Zh.mp h with e | e
    ·exact Zh.mpr (.inl e)
    ·exact Zw _ (b g e)
theorem lS(f:Str)(v:V):∀fs:List (Str×V),(i6 f v fs).length<=fs.length+1
 |[]=>by simp[i6]
 | (k,x) :: r=>by
  rw[show i6 f v ((k,x) :: r)=(if k=f then (k,v) :: r else (k,x) :: i6 f v r) from rfl];by_cases a:k=f
  ·rw[Zr a,Zb,Zb];exact Zd _ _
  ·rw[Zq a,Zb,Zb];exact Xl (lS f v r)
def iL.some_of{v:V}(r:iL (Z v) o):∃u,o=Z u/\RelV v u:=by
 cases o with
 |none=>exact(r).elim
 |some u=>exact⟨u,rfl,r⟩
def iL.none_of(r:iL J o):o=J:=by
 cases o with
 |none=>rfl
 |some u=>exact(r).elim
def wL(r:RelV v u):PySem.W.handedIn u=B:=by
 cases v with
 |non=>cases (r);rfl
 |bl b=>cases (r);rfl
 |int i=>obtain⟨t,e⟩:=(r);cases e;rfl
 |str x=>obtain⟨t,e⟩:=(r);cases e;rfl
 |byt b=>obtain⟨t,e⟩:=(r);cases e;rfl
 |flt b=>obtain⟨t,e⟩:=(r);cases e;rfl
 |ref a=>cases (r);rfl
 |ty n=>cases (r);rfl
section
variable{H:Hp}
def mF(g:Jm P w H h)(e:H a=Z (.ins C dx fs)):∃b,LW h a dx C b/\(∀f,iL (fs.lookup f) (b f))/\PySem.Within b (fs.map (·.1))/\fs.length<=1000/\H dx=Z (.own a):=by
 obtain⟨d,z,ne,i,b,n,r,q⟩:=(g a _ e)
 exact⟨b,⟨i,n,ne⟩,r,q,z,d⟩
end
structure JT(K:Ww)(C:KM):Prop where
 pg:PySem.W.plainGet K C Str.empty=true
 hd:PySem.W.hasDictIn K C=true
 po:PySem.W.plainOver K C=true
 sa:PySem.W.findIn K (.ref C) "__setattr__" = some (some (.builtin "object.__setattr__"))
def JT.get{K:Ww}(c:JT K C)(f:Str):PySem.W.plainGet K C f=B:=c.pg
def aR(K:Ww)(C:KM)(f:Str):Prop:=PySem.W.findIn K (.ref C) f=Z J
def aR.P6{K:Ww}(n:aR K C f):PySem.W.takerIn K C f=Z J:=by
 unfold PySem.W.takerIn;rw[n];rfl
structure Meth(K:Ww)(C:KM)(m:Str)(f:KM):Prop where
 at_:PySem.W.findIn K (.ref C) m=some (some (.ref f))
 fn:PySem.W.isFn K (.ref f)=true
 kp:PySem.W.keepIn K (.ref f)=true
section
variable{H:Hp}
def ua(I:Inv X pins O H s)(e:H a=Z (.ins C dx fs))(c:JT X.K C)(n:aR X.K C f)(l:fs.lookup f=Z v)(h:∀u d,Inv X pins O H d->RelV v u->Q u d):PP (KB X.prog X.w) A (getAttr (.ref a) f b) Q E s:=by
 obtain⟨m,j,r,_,_,_⟩:=mF I.xt e;obtain⟨u,i,g⟩:=iL.some_of (v:=v) (by rw[← l];exact r f);exact get_map I.JO j (c.get f) c.hd n i (wL g) (h u _ (I.tok _) g)
def nt(I:Inv X pins O H s)(e:H a=Z (.ins C dx fs))(c:JT X.K C)(k:Meth X.K C m g)(l:fs.lookup m=J)(h:Q (.ref g,[.ref a]) s):PP (KB X.prog X.w) A (getMethod (.ref a) m b) Q E s:=by
 obtain⟨i,d,r,_,_,_⟩:=mF I.xt e;exact xY I.JO d (c.get m) k.at_ k.fn (iL.none_of (by rw[← l];exact r m)) h
def uo(I:Inv X pins O H s)(e:H a=Z (.ins C dx fs))(c:JT X.K C)(n:aR X.K C f)(F:fs.length<1000)(p:RelV y u)(h:∀l,Inv X pins O (upd H a (.ins C dx (i6 f y fs))) l->Q () l):PP (KB X.prog X.w) A (setAttr (.ref a) f u) Q E s:=by
 obtain⟨t,i,r,j,_,m⟩:=mF I.xt e;refine Bp I.JO i c.sa c.po n.P6 c.hd j (by rw[Zu,Wa];lia) λG d sb=>h _ ?_;refine I.write (x:=a) (e:=dx) (by rw[e];exact True.intro) (.inr m) (λb q hb z=>(sb.2 b hb).trans z) (let ⟨o,_,_,D,_⟩:=d.ns;⟨o,D⟩) ?_;refine⟨by rw[aw i.ne];exact m,?_,i.ne,d.obj,_,d.ns,λg=>?_,λg hg=>?_⟩
 ·have:=lS f y fs;lia
 ·rw[l5];by_cases q:g=f
  ·rw[Zr q,Zr q];exact p
  ·rw[Zq q,Zq q];exact r g
 ·by_cases q:g=f
  ·rw[q];exact(lj f y fs).1
  ·refine(lj f y fs).2 g (j g λz=>hg ?_);show (if g=f then Z u else t g)=J;rw[Zq q];exact z
def Inv.made(I:Inv X pins O H s):Inv X pins O (upd (upd H s.heap.objs.size (.own (s.heap.objs.size+1))) (s.heap.objs.size+1) (.ins C s.heap.objs.size []))
  { s with heap:=(s.heap.push PySem.W.emptyDict).push (PySem.W.instObj C s.heap.objs.size) }:=by
 have e1:(s.heap.push PySem.W.emptyDict).get? s.heap.objs.size=Z PySem.W.emptyDict:=ZD s.heap Y;have g:=I.laid (o:=.own (s.heap.objs.size+1)) (t':=s.toks) (λb u q=>Za _ q) (Zn _) ⟨_,e1⟩;refine g.laid (λb u q=>Za _ q) (Y9 (V5 _ _)) ?_;have ne:s.heap.objs.size≠s.heap.objs.size+1:=ZR (Y0 _);refine⟨by rw[aw ne,ar],ZE _,ne,(by
  have:=ZD (s.heap.push PySem.W.emptyDict) (o:=PySem.W.instObj C s.heap.objs.size) Y
  rwa [V5]at this),λ_=>J,(Heap.Ns1.of_empty (⟨PySem.W.emptyDict,#[],_,e1,rfl,(λe he=>absurd he (by simp)),λ_=>rfl⟩)).at λo q=>Za _ q,λ_=>True.intro,λy d=>absurd Y d⟩
def B7{f:Str}{s:IR}(j:XAB e f d (eval e d)=eval e d)(h:PP (KB b w) A (eval e d) (λo i=>PP (KB b w) A (getAttr o f B) Q E i) E s):PP (KB b w) A (eval (.Attribute e f g) d) Q E s :=
 Attribute_any_ h (by rw[arm_eval_Attribute,j])
end
def HK(K:Ww)(ta:TE)(f:Str):TE:=λO H Q=>ta O H λx b=>∃a C d fs v,x=.ref a/\b a=Z (.ins C d fs)/\JT K C/\aR K C f/\fs.lookup f=Z v/\Q v b
def HM(K:Ww)(ta e:TE)(f:Str):TS:=λD O H=>e O H λy g=>ta O g λx d=>∃a C b fs,x=.ref a/\d a=Z (.ins C b fs)/\JT K C/\aR K C f/\fs.length<1000 ∧
 D.nx O (upd d a (.ins C b (i6 f y fs)))
section
def zv(he:PE X e ta)(i:XAB e f X.env (eval e X.env)=eval e X.env):PE X (.Attribute e f pos) (HK X.K ta f):=by
 intro b s O H Q I h;refine B7 i (thn (he b s O H _ I h) λu z j=>?_);obtain⟨x,t,r,d,a,C,A,fs,v,ex,m,c,n,l,q⟩:=j;subst ex;obtain rfl:u=Value.ref a:=d;exact ua r m c n l λw y p g=>⟨v,t,p,g,q⟩
def Dz{pos:Pos}(t:PE X o ta)(p:PE X value tv)(r:swapsWith value (Z (.Attribute o f pos')) pos.line X.env=pure L):PS X (.Assign [.Attribute o f pos'] value pos) (HM X.K ta tv f):=by
 intro b s O H D I h;refine plainObj_wpAny_Assign_Attribute (thn (p b s O H _ I h) λu d ⟨y,F,E,g,q⟩=>thn (t b d O F _ E q) λm M v=>?_) r;obtain⟨x,P,A,i,a,C,N,fs,ex,w,c,n,l,j⟩:=v;subst ex;obtain rfl:m=Value.ref a:=i;exact uo A w c n l g λG z=>⟨O,_,z,j⟩
end
section
variable{H:Hp}
inductive JF(K:Ww)(H:Hp):V->On->Prop where
 |non:JF K H .non (.type "NoneType")
 |bl (x:Bool):JF K H (.bl x) (.type "bool")
 |int (i:Int):JF K H (.int i) (.type "int")
 |str (x:Str):JF K H (.str x) (.type "str")
 |flt (x:UInt64):JF K H (.flt x) (.type "float")
 |lst {a:KM} {xs:List V} (e:H a=some (.lst xs)):JF K H (.ref a) (.type "list")
 |frz {a:KM} {o:Obj} {xs:List V} (e:H a=some (.frz o (.lst xs))):JF K H (.ref a) (.type "list")
 |tup {a:KM} {xs:List V} (e:H a=some (.tup xs)):JF K H (.ref a) (.type "tuple")
 |dK {a:KM} {bt:List (Key×V)} (e:H a=some (.dK bt)):JF K H (.ref a) (.type "dict")
 |dT {a:KM} {bt:List (List Key×V)} (e:H a=some (.dT bt)):JF K H (.ref a) (.type "dict")
 |ins {a C dx:KM} {fs:List (Str×V)} (e:H a=some (.ins C dx fs)) (cl:JT K C) (ha:PySem.W.findIn K (.ref C) "__class__" = some (some (.builtin "object.__class__")))
   (hn:PySem.W.specialIn K (.builtin "object.__class__") "__get__" = some (some (.builtin "getset_descriptor.__get__"))) (htk:PySem.W.takesIn K (.builtin "object.__class__")=some true)
   (hm:PySem.W.mroIn K C (.type "object")=some true):JF K H (.ref a) (.ref C)
def wK(I:Inv X pins O H s)(d:RelV x u)(r:JF X.K H x t)(e:PySem.W.kitOne X.K t c=Z b)(h:∀v,Q (.bool b) { s with toks:=v }) :
  PP (KB X.prog X.w) A (call (.builtin "isinstance") [u,c]) Q E s:=by
 cases r with
 |non=>cases (d);exact YC PySem.W.kitx_none I.JO True.intro e (λz=>nomatch z) h
 |bl y=>cases (d);exact YC PySem.W.kitx_bool I.JO True.intro e (λz=>nomatch z) h
 |int i=>obtain⟨t,q⟩:=(d);cases q;exact YC PySem.W.kitx_int I.JO True.intro e (λz=>nomatch z) h
 |str y=>obtain⟨t,q⟩:=(d);cases q;exact YC PySem.W.kitx_str I.JO True.intro e (λz=>nomatch z) h
 |flt y=>obtain⟨t,q⟩:=(d);cases q;exact YC PySem.W.kitx_float I.JO True.intro e (λz=>nomatch z) h
 |@lst a l f =>
  cases (d);obtain⟨_,_,n,_,g⟩:=(I.xt a _ f)
  exact YC PySem.W.kitx_list I.JO ⟨_,g,rfl⟩ e (λz=>nomatch z) h
 |@frz a Y l f =>
  cases (d);obtain⟨_,_,_,n,_,g⟩:=(I.xt a _ f)
  exact YC PySem.W.kitx_list I.JO ⟨_,g,rfl⟩ e (λz=>nomatch z) h
 |@tup a l f =>
  cases (d);obtain⟨_,_,_,_,p⟩:=(I.xt a _ f)
  obtain⟨o,g,j,_⟩:=p;exact YC PySem.W.kitx_tuple I.JO ⟨o,g,j⟩ e (λz=>nomatch z) h
 |@dK a P f =>
  cases (d);obtain⟨_,_,S,_,p⟩:=(I.xt a _ f)
  obtain⟨o,M,N,g,j,_⟩:=p;exact YC PySem.W.kitx_dict I.JO ⟨o,g,j.1⟩ e (λz=>nomatch z) h
 |@dT a P f =>
  cases (d);obtain⟨_,_,l,_,o,M,N,g,j,_⟩:=(I.xt a _ f)
  exact YC PySem.W.kitx_dict I.JO ⟨o,g,j.1⟩ e (λz=>nomatch z) h
 |@ins a C dx fs f cl G D m F =>
  cases (d);obtain⟨mA,R,_⟩:=mF I.xt f;obtain⟨U,J,_⟩:=R.look;exact YC (PySem.W.kitx_own (cl.get _) cl.hd G D m F) I.JO J e (λz=>nomatch z) h
end
structure xh(k:Nat)(A:SB):Prop where
 hd:A.handled=none
 dp:A.depth+3*k+5<recursionLimit
 un:A.units+16*k+200<cLine
def xh.mono{k:Nat}(r:xh k A)(h:j<=k):xh j A:=⟨r.hd,by have:=r.dp;lia,by have:=r.un;lia⟩
theorem xh.deeper(r:xh (k+1) A)(a:Env):xh k (A.deeper a) :=
 ⟨r.hd,by have:=r.dp;show A.depth+1+3*k+5<_;lia,by have:=r.un;show A.units+3+16*k+200<_;lia⟩
theorem xh.in1(r:xh (k+1) A):xh k A.in1 :=
 ⟨r.hd,by have:=r.dp;lia,by have:=r.un;lia⟩
def ur{A:SB}:(A.under (.builtin "type.__call__" ⟨.ref C :: a,b⟩)).depth=A.depth+1:=by
 first | rfl | simp[Around.under,Code.weight,Code.isCreation,Code.isGuard,Code.isCaller,Code.frames,Code.isFrame,guardIds]
def uz{A:SB}:(A.under (.builtin "type.__call__" ⟨.ref C :: a,b⟩)).units=A.units+1:=by
 first | rfl | simp[Around.under,Code.cUnits,Code.frames,Code.isFrame]
def xh.make(r:xh (k+1) A)(C:KM)(a:W7)(b:List (Str×On)):xh k (A.under (.builtin "type.__call__" ⟨.ref C :: a,b⟩)) :=
 ⟨r.hd,by have:=r.dp;rw[ur];lia,by have:=r.un;rw[uz];lia⟩
theorem xh.depth(r:xh k A):A.depth<recursionLimit:=by have:=r.dp;lia
theorem xh.units(r:xh k A):A.units+64<cLine:=by have:=r.un;lia
noncomputable def Cm:TA:=λ_ H Q=>Q [] H
noncomputable def Dd(ta:TE)(b:TA):TA:=λO H Q=>ta O H λx e=>b O e λa d=>Q (x :: a) d
section
def gE:PA X [] Cm:=λ_ _ _ _ H Q I h=>Calls.spliced_nil ⟨[],H,I,.nil,h⟩
def dU(m:PE X e te)(l:PA X es t)(j:{`q2,K1 e es X}):PA X (e :: es) (Dd te t):=by
 intro pos a s O H Q I h;rw[j];refine Calls.spliced_cons (thn (m a s O H _ I h) λu f b=>?_);obtain⟨x,q,o,r1,i⟩:=b;refine thn (l pos a f O q _ o i) λr v b=>?_;obtain⟨d,p,n,r2,g⟩:=b;exact⟨x :: d,p,n,.cons r1 r2,g⟩
def Ib(t:TA):TE:=λO H Q=>t O H λa b=>a.length<=KF/\∀p,b p=J->Q (.ref p) (upd b p (.tup a))
def Hy(t:TA):TE:=λO H Q=>t O H λa b=>a.length<=KF/\∀p,b p=J->Q (.ref p) (upd b p (.lst a))
def D7{x1}(h:PA X es t):PE X (.Tuple es x1 pos) (Ib t):=by
 intro a s O H Q I j;refine wpAny_Tuple_spliced (thn (h pos a s O H _ I j) λi d ⟨g,l,f,r,z,q⟩=>⟨by rw[← r.length];exact z,?_⟩);refine⟨.ref d.heap.objs.size,upd l d.heap.objs.size (.tup g),f.laid (λb u e=>Za _ e) (Zn _) ?_,rfl,q _ (f.xt.fresh (Zn _))⟩;exact⟨z,i,r,NT.of (ZD _ Y) Y,⟨_,ZD _ Y,rfl,_,rfl⟩⟩
def p6(h:PA X es t):PE X (.List es pos) (Hy t):=by
 intro a s O H Q I j;refine wpAny_List_spliced (thn (h pos a s O H _ I j) λi d ⟨g,l,f,r,z,q⟩=>⟨by rw[← r.length];exact z,?_⟩);refine⟨.ref d.heap.objs.size,upd l d.heap.objs.size (.lst g),f.laid (λb u e=>Za _ e) (Zn _) ?_,rfl,q _ (f.xt.fresh (Zn _))⟩;exact⟨z,i,0,r,ZD _ Y⟩
end
abbrev Sp:=List V->Hp->VK->XK->Prop
abbrev Mz:=List Env->Hp->IR->XK->Z9
structure Env0(P:Re)(w:XAA)(K:Ww)(mg:Wp)(base:UV)(A:SB)(outer:List Env)(s:IR)(H:Hp):Prop where
 frames:A.frames=some outer
 mod:Mod K mg base
 tb:∀b q,Tb base b q->H b=some (.tbl q)
 bs:∀b o,base.get? b=some o->s.heap.get? b=some o/\H b=none
 Nt:base.objs.size<=s.heap.objs.size
 JS:s.heap.FunFrames base outer
 Oi:∀b∈JJ outer,H b=none
 xt:Jm P w H s.heap
 bare:AllBare s.gens
def CE(a:List Env)(P:Re)(w:XAA)(H:Hp)(s:IR)(Q:VK)(u:On)(b:IR):Prop :=
 ∃v d,b.os=s.os/\AllBare b.gens/\Un (JJ a) [] H d s.heap b.heap/\Jm P w d b.heap/\RelV v u/\Q v d
def CR(d:Mz)(a:List Env)(P:Re)(w:XAA)(H:Hp)(s:IR)(Q:VK)(E:XK)(r:Result)(b:IR):Prop :=
 match r with
 |.ok (.ret u)=>CE a P w H s Q u b
 |.ok _=>False
 |.error e=>d a H s E e b
structure FnOk(P:Re)(w:XAA)(K:Ww)(mg:Wp)(base:UV)(CX:Mz)(k:Nat)(f:KM)(fd:P3)(ps:List Str)(sp:Sp):Prop where
 len:∀vs H Q E,sp vs H Q E->vs.length=ps.length
 run:∀(A:SB)(outer:List Env)(s:IR)(H:Hp)(args:Args)(us:W7)(vs:List V)(Q:VK)(E:XK),xh k A->Env0 P w K mg base A outer s H->BindsTo s fd args (ps.zip us)->aM vs us->sp vs H Q E →
  codeAny (KB P w) A (.call (.ref f) args) (CR CX outer P w H s Q E) s
def FnOk.imp{K:Ww}(F:FnOk P w K g a l k f i e d)(h:∀b H Q E,j b H Q E->d b H Q E):FnOk P w K g a l k f i e j :=
 ⟨λb H Q E q=>F.len b H Q E (h _ _ _ _ q),λA outer s H args m b Q E p he hb n o=>F.run A outer s H args m b Q E p he hb n (h _ _ _ _ o)⟩
def Env0.make{K:Ww}(e:Env0 P w K d b A a s H)(C:KM)(f:W7)(g:List (Str×On)) :
  Env0 P w K d b (A.under (.builtin "type.__call__" ⟨.ref C :: f,g⟩)) a s H:=⟨by first | exact e.frames | (simpa[Around.under,Code.envs,Code.isFrame,pushEnvs] using e.frames),e.mod,e.tb,e.bs,e.Nt,e.JS,e.Oi,e.xt,e.bare⟩
section
variable{H:Hp}
def Inv.J6(I:Inv X pins O H s):Env0 X.prog X.w X.K X.mg X.base X.A X.stack s H :=
 ⟨I.ok.frames,I.ok.mod,I.tb,I.bs,ZU I.ok.Nt I.sz,I.stack,I.LY,I.xt,I.bare⟩
def Inv.after{Q:VK}(I:Inv X pins O H s)(h:CE X.stack X.prog X.w H s Q u s'):EP X pins O Q u s':=by
 obtain⟨v,f,os,bare,un,xt,r,q⟩:=h;obtain⟨e,g,d,t,a⟩:=s';obtain rfl:a=s.os:=os;exact⟨v,f,I.call (h':=e) (g':=g) (d':=d) (t':=t) (ch:=[]) un xt bare (λb z=>absurd z (by simp)),r,q⟩
end
noncomputable def C9(b:Sp)(d:List V)(E:XK)(t:TA):TE:=λO H Q=>t O H λa e=>b (a++d) e Q E
def vA(C:KM)(m:Str)(e:Sp)(g:List V)(E:XK)(ta:TE)(t:TA):TE:=λO H Q=>ta O H λx b=>∃a f fs,x=.ref a/\b a=Z (.ins C f fs)/\fs.lookup m=J ∧
 t O b λd h=>e (x :: (d++g)) h Q E
def yV(C:KM)(e:Sp)(f:List V)(E:XK)(t:TA):TE:=λO H Q=>t O H λd b=>∀x a,b x=J->b a=J->a≠x →
 e (.ref x :: (d++f)) (upd (upd b a (.own x)) x (.ins C a [])) (λv g=>v=.non/\Q (.ref x) g) E
def Binds(K:Ww)(d:P3)(b:List Str)(ds:W7):Prop :=
 ∀(s:IR)(a:W7),K.In s.heap->(a++ds).length=b.length->BindsTo s d ⟨a,[]⟩ (b.zip (a++ds))
def Binds.all{K:Ww}{b:List Str}(h:∀a:W7,a.length=b.length->bindArgs e ⟨a,[]⟩=pure (b.zip a)):Binds K e b []:=λs a _ d=>by
 rw[ZV]at d ⊢;exact .of_eq (h a d)
def ja(d:Mz)(X:Cx)(E:XK):Prop:=∀(a:Xi)(O:St)(H:Hp)(s:IR)(e:On)(b:IR),Inv X a O H s->d X.stack H s E e b->X.xe e b
section
def uf{X:Cx}{vs:List V}(F:FnOk X.prog X.w X.K X.mg X.base CX k f fd ps sp)(j:xh k X.A)(n:Binds X.K fd ps ds)(l:aM Kb ds)(i:ja CX X E)(I:Inv X a O H s)(r:aM vs b)(h:sp (vs++Kb) H Q E):PP (KB X.prog X.w) X.A (call (.ref f) b) (EP X a O Q) X.xe s:=by
 have r2:=r.append l;refine wpAny_call (VY (F.run X.A X.stack s H ⟨b,[]⟩ (b++ds) (vs++Kb) Q E j I.J6 (n s b I.JO (by rw[← r2.length];exact F.len _ _ _ _ h)) r2 h) λr g d=>?_);cases r with
 |error e=>exact i a O H s e g I d
 |ok q =>
  cases q with
  |ret u=>exact I.after d
  |next=>exact False.elim d
  |brk=>exact False.elim d
  |cont=>exact False.elim d
def Cw{X:Cx}(F:FnOk X.prog X.w X.K X.mg X.base CX k f fd ps sp)(i:xh k X.A)(n:Gl X x)(j:X.mg x=Z (.ref f))(l:PySem.W.keepIn X.K (.ref f)=B)(v:Binds X.K fd ps ds)(u:aM Kb ds)(g:ja CX X E)(y:PA X (e :: es) t)(z:{`q1,K3 x})(he:{`q2,K1 e es X})(b:{`q2,K2 pos es X}) :
  PE X (.Call (.Name x p) (e :: es) [] pos) (C9 sp Kb E t):=by
 intro a s O H Q I h;refine X6 (mE I n j ?_ z);refine VM I.ok.mod.Qy l (thn (y pos a s O H _ I h) λG M ⟨D,N,d,r,q⟩=>⟨d.JO,?_⟩) he b;exact uf F i v u g d r q
def pO(he:PE X o ta)(c:JT X.K C)(i:Meth X.K C m f)(F:FnOk X.prog X.w X.K X.mg X.base CX k f fd ps sp)(M:xh k X.A)(P:Binds X.K fd ps ds)(N:aM Kb ds)(D:ja CX X E)(R:PA X (e :: es) t)(KJ:{`q2,K1 e es X})(d:{`q2,K2 pos es X})(G:{`q2,eval (.Call (.Attribute o m apos) (e :: es) [] pos) X.env=(do
   let g ← eval o X.env
   standAt apos.atName
   let (f,first) ← holding [g] (getMethod g m pl)
   callWith pos f first (backTo pos (Pv (e :: es) X.env)) (backToKw pos (SL [] X.env)))}) :
  PE X (.Call (.Attribute o m apos) (e :: es) [] pos) (vA C m sp Kb E ta t):=by
 intro b s O H Q I h;refine PySem.W.methodCall_KW (pl:=pl) (thn (he b s O H _ I h) λu v S=>?_) G;obtain⟨x,H1,n,y,a,dx,fs,ex,U,l,q⟩:=S;subst ex;obtain rfl:u=Value.ref a:=y;refine nt n U c i l ?_;refine VM I.ok.mod.Qy i.kp (thn (R pos b v O H1 _ n q) λus s2 ⟨vs,H2,j,r,z⟩=>⟨j.JO,?_⟩) KJ d;exact uf (vs:=.ref a :: vs) F M P N D j (.cons Y r) z
def rE(he:PE X o ta)(c:JT X.K C)(i:Meth X.K C m f)(F:FnOk X.prog X.w X.K X.mg X.base CX k f fd ps sp)(v:xh k X.A)(z:Binds X.K fd ps ds)(y:aM Kb ds)(n:ja CX X E)(r:{`q2,eval (.Call (.Attribute o m apos) [] [] pos) X.env=(do
   let g ← eval o X.env
   standAt apos.atName
   let (f,first) ← holding [g] (getMethod g m pl)
   callWith pos f first (backTo pos (Pv [] X.env)) (backToKw pos (SL [] X.env)))}) :
  PE X (.Call (.Attribute o m apos) [] [] pos) (vA C m sp Kb E ta Cm):=by
 intro b s O H Q I h;refine PySem.W.methodCall_KW (pl:=pl) (thn (he b s O H _ I h) λu M D=>?_) r;obtain⟨x,P,d,j,a,N,fs,ex,G,l,q⟩:=D;subst ex;obtain rfl:u=Value.ref a:=j;refine nt d G c i l ?_;exact PySem.W.callWith_K0 d.JO i.kp (uf (vs:=[.ref a]) F v z y n d (.cons Y .nil) q)
structure Mk(K:Ww)(C f:KM):Prop where
 makes:PySem.W.makesIn K C=true
 init:PySem.W.findIn K (.ref C) "__init__" = some (some (.ref f))
 fn:PySem.W.isFn K (.ref f)=true
 kp:PySem.W.keepIn K (.ref C)=true
def qU{X:Cx}{us:W7}(M:Mk X.K C f)(F:FnOk X.prog X.w X.K X.mg X.base CX k f fd ps sp)(z:xh (k+1) X.A)(G:Binds X.K fd ps ds)(D:aM Kb ds)(y:ja CX X E)(I:Inv X a O H s)(r:aM i us)(h:∀x d,H x=J->H d=J->d≠x->sp (.ref x :: (i++Kb)) (upd (upd H d (.own x)) x (.ins C d [])) (λv R=>v=.non/\Q (.ref x) R) E) :
  PP (KB X.prog X.w) X.A (call (.ref C) us) (EP X a O Q) X.xe s:=by
 have j:=h (s.heap.objs.size+1) s.heap.objs.size (I.xt.fresh (Nat.le_succ _)) (I.xt.fresh (Zn _)) (ZR (Y0 _));have g:=Inv.made (C:=C) I;have r2:aM (V.ref (s.heap.objs.size+1) :: (i++Kb)) (Value.ref (s.heap.objs.size+1) :: (us++ds)):=.cons Y (r.append D);refine wpAny_call (zt (f:=f) I.JO M.makes M.init (beq_iff_eq.mp M.fn) (VY (F.run _ X.stack _ _ ⟨Value.ref (s.heap.objs.size+1) :: us,[]⟩ (Value.ref (s.heap.objs.size+1) :: (us++ds)) _ _ E (z.make C us [])
  (g.J6.make C us []) (G _ (Value.ref (s.heap.objs.size+1) :: us) g.JO (by
  have e:=r2.length;rw[F.len _ _ _ _ j]at e;exact e.symm)) r2 j) λr l b=>?_))
 cases r with
 |error e=>exact y a O _ _ e l g b
 |ok N =>
  cases N with
  |ret u =>
   obtain⟨v,S,P,n,ev,q⟩:=g.after b;subst ev;exact⟨n,⟨V.ref (s.heap.objs.size+1),S,P,rfl,q⟩⟩
  |next=>exact False.elim b
  |brk=>exact False.elim b
  |cont=>exact False.elim b
def AM{X:Cx}(M:Mk X.K C f)(F:FnOk X.prog X.w X.K X.mg X.base CX k f fd ps sp)(i:xh (k+1) X.A)(l:Gl X x)(j:X.mg x=Z (.ref C))(u:Binds X.K fd ps ds)(n:aM Kb ds)(g:ja CX X E)(v:PA X (e :: es) t)(y:{`q1,K3 x})(he:{`q2,K1 e es X})(b:{`q2,K2 pos es X}) :
  PE X (.Call (.Name x p) (e :: es) [] pos) (yV C sp Kb E t):=by
 intro a s O H Q I h;refine X6 (mE I l j ?_ y);refine VM I.ok.mod.Qy M.kp (thn (v pos a s O H _ I h) λD G ⟨z,N,d,r,q⟩=>⟨d.JO,?_⟩) he b;exact qU M F i u n g d r q
def yY{X:Cx}(M:Mk X.K C f)(F:FnOk X.prog X.w X.K X.mg X.base CX k f fd ps sp)(d:xh (k+1) X.A)(i:Gl X x)(g:X.mg x=Z (.ref C))(l:Binds X.K fd ps ds)(j:aM Kb ds)(b:ja CX X E)(n:{`q1,K3 x}):PE X (.Call (.Name x p) [] [] pos) (yV C sp Kb E Cm):=by
 intro a s O H Q I h;refine X6 (mE I i g ?_ n);exact PySem.W.callWith_K0 I.JO M.kp (qU (us:=[]) M F d l j b I .nil h)
end
def PK(X:Cx)(b:List Keyword)(t:TA):Prop :=
 ∀(pos:Pos)(a:Xi)(s:IR)(O:St)(H:Hp)(Q:List V->Hp->Prop),Inv X a O H s->t O H Q->PP (KB X.prog X.w) X.A (evalAll ((backToKw pos (SL b X.env)).map (·.2))) (AP X a O Q) X.xe s
section
def FD:PK X [] Cm:=λ_ _ _ _ H Q I h=>wpAny_evalAll_nil ⟨[],H,I,.nil,h⟩
def Be(l:PE X e te)(j:PK X RU t):PK X (⟨nm,e,S6⟩ :: RU) (Dd te t):=by
 intro pos a s O H Q I h;refine wpAny_evalAll_cons (Zx (thn (l a s O H _ I h) λu d ⟨x,v,q,r1,i⟩=>Zx (wpAny_standAt (Zm ?_))));exact thn (j pos a d O v _ q i) λw y ⟨b,r,n,r2,g⟩=>⟨x :: b,r,n,.cons r1 r2,g⟩
end
structure p0(N P:List Str)(sc:Scope):Prop where
 kind:sc.kind=.function
 co:sc.isCoroutine=false
 gen:sc.isGenerator=false
 nd:N.Nodup
 pre:N.take P.length=P
 par:∀x∈P,sc.names.lookup x=some .local\/sc.names.lookup x=some .cell
 OD:∀y∈sc.names,y.2 ≠ .free
theorem oW:∀{binds:List (Str×On)}{m:Wp},(∀v,(x,v)∉binds)->bindL a binds m x=m x
 |[],_,_=>rfl
 | (n,v) :: r,m,h=>by
  unfold bindL;rw[oW λw hw=>h w (Zw _ hw)];split
  ·have:x≠n:=by rintro rfl;exact h v Zy
   simp[this]
  ·rfl
theorem o5:∀{binds:List (Str×On)}{m:Wp},(∀v,(x,v)∉binds)->bindC a binds m x=m x
 |[],_,_=>rfl
 | (n,v) :: r,m,h=>by
  unfold bindC;rw[o5 λw hw=>h w (Zw _ hw)];split
  ·rfl
  ·have:x≠n:=by rintro rfl;exact h v Zy
   simp[this]
theorem pb:∀{P:List Str}{b:W7}{i:Nat}{m:Wp},P.Nodup->P[i]?=Z x->b[i]?=Z v->a x=Z .local →
  bindL a (P.zip b) m x=Z v
 |[],_,_,_,_,h,_,_=>by simp at h
 |_ :: _,[],_,_,_,_,h,_=>by simp at h
 |p :: P,w :: b,0,m,nd,e,d,f=>by
  simp at e d;subst e;subst d;show bindL a ((p,w) :: P.zip b) m p=_;unfold bindL;rw[oW λv g=>(Zc.mp nd).1 (Vn g).1,Zr f];simp
 |p :: P,w :: b,i+1,m,nd,e,d,f=>by
  unfold bindL;exact pb (i:=i) (Zc.mp nd).2 (by simpa using e) (by simpa using d) f
theorem pB:∀{P:List Str}{b:W7}{i:Nat}{m:Wp},P.Nodup->P[i]?=Z x->b[i]?=Z v->a x≠Z .local →
  bindC a (P.zip b) m x=Z v
 |[],_,_,_,_,h,_,_=>by simp at h
 |_ :: _,[],_,_,_,_,h,_=>by simp at h
 |p :: P,w :: b,0,m,nd,e,d,f=>by
  simp at e d;subst e;subst d;show bindC a ((p,w) :: P.zip b) m p=_;unfold bindC;rw[o5 λv g=>(Zc.mp nd).1 (Vn g).1,Zq f];simp
 |p :: P,w :: b,i+1,m,nd,e,d,f=>by
  unfold bindC;exact pB (i:=i) (Zc.mp nd).2 (by simpa using e) (by simpa using d) f
noncomputable def start(N:List Str)(a:List V):St:=a.map Z++List.replicate (N.length-a.length) J
def jP(j:Mz)(P:Re)(w:XAA)(K:Ww)(m:Wp)(h:UV)(N:List Str)(d:Str)(a:Scope)(f:KM)(g:On)(A:SB)(b:List Env)(s:IR)(H:Hp)(E:XK):Cx where
 prog:=P
 w:=w
 K:=K
 mg:=m
 base:=h
 A:=A.deeper (envOfC d a s.heap.objs.size f g)
 N:=N
 s₀:=s
 H₀:=H
 env:=envOfC d a s.heap.objs.size f g
 outer:=b
 stack:=envOfC d a s.heap.objs.size f g :: b
 ex:=[]
 calm:=B
 fn:=λ_=>B
 pn:=[]
 xe:=λe l=>PP (KB P w) (A.deeper (envOfC d a s.heap.objs.size f g)) (leaving (envOfC d a s.heap.objs.size f g) e) (λ_ i=>j b H s E e i) (λn i=>j b H s E n i) l
def qW{a:Scope}(h:a.names.lookup x=Z .cell):∃c,(cellsFrom n a.names []).lookup x=Z c:=by
 exact YW.mp (PySem.W.cellsFrom_some a.names n [] (.inl h))
def wV{K:Ww}{A:SB}{C:List V}(S:p0 N o d)(hd:A.handled=J)(m:Env0 P w K R n A g s H)(hl:C.length=o.length)(r:aM C Q)(x:InCallC s s.heap.objs.size (bindL (envOfC j d s.heap.objs.size f O).kindOf (o.zip Q) λ_=>J) (cellsFrom (s.heap.objs.size+1) d.names []) (bindC (envOfC j d s.heap.objs.size f O).kindOf (o.zip Q) λ_=>J) X) :
  Inv (jP CX P w K R n N j d f O A g s H E) [] (start N C) H X:=by
 have hpl:o.length<=N.length:=by have:=Z5 List.length S.pre;rw[Yp]at this;lia
 obtain⟨M,tk,rfl,hk⟩:=x.done;have U:∀b:KM,b∉(jP CX P w K R n N j d f O A g s H E).ex:=λb z=>absurd (show b∈([]) from z) (by simp);refine⟨⟨m.mod,S.kind,rfl,rfl,Zn _,λy z c M l=>?_,λy t=>?_,λy c _ h=>?_,λ_=>hd,Around.frames_deeper m.frames,.inr ⟨rfl,rfl⟩,λb z=>absurd z (U b),m.tb,m.bs,m.Nt,λb _ _=>U b,λb z=>absurd z (U b),m.JS,m.Oi⟩,
  rfl,m.bare,Un.kept hk,⟨_,x.toInCall.ns,λi y v M l h3=>?_⟩,λy c h=>⟨_,x.cell y c h⟩,m.xt.fresh (Zn _),λy c h=>?_,λp F=>absurd (show p∈([]) from F) (by simp),m.xt.kept hk,?_⟩
 ·exact name_of_addr x.apart (Wt M) (Wt l)
 ·have t:=t;rcases t with t | t
  ·exact qW t
  ·exact absurd Y (S.OD _ (Wt t))
 ·exact ZO (x.above y c (Wt h))
 ·have G:i<C.length:=by
   unfold start at l;by_cases G:i<C.length
   ·exact G
   ·rw[Yy (by simpa using G)]at l;rw[Xr]at l;split at l<;>cases l
  obtain⟨u,hu,rv⟩:=r.get (by
   unfold start at l;rw[Yw (by simpa using G),ZL]at l;cases e:C[i]? with
   |none=>rw[e]at l;cases l
   |some a=>rw[e]at l;cases l;rfl)
  have F:o[i]?=Z y:=by
   rw[← S.pre,List.getElem?_take_of_lt (by lia)];exact M
  have D:o.Nodup:=by rw[← S.pre];exact S.nd.sublist (List.take_sublist _ _)
  refine⟨u,rv,?_⟩;rcases S.par y (Yb F) with k | k
  ·exact .inl ⟨k,pb D F hu k⟩
  ·obtain⟨c,e⟩:=qW k;refine .inr ⟨.inl k,c,e,?_⟩;have q:=x.cell y c e;rw[pB D F hu (by show d.names.lookup y≠_;rw[k];decide)]at q;exact q
 ·exact m.xt.fresh (ZO (x.above y c (Wt h)))
 ·unfold start;show _=N.length;rw[Zv,Zu,X0];lia
def C7{CX:Mz}{P:Re}{w:XAA}{K:Ww}{U:Wp}{i:UV}{k:Nat}{f:KM}{l d:Str}{g:Arguments}{h:List Stmt}{a:Scope}{dV kV D pm y ct oc:On}{an od:Option KM}{MD:Array (Ut)}{N R:List Str}{G:Sp}(lk:K.lookup f=Z ⟨oc,od,.func (PySem.W.fnOf l d g h a dV kV D pm an y ct),MD⟩)(hcd:PySem.W.codeIn K y d=B)(S:p0 N R a)(z:∀j H Q E,G j H Q E->j.length=R.length)(Le:∀(A:SB)(outer:List Env)(s:IR)(H:Hp)(j:List V)(Q:VK)(E:XK),xh k (A.deeper (envOfC d a s.heap.objs.size f y))->G j H Q E →
   ∃t,Kc (jP CX P w K U i N d a f y A outer s H E) h t/\t { nx:=λ_ m=>Q .non m,rt:=Q } (start N j) H) :
  FnOk P w K U i CX (k+1) f (PySem.W.fnOf l d g h a dV kV D pm an y ct) R G:=by
 refine⟨z,λA outer s H args us j Q E X C hb r MF=>?_⟩;have hl:=z _ _ _ _ MF;have KX:=C.mod.Qy.keeps λb o e=>(C.bs b o e).1;refine codeAny_call_function X.depth (KX _ _ lk) Y S.co S.gen Y (PySem.W.codeRec_of KX hcd) (hb _ _ _ _ ?_);refine wpAny_newFunctionEnv_cells S.kind (λ⟨n,v⟩ hy=>by
  rcases S.par n (Vn hy).1 with q | q
  ·exact .inl q
  ·exact .inr ⟨q,PySem.W.cellsFrom_some _ _ _ (.inl q)⟩) λenv he s1 x=>?_
 subst he;refine⟨(C.mod.nolimit.keeps λb o e=>(C.bs b o e).1).keeps x.toInCall.keep,codeAny_func ?_⟩;obtain⟨t,ht,hq⟩:=Le A outer s H j Q E (X.deeper _) MF;refine YD (ht [] s1 (start N j) H _ (wV S X.hd C hl r x) hq) (λfl M p=>?_) λe M p=>p;have fin:∀{F:St}{m:Hp}{v:V}{u:On},Inv (jP CX P w K U i N d a f y A outer s H E) [] F m M->RelV v u->Q v m->CE outer P w H s Q u M :=
  λ{F m v u} J O q=>⟨v,m,J.os,J.bare,J.base,J.xt,O,q⟩
 cases fl with
 |ret u =>
  obtain⟨v,F,m,J,O,q⟩:=p;exact fin J O q
 |next =>
  obtain⟨F,m,J,q⟩:=p;exact fin (v:=V.non) J Y q
 |brk =>
  obtain⟨_,_,_,q⟩:=p;exact False.elim q
 |cont =>
  obtain⟨_,_,_,q⟩:=p;exact False.elim q
section
noncomputable def U6(r:List V->Hp->VK->Prop)(t:TA):TE:=λO H Q=>t O H λa b=>r a b Q
def sS{X:Cx}{x:Str}{p pos:Pos}{es:List Expr}{t:TA}{id:String}{r:List V->Hp->VK->Prop}(o:dD X (.builtin id) r)(n:Gl X x)(m:X.mg x=J)(j:bootBuiltins x=Z (.builtin id))(q:PA X (e :: es) t)(l:{`q1,x ≠ "__name__"})(u:{`q1,K3 x})(he:{`q2,K1 e es X})(b:{`q2,K2 pos es X}):PE X (.Call (.Name x p) (e :: es) [] pos) (U6 r t):=by
 intro a s O H Q I h;refine X6 (lr I n m j ?_ l u);exact PyProof.Rows.callWith_builtin1 (thn (q pos a s O H _ I h) λf g ⟨d,w,v,r1,i⟩=>o a g O w d f Q v r1 i) he b
def wC(o:dD X (.type T) r)(n:Gl X x)(m:X.mg x=J)(j:bootBuiltins x=Z (.type T))(q:PA X (e :: es) t)(l:{`q1,x ≠ "__name__"})(u:{`q1,K3 x})(he:{`q2,K1 e es X})(b:{`q2,K2 pos es X}):PE X (.Call (.Name x p) (e :: es) [] pos) (U6 r t):=by
 intro a s O H Q I h;refine X6 (lr I n m j ?_ l u);exact WI (thn (q pos a s O H _ I h) λf g ⟨d,w,v,r1,i⟩=>o a g O w d f Q v r1 i) he b
end
end L2
namespace HT
open PySem PyProof.Rows
section
noncomputable def Je(n d:Nat):Option Int->Nat
 |none=>d
 |some v=>if v<0 then (v+(n:Int)).toNat else min v.toNat n
end
end HT
namespace L2
open PySem PySem.Spec PyProof.Rows
abbrev TO:=St->Hp->(Option Int->Hp->Prop)->Prop
def PO(X:Cx)(e:Option Expr)(t:TO):Prop :=
 ∀(a:Xi)(s:IR)(O:St)(H:Hp)(Q:Option Int->Hp->Prop),Inv X a O H s->t O H Q →
  PP (KB X.prog X.w) X.A (evalPart e X.env) (λu d=>∃o b,Inv X a O b d/\IsPart u o/\Q o b) X.xe s
noncomputable def Bg:TO:=λ_ H Q=>Q J H
noncomputable def G8(t:TE):TO:=λO H Q=>t O H λx a=>∃i,x=.int i/\Q (Z i) a
section
variable{lo:Option Expr}
def Cn:PO X J Bg:=by
 intro a s O H Q I h;rw[evalPart_none];exact Zm ⟨J,H,I,.none,h⟩
def BC(h:PE X e te):PO X (Z e) (G8 te):=by
 intro a s O H Q I hw;rw[evalPart_some];refine thn (h a s O H _ I hw) λu j d=>?_;obtain⟨x,g,f,r1,b⟩:=d;obtain⟨i,rfl,q⟩:=b;obtain⟨t,rfl⟩:=r1;exact⟨Z i,g,f,.int i t,q⟩
def Om(X:Cx)(r:V->Option Int->Option Int->Hp->VK->Prop):Prop :=
 ∀(a:Xi)(s:IR)(O:St)(H:Hp)(x:V)(v d b:On)(lo hi:Option Int)(f:KM)(Q:VK),Inv X a O H s->RelV x v->s.heap.IsSliceOf f d b .none->IsPart d lo->IsPart b hi->r x lo hi H Q →
  ∃T id,typeLookup (.type T) "__getitem__" = pure (Z (.builtin id))/\s.TypeIs v T/\PP (KB X.prog X.w) X.A (getItem v (.ref f)) (EP X a O Q) X.xe s
def Om.or(h:Om X r)(m:Om X i):Om X (λx lo hi H Q=>r x lo hi H Q\/i x lo hi H Q):=by
 intro a s O H x v d b lo hi f Q I g l j pu q;rcases q with q | q
 ·exact h a s O H x v d b lo hi f Q I g l j pu q
 ·exact m a s O H x v d b lo hi f Q I g l j pu q
noncomputable def tSl(r:V->Option Int->Option Int->Hp->VK->Prop)(d:TE)(a b:TO):TE:=λO H Q=>d O H λx h=>a O h λl g=>b O g λu f=>r x l u f Q
def za(z:Om X r)(he:PE X e te)(A:PO X lo tl)(w:PO X hi th):PE X (.Subscript e (.Slice lo hi J p2) pos) (tSl r te tl th):=by
 intro a s O H Q I h;refine Subscript_ (thn (he a s O H _ I h) λv m f=>?_);obtain⟨x,N,F,r1,p⟩:=f;refine wpAny_Slice (thn (A a m O N _ F p) λi j ⟨l,M,E,t,o⟩=>thn (w a j O M _ E o) λg d f=>?_);obtain⟨u,G,D,pu,n⟩:=f;rw[evalPart_none];refine Zm ?_;obtain⟨T,id,C,y,hg⟩:=z a { d with heap:=d.heap.push { cls:=.type "slice",data:=.fields #[i,g,.none] } } O G x v i g l u d.heap.objs.size Q (D.kept (t':=d.toks) λb P q=>Za _ q) r1 (Heap.IsSliceOf.new ..) t pu n;exact tail_any y C hg (by with_unfolding_all rfl)
def zK(a:List V)(b d:Option Int):List V:=(a.drop (HT.Je a.length 0 b)).take (HT.Je a.length a.length d-HT.Je a.length 0 b)
def qR(a:List V)(b d:Option Int):(zK a b d).length<=a.length:=by
 unfold zK;rw[Yp,Z4];lia
end
noncomputable def OI(n:Nat)(i:Int):Option Nat:=if 0<=i then (if i<n then Z i.toNat else J) else if -(n:Int)<=i then Z (i+n).toNat else J
def Pd{α:Type}(a:List α)(i:Int):Option α:=(OI a.length i).bind λj=>a[j]?
def vK{i:Int}(h:OI n i=Z j):seqIndex? i n=Z j/\j<n/\-(n:Int)<=i/\i<n:=by
 unfold OI at h;by_cases b:0<=i
 ·rw[Zr b]at h;by_cases a:i<n
  ·rw[Zr a]at h;exact⟨by rw[seqIndex_of b a,(Zg h)],by lia,by lia,a⟩
  ·rw[Zq a]at h;cases h
 ·rw[Zq b]at h;by_cases a:-(n:Int)<=i
  ·rw[Zr a]at h;exact⟨by rw[seqIndex_neg (by lia) a,(Zg h)],by lia,a,by lia⟩
  ·rw[Zq a]at h;cases h
def pM{α:Type}{a:List α}{i:Int}{v:α}(h:Pd a i=Z v):∃j,seqIndex? i a.length=Z j/\a[j]?=Z v/\j<a.length/\-(a.length:Int)<=i/\i<a.length:=by
 unfold Pd at h;cases e:OI a.length i with
 |none=>rw[e]at h;cases h
 |some j =>
  rw[e]at h;obtain⟨g,f,d,b⟩:=vK e;exact⟨j,g,h,f,d,b⟩
noncomputable def jt(b:Expr):Prop:=∀o i,subscripted b L o i=operate [o,i] (getItem o i)
def Mh(X:Cx)(r:Ja):Prop :=
 ∀(value slice:Expr)(a:Xi)(s:IR)(O:St)(H:Hp)(x y:V)(v u:On)(Q:VK),Inv X a O H s->RelV x v->RelV y u->r x y H Q →
  subscripted slice L v u=operate [v,u] (getItem v u)->PP (KB X.prog X.w) X.A (subscriptTail value slice v u) (EP X a O Q) X.xe s
def NU(X:Cx)(e:String)(r:V->List V->Hp->VK->Prop):Prop :=
 ∀(a:Xi)(s:IR)(O:St)(H:Hp)(x:V)(b:List V)(v:On)(d:W7)(Q:VK),Inv X a O H s->RelV x v->aM b d->r x b H Q →
  PP (KB X.prog X.w) X.A (call (.builtin e) (v :: d)) (EP X a O Q) X.xe s
section
def Mh.or(h:Mh X r)(j:Mh X g):Mh X (λx y H Q=>r x y H Q\/g x y H Q):=by
 intro value slice d s O H x y v u Q I f e q i;rcases q with q | q
 ·exact h value slice d s O H x y v u Q I f e q i
 ·exact j value slice d s O H x y v u Q I f e q i
def tD(j:Mh X r)(m:PE X a ta)(l:PE X b tb)(i:jt b):PE X (.Subscript a b pos) (P7 r ta tb):=by
 intro d s O H Q I h;exact Subscript_ (Fo m l I h λv u e x y o n g f q=>j a b d e O o x y v u Q n g f q (i _ _))
def FF(K:Ww):Ja:=λx y H Q=>∃p d i v,x=.ref p/\y=.int i/\Iv K H p d/\Pd d i=Z v/\Q v H
def Gm(K:Ww):Ja:=λx y H Q=>∃p d i v,x=.ref p/\y=.int i/\Jy K H p d/\Pd d i=Z v/\Q v H
def Gh:Ja:=λx y H Q=>∃z i c,x=.str z/\y=.int i/\z.length<=KF/\Pd z.cps.toList i=Z c/\Q (.str ⟨#[c]⟩) H
def AS:Mh X (FF X.K):=by
 intro value slice d s O H x y v u Q I C A h l;refine L2.ai λP_ D=>?_;obtain⟨p,R,i,z,rfl,rfl,E,he,q⟩:=h;cases C;obtain⟨t,rfl⟩:=A;obtain⟨o,r,f,S⟩:=I.list E;obtain⟨j,e,N,Y,M,G⟩:=pM he;obtain⟨w,n,P⟩:=r.get N;refine D ?_;have F:=r.length;have U:=qw;have fin:EP X d O Q w s:=⟨z,H,I,P,q⟩
 by_cases m:0<=i
 ·have g:i.toNat=j:=by
   rw[seqIndex_of m G]at e;exact Zg e
  exact item_listR f.isList m (by lia) (by rw[g];simpa using n) fin l
 ·have g:(i+(o.toArray.size:Int)).toNat=j:=by
   rw[seqIndex_neg (by lia) M]at e;rw[ZP,← F];exact Zg e
  exact subscriptTail_builtinR (x:=w) f.isList.typeIs slot_list_getitem.lookup
   (wpAny_getItem_list_neg f.isList (by lia) (by rw[ZP]<;>lia) (by lia) (by rw[g];simpa using n) ⟨rfl,fin⟩) l
def EU:Mh X (Gm X.K):=by
 intro value slice e s O H x y v u Q I g f h m;refine L2.ai λS l=>?_;obtain⟨p,E,i,z,rfl,rfl,n,he,q⟩:=h;cases g;obtain⟨t,rfl⟩:=f;obtain⟨F,r,d,G⟩:=I.tuple n;obtain⟨j,A,o,R,P,N⟩:=pM he;obtain⟨w,C,D⟩:=r.get o;refine l ?_;have M:=qw;exact subscriptTail_builtinR (x:=w) d.typeIs slot_tuple_getitem.lookup
  (getItem_tuple (j:=j) d (by lia) (by lia) (by rw[ZP,← r.length];exact A) (by simpa using C) ⟨rfl,(⟨z,H,I,D,q⟩)⟩) m
def Di:Mh X Gh:=by
 intro value slice d s O H x y v u Q I g f h l;obtain⟨z,i,c,rfl,rfl,w,he,q⟩:=h;obtain⟨t,rfl⟩:=g;obtain⟨r,rfl⟩:=f;obtain⟨j,e,p,C,o,n⟩:=pM he;have m:z.cps.toList.length=z.length:=by simp[Str.length]
 rw[m]at e o n;have A:=qw;exact tail_any (typeIs_str s z t) slot_str_getitem.lookup (getItem_str (c:=c) (by
  rw[(ZK (by lia)),(ZK (by lia)),Bool.or_false]) (by rw[e];simpa using p) ⟨.str ⟨#[c]⟩,H,I.tok _,⟨_,rfl⟩,q⟩) l
def Sv(K:Ww):Ja:=λx y H Q=>FF K x y H Q\/Gm K x y H Q\/Gh x y H Q
def qK:Mh X (Sv X.K):=AS.or (EU.or Di)
def uk(d:W7)(n j:Nat)(u:On):Obj.mapSeq (·.setIfInBounds j u) { cls:=.type "list",data:=.seq d.toArray n }={ cls:=.type "list",data:=.seq (d.set j u).toArray n }:=by
 simp[Obj.mapSeq]
theorem Inv.lst{H:Hp}(I:Inv X d O H s)(h:H p=Z (.lst g)) :
  ∃(f:W7)(n:Nat),aM g f/\s.heap.get? p=Z { cls:=.type "list",data:=.seq f.toArray n }/\g.length<=sizeLine:=by
 obtain⟨z,f,n,r,e⟩:=I.xt p _ h;exact⟨f,n,r,e,z⟩
def Inv.OF{l g:W7}(I:Inv X d O H s)(h:H p=Z (.lst o))(w:s.heap.get? p=Z { cls:=.type "list",data:=.seq l.toArray n })(m:f { cls:=.type "list",data:=.seq l.toArray n }={ cls:=.type "list",data:=.seq g.toArray j })(r:aM i g)(v:i.length<=KF)(t:Nat) :
  Inv X d O (upd H p (.lst i)) { s with heap:=s.heap.update p f,toks:=t }:=by
 have e:(s.heap.update p f).get? p=Z { cls:=.type "list",data:=.seq g.toArray j }:=by
  rw[VH f w (by rw[m]<;>rfl),m]
 refine I.write (x:=p) (e:=p) (by rw[h];trivial) (.inl Y) (λb u hb q=>(WU _ _ (YN hb)).trans q) ⟨_,e⟩ ?_;exact⟨v,g,j,r,e⟩
def CQ:V->V->V->Hp->(Hp->Prop)->Prop:=λo i v H Q=>∃p d k j,o=.ref p/\i=.int k/\H p=Z (.lst d)/\OI d.length k=Z j/\Q (upd H p (.lst (d.set j v)))
def set_list:FA X CQ:=by
 intro m s O H o i v P iv u Q I D E C h;refine L2.ai λU F=>?_;obtain⟨p,N,k,j,rfl,rfl,w,M,q⟩:=h;cases D;obtain⟨t,rfl⟩:=E;obtain⟨l,n,r,e,G⟩:=I.lst w;obtain⟨d,S,y,x⟩:=vK M;refine F ?_;have f:=r.length;have R:=qw;have A :=
  I.OF w e (uk l n j u) (r.set C j) (by rw[Ys];exact G) s.toks
 by_cases z:0<=k
 ·have g:k.toNat=j:=by
   rw[seqIndex_of z x]at d;exact Zg d
  exact PySem.W.ki_setAt e z (by lia) (by rw[ZP,← f];exact x) (by rw[g];exact⟨_,A,q⟩)
 ·have g:(k+(l.toArray.size:Int)).toNat=j:=by
   rw[seqIndex_neg (by lia) y]at d;rw[ZP,← f];exact Zg d
  exact PySem.W.ki_setBack e (by lia) (by rw[ZP,← f];exact y) (by lia) (by rw[g];exact⟨_,A,q⟩)
def MZ(a:Int)(n:Nat):max 0 (min a (n:Int))=((min a.toNat n:Nat):Int):=by
 cases a with
 |ofNat k =>
  show max 0 (min (k:Int) (n:Int))=((min k n:Nat):Int);rcases Nat.le_total k n with h | h
  ·rw[Int.min_eq_left (Int.ofNat_le.mpr h),Yd h];exact Int.max_eq_right (WC _)
  ·rw[Int.min_eq_right (Int.ofNat_le.mpr h),W9 h];exact Int.max_eq_right (WC _)
 |negSucc k =>
  rw[Int.min_eq_left (Int.le_trans (Int.le_of_lt (Int.negSucc_lt_zero k)) (WC n)),Int.max_eq_left (Int.le_of_lt (Int.negSucc_lt_zero k))];show (0:Int)=((min 0 n:Nat):Int);rw[Nat.zero_min];rfl
def qg(d e:Option Int)(n:Nat):(sliceBounds d e J n).1=((HT.Je n 0 d:Nat):Int)/\(sliceBounds d e J n).2.1=((HT.Je n n e:Nat):Int)/\(sliceBounds d e J n).2.2=1:=by
 refine⟨?_,?_,rfl⟩
 ·cases d with
  |none=>simp[sliceBounds,HT.Je]
  |some i =>
   simp only[sliceBounds,HT.Je,Option.getD_none,show (1:Int) > 0 by decide,if_true];by_cases h:i<0
   ·simp only[h,if_true];rw[MZ,Yd (by omega)]
   ·simp only[h,if_false];exact MZ i n
 ·cases e with
  |none=>simp[sliceBounds,HT.Je]
  |some i =>
   simp only[sliceBounds,HT.Je,Option.getD_none,show (1:Int) > 0 by decide,if_true];by_cases h:i<0
   ·simp only[h,if_true];rw[MZ,Yd (by omega)]
   ·simp only[h,if_false];exact MZ i n
def oH(d:W7)(e f:Option Int):slicePick d.toArray e f J=((d.drop (HT.Je d.length 0 e)).take (HT.Je d.length d.length f-HT.Je d.length 0 e)).toArray:=by
 obtain⟨i,h,g⟩:=qg e f d.toArray.size;unfold slicePick;rw[i,h,g];simp only[sliceRange_one,pick_run,ZP]<;>rfl
def Hr(K:Ww):V->Option Int->Option Int->Hp->VK->Prop:=λx lo e H Q=>∃a d,x=.ref a/\Iv K H a d/\∀p,H p=J->Q (.ref p) (upd H p (.lst (zK d lo e)))
def Ct:Om X (Hr X.K):=by
 intro e s O H x v t p lo g u Q I i n j pu h;obtain⟨a,d,rfl,m,q⟩:=h;cases i;obtain⟨o,r,f,l⟩:=I.list m;have hlen:=r.length;refine⟨"list",_,slot_list_getitem.lookup,f.isList.typeIs,?_⟩;refine wpAny_getItem_list_slice f.isList n j pu .none (by simp) ?_ (by rw[ZP]<;>lia);rw[oH,← hlen];refine⟨.ref s.heap.objs.size,_,I.laid (λb w q=>Za _ q) (Zn _) ?_,rfl,q _ (I.xt.fresh (Zn _))⟩;exact⟨ZU (qR d lo g) l,_,0,(r.drop (HT.Je d.length 0 lo)).take (HT.Je d.length d.length g-HT.Je d.length 0 lo),ZD _ Y⟩
noncomputable def fW:V->Bool
 |.non=>B
 |.bl _=>B
 |.int _=>B
 |.str _=>B
 |_=>L
noncomputable def Nr:V->V->Bool
 |.non,.non=>B
 |.bl a,.bl b=>a==b
 |.bl a,.int b=>(if a then 1 else 0)==b
 |.int a,.bl b=>a==(if b then 1 else 0)
 |.int a,.int b=>a==b
 |.str a,.str b=>a==b
 |_,_=>L
def DT(f:RelV y u)(d:RelV x v)(h:fW y=B)(g:fW x=B):SeqAt.EqAt A s u v (Nr y x):=by
 cases y with
 |non =>
  cases f;cases x with
  |non=>cases d;exact SeqAt.EqAt.same _
  |bl b=>cases d;exact SeqAt.EqAt.none_bool b
  |int b=>obtain⟨t,rfl⟩:=d;exact SeqAt.EqAt.none_int b t
  |str b=>obtain⟨t,rfl⟩:=d;exact SeqAt.EqAt.none_str b t
  |_=>exact absurd (g) Zf
 |bl a =>
  cases f;cases x with
  |non=>cases d;exact SeqAt.EqAt.bool_none a
  |bl b=>cases d;exact SeqAt.EqAt.bool_bool a b
  |int b=>obtain⟨t,rfl⟩:=d;exact SeqAt.EqAt.bool_int a b t
  |str b=>obtain⟨t,rfl⟩:=d;exact SeqAt.EqAt.bool_str a b t
  |_=>exact absurd (g) Zf
 |int a =>
  obtain⟨e,rfl⟩:=f;cases x with
  |non=>cases d;exact SeqAt.EqAt.int_none a e
  |bl b=>cases d;exact SeqAt.EqAt.int_bool a e b
  |int b=>obtain⟨t,rfl⟩:=d;exact SeqAt.EqAt.int_int a e b t
  |str b=>obtain⟨t,rfl⟩:=d;exact SeqAt.EqAt.int_str a e b t
  |_=>exact absurd (g) Zf
 |str a =>
  obtain⟨e,rfl⟩:=f;cases x with
  |non=>cases d;exact SeqAt.EqAt.str_none a e
  |bl b=>cases d;exact SeqAt.EqAt.str_bool a e b
  |int b=>obtain⟨t,rfl⟩:=d;exact SeqAt.EqAt.str_int a e b t
  |str b=>obtain⟨t,rfl⟩:=d;exact SeqAt.EqAt.str_str a e b t
  |_=>exact absurd (g) Zf
 |_=>exact absurd (h) Zf
def LR(x:V)(u:On):Bool:=match u with
 |.none=>Nr .non x
 |.bool b=>Nr (.bl b) x
 |.int i _=>Nr (.int i) x
 |.str z _=>Nr (.str z) x
 |_=>L
def yk(r:RelV y u)(f:fW y=B):LR x u=Nr y x:=by
 cases y with
 |non=>cases r;rfl
 |bl b=>cases r;rfl
 |int i=>obtain⟨t,rfl⟩:=r;rfl
 |str z=>obtain⟨t,rfl⟩:=r;rfl
 |_=>exact absurd (f) Zf
theorem kS:∀{d:List V}{e:W7},aM d e->d.all fW=B->e.any (LR x)=d.any λy=>Nr y x
 |_,_,.nil,_=>rfl
 |y :: d,u :: e,.cons r t,f=>by
  rw[W4,YI]at f;rw[Xz,Xz,yk r f.1,kS t f.2]
theorem i3(h:RelV x v)(i:fW x=B):∀{e:List V}{g:W7},aM e g->e.all fW=B->∀u∈g,SeqAt.EqAt A s u v (LR x u)
 |_,_,.nil,_=>λu d=>by cases d
 |y :: e,u :: g,.cons r t,f=>λj d=>by
  rw[W4,YI]at f;rcases Zh.mp d with rfl | d
  ·rw[yk r f.1];exact DT r h f.1 i
  ·exact i3 h i t f.2 j d
def QC(x:V)(d:List V):Bool:=d.any λy=>Nr y x
def RF(K:Ww)(e:Bool):Ja:=λx y H Q=>∃p d,y=.ref p/\(Iv K H p d\/Jy K H p d)/\fW x=B/\d.all fW=B/\Q (.bl (if e then !QC x d else QC x d)) H
def vS:OpR X (UF .In) (RF X.K L):=by
 intro i s O H x y v u Q I g l h;obtain⟨p,n,rfl,e,j,fs,q⟩:=h;cases l;rcases e with e | e
 ·obtain⟨d,r,f,m⟩:=I.list e;refine SeqAt.in_listAt (LR x) f.isList (λw hw=>i3 g j r fs w (by simpa using hw)) ⟨.bl _,H,I,rfl,?_⟩;rw[show d.toArray.any (LR x)=d.any (LR x) by simp,kS r fs];exact q
 ·obtain⟨d,r,f,m⟩:=I.tuple e;refine SeqAt.in_tupleAt (LR x) f (λw hw=>i3 g j r fs w (by simpa using hw)) ⟨.bl _,H,I,rfl,?_⟩;rw[show d.toArray.any (LR x)=d.any (LR x) by simp,kS r fs];exact q
def qN:OpR X (UF .NotIn) (RF X.K B):=by
 intro i s O H x y v u Q I g l h;obtain⟨p,n,rfl,e,j,fs,q⟩:=h;cases l;rcases e with e | e
 ·obtain⟨d,r,f,m⟩:=I.list e;refine SeqAt.notIn_listAt (LR x) f.isList (λw hw=>i3 g j r fs w (by simpa using hw)) ⟨.bl _,H,I,rfl,?_⟩;rw[show d.toArray.any (LR x)=d.any (LR x) by simp,kS r fs];exact q
 ·obtain⟨d,r,f,m⟩:=I.tuple e;refine SeqAt.notIn_tupleAt (LR x) f (λw hw=>i3 g j r fs w (by simpa using hw)) ⟨.bl _,H,I,rfl,?_⟩;rw[show d.toArray.any (LR x)=d.any (LR x) by simp,kS r fs];exact q
def dD.or(h:dD X f r)(l:dD X f j):dD X f (λe H Q=>r e H Q\/j e H Q):=by
 intro d s O H e g Q I i q;rcases q with q | q
 ·exact h d s O H e g Q I i q
 ·exact l d s O H e g Q I i q
def pY:dD X (.type "list") (λA H Q=>∃p g,A=[.ref p]/\(Iv X.K H p g\/Jy X.K H p g)/\∀l,H l=J->Q (.ref l) (upd H l (.lst g))):=by
 intro m s O H A E Q I r h;obtain⟨p,g,rfl,v,q⟩:=h;obtain⟨u,rfl,D⟩:=vals1 r;cases D;have fin:∀(f:W7),aM g f->g.length<=KF->∀(d:UV)(j:Nat),(∀b C,s.heap.get? b=Z C->d.get? b=Z C) →
   d.get? s.heap.objs.size=Z { cls:=.type "list",dict:=J,data:=.seq f.toArray j,slots:=#[] }->EP X m O Q (.ref s.heap.objs.size) { s with heap:=d }:=λf i t d j kp e =>
  ⟨.ref s.heap.objs.size,_,I.laid kp (Zn _) (show cU X.prog X.w _ d _ (.lst g) from⟨t,f,j,i,e⟩),rfl,q _ (I.xt.fresh (Zn _))⟩
 rcases v with v | v
 ·obtain⟨f,i,x,t⟩:=I.list v;have hlen:=i.length;obtain⟨o,y,z,n,hd⟩:=x.isList;exact call_list_seq p (.inl Y) y z hd (λd j kp e=>fin f i t d j kp e) (by simp only[ZP]<;>lia)
 ·obtain⟨f,i,x,t⟩:=I.tuple v;have hlen:=i.length;obtain⟨o,y,z,n,hd⟩:=x;exact call_list_seq p (.inr Y) y z hd (λd j kp e=>fin f i t d j kp e) (by simp only[ZP]<;>lia)
def oK:dD X (.type "tuple") (λj H Q=>∃p d,j=[.ref p]/\((Iv X.K H p d/\∀l,H l=J->Q (.ref l) (upd H l (.tup d)))\/(Jy X.K H p d/\Q (.ref p) H))):=by
 intro n s O H j z Q I r h;obtain⟨p,d,rfl,h⟩:=h;obtain⟨u,rfl,x⟩:=vals1 r;cases x;rcases h with⟨i,q⟩ | ⟨i,q⟩
 ·obtain⟨m,f,g,t⟩:=I.list i;have hlen:=f.length;refine call_tuple_list g.isList (λy kp=>?_) (by simp only[ZP]<;>lia);have v:=I.kept (t':=s.toks) kp;exact⟨.ref y.objs.size,_,(v.laid (t':=s.toks) (λb o e=>Za _ e) (Zn _) (show cU X.prog X.w _ _ _ (.tup d) from⟨t,m,f,NT.new _ _,IsTup.new _ _⟩)),rfl,q _ (v.xt.fresh (Zn _))⟩
 ·obtain⟨m,f,g,t⟩:=I.tuple i;exact call_tuple_same g ⟨.ref p,H,I,rfl,q⟩
def tyV(K:Ww)(T:String)(x:V)(H:Hp):Prop:=match x with
 |.str _=>T = "str"
 |.int _=>T = "int"
 |.ref p=>(T = "list" ∧ ∃e,Iv K H p e)\/(T = "tuple" ∧ ∃o,K.lookup p=Z o/\o.cls=.type "tuple" ∧ o.dict=J) ∨
   (T = "dict" ∧ ((∃d,H p=Z (.dK d))\/∃d,H p=Z (.dT d)))\/(T = "set" ∧ ∃S n,H p=Z (.set S n))
 |_=>False
def zT(I:Inv X f O H s)(r:RelV x v)(g:tyV X.K T x H) :
  s.TypeIs v T/\∀a,v=.ref a->∃j,s.heap.get? a=Z j/\j.dict=J:=by
 cases x with
 |str z =>
  obtain⟨t,rfl⟩:=r;cases (g);exact⟨typeIs_str s z t,λ_ e=>nomatch e⟩
 |int i =>
  obtain⟨t,rfl⟩:=r;cases (g);exact⟨typeIs_int s i t,λ_ e=>nomatch e⟩
 |ref p =>
  cases r;rcases g with⟨rfl,u,l⟩ | ⟨rfl,o,d,m,hd⟩ | ⟨rfl,d⟩ | ⟨rfl,S,n,d⟩
  ·obtain⟨w,_,h,_⟩:=I.list l;refine⟨h.isList.typeIs,λa e=>?_⟩;cases e;obtain⟨o,n,e,c,hd,_⟩:=h;exact⟨o,e,hd⟩
  ·refine⟨⟨o,I.JO p o d,m⟩,λa e=>?_⟩;cases e;exact⟨o,I.JO _ o d,hd⟩
  ·have z:∃o,s.heap.get? p=Z o/\o.ExactDict:=by
    rcases d with⟨q,d⟩ | ⟨q,d⟩
    ·obtain⟨_,_,_,_,o,_,_,e,ex,_⟩:=I.xt p _ d;exact⟨o,e,ex⟩
    ·obtain⟨_,_,_,_,o,_,_,e,ex,_⟩:=I.xt p _ d;exact⟨o,e,ex⟩
   obtain⟨o,e,ex⟩:=z;refine⟨⟨o,e,ex.1⟩,λa e2=>?_⟩;cases e2;exact⟨o,e,ex.2.1⟩
  ·obtain⟨o,_,_,_,e,ex,_⟩:=I.xt p _ d;refine⟨⟨o,e,ex.1⟩,λa e2=>?_⟩;cases e2;exact⟨o,e,ex.2.1⟩
 |_=>exact False.elim g
def HR(K:Ww)(T:String)(r:V->List V->Hp->VK->Prop)(e:TE):TE:=λO H Q=>e O H λx d=>tyV K T x d/\r x [] d Q
def tBM(K:Ww)(T:String)(r:V->List V->Hp->VK->Prop)(f:TE)(t:TA):TE:=λO H Q=>f O H λx d=>tyV K T x d/\t O d λe g=>r x e g Q
def Em{X:Cx}{o:Expr}{to:TE}{name:Str}{apos pe:Pos}{T id:String}{r:V->List V->Hp->VK->Prop}(l:PlainAttrs T)(f:Slot T name id)(w:typeOf (.builtin id)=pure (.type "method_descriptor"))(n:NU X id r)(m:PE X o to)(y:{`q2,XAB o name X.env (eval o X.env)=eval o X.env})(z:{`q2,(apos.endLine==pe.line)=B}):PE X (.Call (.Attribute o name apos) [] [] pe) (HR X.K T r to):=by
 intro d s O H Q I h;refine wpAny_Call_method0_late y z (thn (m d s O H _ I h) λv i p=>?_);obtain⟨x,A,g,r1,ty,j⟩:=p;obtain⟨u,q⟩:=zT g r1 ty;exact⟨T,id,l,f,w,u,q,WT Y (PySem.evalArgs_none (n d i O A x [] v [] Q g r1 .nil j))⟩
def nq{X:Cx}{o:Expr}{es:List Expr}{to:TE}{t:TA}{name:Str}{apos pe:Pos}{T id:String}{r:V->List V->Hp->VK->Prop}(w:PlainAttrs T)(f:Slot T name id)(F:typeOf (.builtin id)=pure (.type "method_descriptor"))(A:NU X id r)(z:PE X o to)(C:PA X (e :: es) t)(M:{`q2,XAB o name X.env (eval o X.env)=eval o X.env})(R:{`q2,((backTo pe (Pv (e :: es) X.env)).all (λx=>!x.1)&&(backToKw pe (SL [] X.env)).all (λx=>x.1.isSome)
   && decide ((e :: es).length+([]:List Keyword).length+(if ([]:List Keyword).isEmpty then 0 else 1)<30))=B})(N:{`q2,(apos.endLine==pe.line)=B})(y:{`q2,K1 e es X})(G:{`q2,K2 pe es X}) :
  PE X (.Call (.Attribute o name apos) (e :: es) [] pe) (tBM X.K T r to t):=by
 intro d s O H Q I h;refine wpAny_Call_method_late M R N Y (thn (z d s O H _ I h) λv p g=>?_);obtain⟨x,U,j,r1,ty,u⟩:=g;obtain⟨E,D⟩:=zT j r1 ty;refine⟨T,id,w,f,F,E,D,?_⟩;have i:=C pe d p O U _ j u;rw[y]at i ⊢;refine WT (by show (L||(backTo pe (Pv es X.env)).any (·.1))=L;rw[G]<;>rfl) (V6 ?_);refine thn i λm n g=>?_;obtain⟨l,S,P,r2,q⟩:=g;exact A d n O S x l v m Q P r1 r2 q
end
def MtM(X:Cx)(e:String)(r:V->List V->Hp->VK->Prop):Prop :=
 ∀(a:Xi)(s:IR)(O:St)(H:Hp)(x:V)(b:List V)(v:On)(d:W7)(Q:VK),Inv X a O H s->RelV x v->aM b d->r x b H Q →
  PP (KB X.prog X.w) X.A (call (.builtin e) (v :: d)) (EP X a O Q) X.xe s
def aM.nil_inv(h:aM [] a):a=[]:=by
 cases h;rfl
def aM.cons_inv(h:aM (x :: a) d):∃u b,d=u :: b/\RelV x u/\aM a b:=by
 cases h with
 |cons r t=>exact⟨_,_,rfl,r,t⟩
def aM.one(h:aM [x] a):∃u,a=[u]/\RelV x u:=by
 obtain⟨u,b,rfl,r,t⟩:=h.cons_inv;rw[t.nil_inv];exact⟨_,rfl,r⟩
def aM.two(h:aM [x,y] a):∃u v,a=[u,v]/\RelV x u/\RelV y v:=by
 obtain⟨u,b,rfl,r,t⟩:=h.cons_inv;obtain⟨v,rfl,q⟩:=t.one;exact⟨_,_,rfl,r,q⟩
theorem aM.zero:∀{a:W7},aM [] a->a=[]
 |_,.nil=>rfl
section
variable{H:Hp}
def Inv.Qv{d a:W7}(I:Inv X pins O H s)(o:H l=Z (.lst xs))(e:s.heap.get? l=Z { cls:=.type "list",data:=.seq d.toArray n })(m:f d.toArray=a.toArray)(i:aM ys a)(h:ys.length<=KF) :
  Inv X pins O (upd H l (.lst ys)) { s with heap:=s.heap.update l (Obj.mapSeq f),toks:=g }:=by
 have q:=PySem.IsL.update e f;rw[m]at q;refine I.write (x:=l) (e:=l) (by rw[o];exact trivial) (.inl Y) (λp u hb j=>(WU s.heap (Obj.mapSeq f) (YN hb)).trans j) ⟨_,q⟩ ?_;exact⟨h,a,_,i,q⟩
def Inv.S5(I:Inv X pins O H s)(f:aM ys a)(e:ys.length<=KF) :
  Inv X pins O (upd H s.heap.objs.size (.lst ys)) { s with heap:=s.heap.push { cls:=.type "list",data:=.seq a.toArray },toks:=d } :=
 I.laid (λ_ _ q=>Za _ q) (Zn _) ⟨e,a,0,f,ZD _ Y⟩
theorem Inv.fresh(I:Inv X pins O H s):H s.heap.objs.size=J:=I.xt.fresh (Zn _)
def Inv.NJ(I:Inv X pins O H s)(d:H l=Z (.lst xs)):xs.length<=KF/\∃(a:W7)(n:Nat),aM xs a/\xs.length=a.length/\s.heap.get? l=Z { cls:=.type "list",data:=.seq a.toArray n }:=by
 obtain⟨z,a,n,r,e⟩:=I.xt l _ d;exact⟨z,a,n,r,r.length,e⟩
end
section
def mQ:V->List V->Hp->VK->Prop:=λx b H Q=>∃l a y,x=.ref l/\b=[y]/\H l=Z (.lst a)/\a.length<KF/\Q .non (upd H l (.lst (a++[y])))
def fu:MtM X "list.append" mQ:=by
 intro a s O H x p v t Q I f g h;refine L2.ai λA j=>?_;obtain⟨l,o,y,rfl,rfl,b,m,q⟩:=h;cases f;obtain⟨u,rfl,i⟩:=g.one;obtain⟨z,d,n,r,w,e⟩:=I.NJ b;refine j ?_;refine call_meets F.slot_list_append ⟨_,e,rfl⟩ F.entry_list_append (F.args_list_append_2 _ _) (PySem.list_append l d.toArray n u (by rw[ZP];lia)) ⟨e,?_⟩;refine⟨.non,_,I.Qv b e (by simp) (r.append (.cons i .nil)) ?_,rfl,q⟩;rw[Zv,ZA];exact VD m
def DQ:V->List V->Hp->VK->Prop:=λx b H Q=>∃l a,x=.ref l/\b=[]/\H l=Z (.lst a)/\Q .non (upd H l (.lst []))
def x9:MtM X "list.clear" DQ:=by
 intro b s O H x m v o Q I g i h;obtain⟨l,j,rfl,rfl,d,q⟩:=h;cases g;have a:=i.zero;subst a;obtain⟨z,f,n,r,p,e⟩:=I.NJ d;refine call_meets F.slot_list_clear ⟨_,e,rfl⟩ F.entry_list_clear (F.args_list_clear_1 _) (AutoSeq1.list_clear_list_0 l f.toArray n (by rw[ZP];lia)) ⟨e,?_⟩;exact⟨.non,_,I.Qv (ys:=[]) d e Y .nil (ZE _),rfl,q⟩
def Hf:Ja:=λx y H Q=>∃l b d a,x=.ref l/\y=.ref b/\H l=Z (.lst d)/\H b=Z (.lst a)/\d.length+a.length<=KF/\∀p,H p=J->Q (.ref p) (upd H p (.lst (d++a)))
def Eh:OpR X (binaryOp .Add) Hf:=by
 intro d s O H x y v u Q I i g h;refine L2.ai λF j=>?_;obtain⟨l,b,A,t,rfl,rfl,m,o,D,q⟩:=h;cases i;cases g;obtain⟨z,a,n,r,E,e⟩:=I.NJ m;obtain⟨w,f,C,r2,G,e2⟩:=I.NJ o;refine j ?_;refine PySem.P.add_list e e2 ?_ (by rw[ZP,ZP];lia);have p:a.toArray++f.toArray=(a++f).toArray:=by simp
 rw[p];exact⟨.ref _,_,I.S5 (r.append r2) (by rw[Zv];omega),rfl,q _ I.fresh⟩
end
section
set_option maxRecDepth 100000 in
end
section
variable{κ:Type}[DecidableEq κ]
noncomputable def cF(b:List (κ×V))(k:κ):Option V:=(b.find? λa=>decide (a.1=k)).map (·.2)
noncomputable def putK(b:List (κ×V))(k:κ)(v:V):List (κ×V) :=
 if (b.any λa=>decide (a.1=k))=B then b.map (λa=>if a.1=k then (a.1,v) else a) else b++[(k,v)]
def b8{p:κ×V}(e:p.1=k):cF (p :: r) k=Z p.2:=by simp[cF,Z3,e]
def cO{p:κ×V}(e:¬p.1=k):cF (p :: r) k=cF r k:=by simp[cF,Z3,e]
theorem iU(k:κ):∀a:List (κ×V),(a.any λb=>decide (b.1=k))=(cF a k).isSome
 |[]=>rfl
 |p :: r=>by
  rw[Xz];by_cases e:p.1=k
  ·simp only[b8 e,decide_eq_true e,Bool.true_or,Option.isSome_some]
  ·rw[cO e,ZK e,Bool.false_or];exact iU k r
theorem sZ(k j:κ)(y:V):∀d:List (κ×V),cF (d.map λa=>if a.1=k then (a.1,y) else a) j=(cF d j).map λx=>if j=k then y else x
 |[]=>rfl
 |p :: r=>by
  have b:=sZ k j y r;rw[Zo];by_cases h:p.1=k
  ·rw[Zr h];by_cases e:p.1=j
   ·rw[b8 (p:=(p.1,y)) e,b8 e,Y6,Zr (e.symm.trans h)]
   ·rw[cO (p:=(p.1,y)) e,cO e,b]
  ·rw[Zq h];by_cases e:p.1=j
   ·rw[b8 (p:=p) e,b8 e,Y6,Zq (λz=>h (e.trans z))]
   ·rw[cO (p:=p) e,cO e,b]
theorem oZ(k j:κ)(y:V):∀b:List (κ×V),cF b k=J->cF (b++[(k,y)]) j=if j=k then Z y else cF b j
 |[],_=>by
  by_cases e:k=j
  ·rw[Zr e.symm];exact b8 e
  ·rw[Zq (λz=>e z.symm)];exact cO e
 |p :: r,a=>by
  rw[XQ];have d:¬p.1=k:=λz=>by rw[b8 z]at a;cases a
  rw[cO d]at a;by_cases e:p.1=j
  ·rw[b8 e,b8 e,Zq (λz=>d (e.trans z))]
  ·rw[cO e,cO e,(oZ k j y r a)]
def xC(b:List (κ×V))(k j:κ)(y:V):cF (putK b k y) j=if j=k then Z y else cF b j:=by
 unfold putK;by_cases a:(b.any λd=>decide (d.1=k))=B
 ·rw[Zr a,sZ];rw[iU]at a;by_cases e:j=k
  ·obtain⟨x,f⟩:=YW.mp a;rw[Zr e,e,f,Y6,Zr Y]
  ·rw[Zq e];cases cF b j with
   |none=>rfl
   |some x=>rw[Y6,Zq e]
 ·rw[Zq a];refine oZ k j y b ?_;rw[iU]at a;cases q:cF b k with
  |none=>rfl
  |some x=>rw[q]at a;exact(a Y).elim
def gr(a:List (κ×V))(k:κ)(v:V):(putK a k v).length<=a.length+1:=by
 unfold putK;split
 ·rw[Zu];exact Zd _ _
 ·rw[Zv,Zb,WO];exact Zn _
def iL.IV(r:iL o u):o.isSome=u.isSome:=by
 cases o with
 |none=>cases u with
  |none=>rfl
  |some _=>exact(r).elim
 |some _=>cases u with
  |none=>exact(r).elim
  |some _=>rfl
theorem iL.getD{o:Option V}(r:iL o u)(b:RelV d a):RelV (o.getD d) (u.getD a):=by
 cases o with
 |none=>cases u with
  |none=>exact b
  |some _=>exact(r).elim
 |some _=>cases u with
  |none=>exact(r).elim
  |some _=>exact r
def KV.val(r:KV g d)(k:κ):iL (cF g k) (valueAt d k):=by
 induction r with
 |nil=>exact True.intro
 |@cons p q m a h t i =>
  obtain⟨f,j⟩:=h;by_cases e:p.1=k
  ·have b:valueAt (q :: a) k=Z q.2:=by simp[valueAt,Z3,(f.symm.trans e)]
   rw[b8 e,b];exact j
  ·have l:¬q.1=k:=λz=>e (f.trans z);have b:valueAt (q :: a) k=valueAt a k:=by simp[valueAt,Z3,l]
   rw[cO e,b];exact i
theorem KV.any(r:KV d b)(k:κ):(d.any λa=>decide (a.1=k))=b.any λa=>decide (a.1=k):=by
 induction r with
 |nil=>rfl
 |cons h t e=>rw[Xz,Xz,e,h.1]
def KV.OC(r:KV f d)(k:κ)(g:RelV y u) :
  KV (f.map λa=>if a.1=k then (a.1,y) else a) (d.map λa=>if a.1=k then (a.1,u) else a):=by
 induction r with
 |nil=>exact .nil
 |@cons p q m l h t i =>
  rw[Zo,Zo];refine .cons ?_ i;obtain⟨b,j⟩:=h;by_cases e:p.1=k
  ·rw[Zr e,Zr (b.symm.trans e)];exact⟨b,g⟩
  ·rw[Zq e,Zq (λz=>e (b.trans z))];exact⟨b,j⟩
def KV.put(r:KV d a)(k:κ)(b:RelV y u):KV (putK d k y) (stored a k u):=by
 unfold putK stored;rw[r.any k];by_cases e:(a.any λf=>decide (f.1=k))=B
 ·rw[Zr e,Zr e];exact r.OC k b
 ·rw[Zq e,Zq e];exact Paired.snoc r ⟨rfl,b⟩
def KV.keys{vs:List (κ×On)}(r:KV a vs):a.map (·.1)=vs.map (·.1):=by
 induction r with
 |nil=>rfl
 |cons h t b=>rw[Zo,Zo,b,h.1]
theorem KV.length{b:List (κ×V)}(r:KV b a):b.length=a.length:=Wz r
end
def lX(r:RelV (kV k) u):(aQ P w).is k u=B:=by
 cases k with
 |inl i=>obtain⟨t,e⟩:=(r);subst e;exact qT P w i t
 |inr x=>obtain⟨t,e⟩:=(r);subst e;exact tj P w x t
theorem kY:∀{ks:List Key}{a:W7},aM (ks.map kV) a->ItemsAre (aQ P w) ks a
 |[],_,r=>by rw[XY]at r;cases r;exact .nil
 |k :: ks,_,r=>by
  rw[Zo]at r;cases r with
  |cons h t=>exact .cons (lX h) (kY t)
abbrev KT(H:Hp):List (List Key×V)->List (List Key×KM×On)->Prop:=Paired λp q=>p.1=q.1/\H q.2.1=Z (.tup (p.1.map kV))/\RelV p.2 q.2.2
def KT.val(r:KT H g d)(k:List Key):iL (cF g k) ((atKey d k).map (·.2)):=by
 induction r with
 |nil=>exact True.intro
 |@cons p q m a h t i =>
  obtain⟨f,_,j⟩:=h;by_cases e:p.1=k
  ·have b:atKey (q :: a) k=Z q.2:=by simp[atKey,Z3,(f.symm.trans e)]
   rw[b8 e,b];exact j
  ·have l:¬q.1=k:=λz=>e (f.trans z);have b:atKey (q :: a) k=atKey a k:=by simp[atKey,Z3,l]
   rw[cO e,b];exact i
def KT.OC(r:KT H g d)(k:List Key)(i:RelV y u) :
  KT H (g.map λb=>if b.1=k then (b.1,y) else b) (d.map (putAt k u)):=by
 induction r with
 |nil=>exact .nil
 |@cons p q n m h t j =>
  rw[Zo,Zo];refine .cons ?_ j;obtain⟨a,f,l⟩:=h;unfold putAt;by_cases e:p.1=k
  ·rw[Zr e,Zr (a.symm.trans e)];exact⟨a,f,i⟩
  ·rw[Zq e,Zq (λz=>e (a.trans z))];exact⟨a,f,l⟩
def KT.put(r:KT H d a)(k:List Key)(h:H b=Z (.tup (k.map kV)))(f:RelV y u) :
  KT H (putK d k y) (storedH a k b u):=by
 have e:(d.any λg=>decide (g.1=k))=(atKey a k).isSome:=by
  rw[iU,(r.val k).IV,Xu]
 unfold putK storedH;rw[e];by_cases q:(atKey a k).isSome=B
 ·rw[Zr q,Zr q];exact r.OC k f
 ·rw[Zq q,Zq q];exact Paired.snoc r ⟨rfl,h,f⟩
def KT.keeps(r:KT H e d)(g:∀b a,H b=Z (.tup a)->f b=Z (.tup a)):KT f e d :=
 Paired.NI r λ_ _ z=>⟨z.1,g _ _ z.2.1,z.2.2⟩
section
variable{H:Hp}
def Dc(b:Jm P w H h)(e:Rd H a u):cU P w H h a u:=e.ok b
def lZ(f:Jm P w H h)(e:Rd H a (.dK b)):b.length<=KF/\(a==sysModules)=L/\∃d,KV b d/\h.DictOf (aQ P w) a d :=
 Dc f e
def ou(f:Jm P w H h)(e:H a=Z (.dK b)):b.length<=KF/\(a==sysModules)=L/\∃d,KV b d/\h.DictOf (aQ P w) a d:=lZ f (.inl e)
def dh{b:List Key}(f:Jm P w H h)(e:H a=Z (.tup (b.map kV))):(tupleKind (aQ P w)).is h b a:=by
 obtain⟨_,d,r,_,o,j,i,n,g⟩:=(f a _ e)
 exact⟨o,d.toArray,n,j,i,g,by simpa using kY r⟩
def n6(g:Jm P w H h)(e:Rd H a (.dT f)):f.length<=KF/\(a==sysModules)=L ∧
  ∃d,KT H f d/\h.DictOfH (tupleKind (aQ P w)) a d:=by
 refine L2.ai λM j=>?_;obtain⟨z,y,d,r,o,D,E,C,A,v,u,s⟩:=(Dc g e)
 refine j ?_;refine⟨z,y,d,r,o,D,E,C,A,v,u,λx b=>?_,s⟩;have all:∀{l:List (List Key×V)}{m:List (List Key×KM×On)},KT H l m->∀x∈m,(tupleKind (aQ P w)).is h x.1 x.2.1:=by
  intro l m q
  induction q with
  |nil=>intro x b;exact nomatch b
  |@cons p q G F i t n =>
   intro x b;rcases Zh.mp b with e | b
   ·subst e;exact dh g (by rw[← i.1];exact i.2.1)
   ·exact n x b
 exact all r x b
def GX(f:Jm P w H h)(e:H a=Z (.dT b)):b.length<=KF/\(a==sysModules)=L ∧
  ∃d,KT H b d/\h.DictOfH (tupleKind (aQ P w)) a d:=n6 f (.inl e)
end
def gU(H:Hp)(a:KM)(y:V)(r:Option V):Prop :=
 (∃d k,Rd H a (.dK d)/\y=kV k/\r=cF d k)\/∃d k b,Rd H a (.dT d)/\y=.ref b/\H b=Z (.tup (k.map kV))/\r=cF d k
def tU(H:Hp)(a:KM)(y v:V)(e:Hp):Prop :=
 (∃d k,H a=Z (.dK d)/\y=kV k/\d.length<KF/\e=upd H a (.dK (putK d k v))) ∨
 ∃d k b,H a=Z (.dT d)/\y=.ref b/\H b=Z (.tup (k.map kV))/\d.length<KF/\e=upd H a (.dT (putK d k v))
theorem gU.k{a:KM}{b:List (Key×V)}{k:Key}(e:H a=Z (.dK b)):gU H a (kV k) (cF b k):=.inl ⟨b,k,.inl e,rfl,rfl⟩
theorem tU.k{a:KM}{b:List (Key×V)}{k:Key}{v:V}(e:H a=Z (.dK b))(d:b.length<KF):tU H a (kV k) v (upd H a (.dK (putK b k v))):=.inl ⟨b,k,e,rfl,d,rfl⟩
section
variable{H:Hp}
def Inv.big(I:Inv X pins O H s):sysModules<s.heap.objs.size:=by
 exact VB (by decide) ((I.mod.glob.keeps I.bk).lt)
def we{A:SB}(q:A.units+1<cLine)(I:Inv X pins O H s)(g:gU H a y (Z v))(n:RelV y u)(h:∀d m,Inv X pins O H m->RelV v d->Q d m) :
  PP (KB X.prog X.w) A (getItem (.ref a) u) Q E s:=by
 rcases g with⟨C,k,e,f,l⟩ | ⟨C,k,b,e,f,x,l⟩
 ·subst f;obtain⟨z,hd,G,rel,i⟩:=lZ I.xt e;obtain⟨d,hw,j⟩:=iL.some_of (v:=v) (by rw[l];exact rel.val k);exact wpAny_getItem_of (lX n) i.mapOf hw (h d _ (I.tok _) j)
 ·subst f;cases (n);obtain⟨z,hd,F,rel,i⟩:=n6 I.xt e;obtain⟨d,hw,j⟩:=iL.some_of (v:=v) (by rw[l];exact rel.val k);obtain⟨p,t,D⟩:=Zt.mp hw;refine wpAny_getItem_heap (Wb q) (dh I.xt x) i t ?_;rw[D];exact h d _ (I.tok _) j
def Hz{A:SB}(m:A.units+1<cLine)(I:Inv X pins O H s)(g:gU H a y o)(j:RelV y u)(h:∀i,Inv X pins O H i->Q (.bool o.isSome) i) :
  PP (KB X.prog X.w) A (UF .In u (.ref a)) Q E s:=by
 rcases g with⟨p,k,e,d,l⟩ | ⟨p,k,b,e,d,n,l⟩
 ·subst d;obtain⟨z,hd,x,rel,f⟩:=lZ I.xt e;refine wpAny_in_of (lX j) hd f.mapOf ?_;rw[← (rel.val k).IV,← l];exact h _ (I.tok _)
 ·subst d;cases (j);obtain⟨z,hd,t,rel,f⟩:=n6 I.xt e;refine wpAny_in_heap (Wb m) (dh I.xt n) hd f ?_;have q:=(rel.val k).IV;rw[Xu]at q;rw[← q,← l];exact h _ (I.tok _)
def BO{A:SB}(m:A.units+1<cLine)(I:Inv X pins O H s)(g:gU H a y o)(j:RelV y u)(h:∀i,Inv X pins O H i->Q (.bool (!o.isSome)) i) :
  PP (KB X.prog X.w) A (UF .NotIn u (.ref a)) Q E s:=by
 rcases g with⟨p,k,e,d,l⟩ | ⟨p,k,b,e,d,n,l⟩
 ·subst d;obtain⟨z,hd,x,rel,f⟩:=lZ I.xt e;refine wpAny_notIn_of (lX j) hd f.mapOf ?_;rw[← (rel.val k).IV,← l];exact h _ (I.tok _)
 ·subst d;cases (j);obtain⟨z,hd,t,rel,f⟩:=n6 I.xt e;refine wpAny_notIn_heap (Wb m) (dh I.xt n) hd f ?_;have q:=(rel.val k).IV;rw[Xu]at q;rw[← q,← l];exact h _ (I.tok _)
def iu(I:Inv X pins O H s)(i:Il (H a))(j:Heap.SameBut a s.heap d)(he:∃q,d.get? a=Z q)(g:cU X.prog X.w (upd H a f) d a f) :
  Inv X pins O (upd H a f) { s with heap:=d,toks:=h } :=
 I.write (x:=a) (e:=a) i (.inl Y) (λb q hb z=>(j.2 b hb).trans z) he g
def pN{f:UV}{e:List (Key×V)}(z:e.length<=KF)(g:(a==sysModules)=L)(d:KV e b)(h:f.DictOf (aQ P w) a b) :
  cU P w i f a (.dK e):=⟨z,g,b,d,h⟩
def wc{A:SB}(N:A.units+1<cLine)(I:Inv X pins O H s)(g:tU H a y v G)(x:RelV y u)(C:RelV v r)(h:∀t,Inv X pins O G t->Q () t) :
  PP (KB X.prog X.w) A (setItem (.ref a) u r) Q E s:=by
 rcases g with⟨p,k,e,j,l,m⟩ | ⟨p,k,b,e,j,F,l,m⟩
 ·subst j m;obtain⟨z,hd,vs,rel,n⟩:=ou I.xt e;refine wpAny_setItem_pairs (hsz:=(by rw[← rel.length];exact z)) (lX x) n λY f i=>h _ ?_;exact iu I (by rw[e];exact True.intro) i (let ⟨q,_,_,d,_⟩:=f;⟨q,d⟩) (pN (by have:=gr p k v;lia) hd (rel.put k C) f)
 ·subst j m;cases (x);obtain⟨z,hd,xs,rel,n⟩:=GX I.xt e;refine wpAny_setItem_heap (hsz:=(by rw[← Wz rel];exact z)) (Wb N) (dh I.xt F) n λY f i=>h _ ?_;refine L2.ai λP_ M=>?_;obtain⟨q,es,ep,d,U,S,R,_,P⟩:=f;refine M ?_;refine iu I (by rw[e];exact True.intro) i ⟨q,d⟩ ⟨(by have:=gr p k v;lia),hd,_,(rel.put k F C).keeps λc ys D=>?_,q,es,ep,d,U,S,R,P⟩;rw[aw (GO D e (λz=>nomatch z))];exact D
end
section
variable{H:Hp}
def GQ(I:Inv X pins O H s)(e:Rd H a (.dK bt))(h:∀t b,Inv X pins O H b->Q (.int bt.length t) b):PP (KB X.prog X.w) A (call (.builtin "len") [.ref a]) Q E s:=by
 obtain⟨z,hd,f,rel,d⟩:=lZ I.xt e;refine call_len_dict hd d (by rw[← rel.length];rw[Wa]at z;lia) ?_;rw[← rel.length];exact h _ _ (I.tok _)
end
def rK(I:Inv X d O H s)(g:gU H a y o):s.TypeIs (.ref a) "dict" := by
 rcases g with⟨h,k,e,_,_⟩ | ⟨h,k,b,e,_,_,_⟩
 ·obtain⟨_,_,j,_,f⟩:=lZ I.xt e;exact f.typeIs
 ·obtain⟨_,_,i,_,f⟩:=n6 I.xt e;exact f.typeIs
def rA{w:XAA}(h:UV)(a:sysModules<h.objs.size):cU P w H (h.push { cls:=.type "dict",data:=.dict #[] }) h.objs.size (.dK []) :=
 ⟨ZE _,Z0.mpr (YN (ZR a)),[],.nil,Heap.DictOf.new h⟩
def Eu:TE:=λ_ H Q=>∀p,H p=J->Q (.ref p) (upd H p (.dK []))
section
def zQ:PE X (.Dict [] [] pos) Eu:=λa s O H Q I h =>
 wpAny_Dict_empty ⟨.ref s.heap.objs.size,_,I.laid (λ_ _ q=>Za _ q) (Zn _) (rA s.heap I.big),rfl,h _ (I.xt.fresh (Zn _))⟩
end
noncomputable def ud:List (TE×TE)->St->Hp->(List (V×V)->Hp->Prop)->Prop
 |[],_,H,Q=>Q [] H
 | (b,a) :: r,O,H,Q=>b O H λx g=>a O g λy f=>ud r O f λd e=>Q ((x,y) :: d) e
abbrev VV:List (V×V)->List (On×On)->Prop:=Paired λp q=>RelV p.1 q.1/\RelV p.2 q.2
def PPs(X:Cx)(e:Pos)(d:List (Option Expr))(a:List Expr)(j:List (TE×TE)):Prop :=
 ∀(b:Xi)(s:IR)(O:St)(H:Hp)(Q:List (V×V)->Hp->Prop),Inv X b O H s->ud j O H Q →
  PP (KB X.prog X.w) X.A (evalPairs (pairTrees d a X.env e)) (λh i=>∃f g,Inv X b O g i/\VV f h/\Q f g) X.xe s
def vG:PPs X a [] [] []:=λb s O H Q I h=>pairTrees_nil_walk ⟨[],H,I,.nil,h⟩
def rq(z:PE X k f)(t:PE X v e)(w:PPs X b g d i) :
  PPs X b (Z k :: g) (v :: d) ((f,e) :: i):=λa s O H Q I h =>
 pairTrees_cons_walk (thn (z a s O H _ I h) λu l ⟨x,G,D,n,q⟩=>thn (t a l O G _ D q) λN j ⟨y,F,C,m,p⟩ =>
  thn (w a j O F _ C p) λM P ⟨r,E,A,rel,o⟩=>⟨(x,y) :: r,E,A,.cons ⟨n,m⟩ rel,o⟩)
def qz(d a:List (Key×V)):List (Key×V):=a.foldl (λacc b=>putK acc b.1 b.2) d
def KV.merge:∀{more:List (Key×V)}{d:List (Key×On)}{b:List (Key×V)}{a:List (Key×On)},KV more d->KV b a->KV (qz b more) (merged a d):=by
 intro more d b a r
 induction r generalizing b a with
 |nil=>intro q;exact q
 |@cons p q j i h t g =>
  intro f;have e:KV (putK b p.1 p.2) (stored a q.1 q.2):=by
   have:=f.put p.1 h.2;rw[← h.1];exact this
  exact g e
theorem jG:∀(more a:List (Key×V)),(qz a more).length<=a.length+more.length
 |[],a=>by exact Zd _ _
 |p :: r,a=>by
  have d:=jG r (putK a p.1 p.2);have b:=gr a p.1 p.2;show (qz (putK a p.1 p.2) r).length<=_;rw[Zb];lia
theorem oj{P:Re}{w:XAA}:∀{e:List (Key×V)}{f:List (On×On)},VV (e.map λg=>(kV g.1,g.2)) f->∃d,Carries (aQ P w) f d/\KV e d
 |[],_,r=>by rw[XY]at r;cases r;exact⟨[],True.intro,.nil⟩
 |p :: e,_,r=>by
  rw[Zo]at r;cases r with
  |@cons a b l bs h t =>
   obtain⟨d,c,q⟩:=oj (P:=P) (w:=w) t;obtain⟨j,i⟩:=b;exact⟨(p.1,i) :: d,⟨lX h.1,rfl,c⟩,.cons ⟨rfl,h.2⟩ q⟩
def Gz(f:List (TE×TE)):TE:=λO H Q=>∀p,H p=J->ud f O (upd H p (.dK [])) λe d=>d p=Z (.dK [])/\∃a:List (Key×V),e=a.map (λb=>(kV b.1,b.2))/\a.length<=15/\Q (.ref p) (upd d p (.dK (qz [] a)))
def u9(h:PPs X d a b i)(G:a.all (·.isSome)=B)(x:a.length=b.length)(C:a≠[])(g:a.length<=15):PE X (.Dict a b d) (Gz i):=by
 intro f s O H Q I q;have M:=I.laid (t':=s.toks) (λ_ _ q=>Za _ q) (Zn _) (rA s.heap I.big);refine wpAny_Dict_walk (knd:=aQ X.prog X.w) G x C g (thn (h f _ O _ _ M (q _ (I.xt.fresh (Zn s.heap.objs.size)))) λN P y=>?_);obtain⟨R,Y,l,rel,e,F,D,lk,r⟩:=y;refine L2.ai λU t=>?_;subst D;obtain⟨n,c,o⟩:=oj (w:=X.w) rel;obtain⟨z,hd,m,p,E⟩:=ou l.xt e;cases p;refine t ?_;refine⟨n,c,E,λS j u=>⟨.ref s.heap.objs.size,_,?_,rfl,r⟩⟩;exact iu l (by rw[e];exact True.intro) u (let ⟨q,_,_,v,_⟩:=j;⟨q,v⟩) (pN (by
  have A:=jG F [];rw[WO]at A;rw[Wa];lia) hd (o.merge .nil) j)
structure M1(X:Cx)(o:Expr)(m:Str)(apos:Pos)(e:Expr)(pe:Pos):Prop where
 base:XAB o m X.env (eval o X.env)=eval o X.env
 QY:((backTo pe (Pv [e] X.env)).all (λx=>!x.1)&&(backToKw pe (SL [] X.env)).all (λx=>x.1.isSome)
  && decide (([e]:List Expr).length+([]:List Keyword).length+(if ([]:List Keyword).isEmpty then 0 else 1)<30))=true
 line:(apos.endLine==pe.line)=true
 trees:backTo pe (Pv [e] X.env)=[(false,eval e X.env)]
def IsD(H:Hp)(a:KM):Prop:=(∃b,Rd H a (.dK b))\/∃b,Rd H a (.dT b)
def DW(I:Inv X g O H s)(d:IsD H a) :
  s.TypeIs (.ref a) "dict" ∧ (∀b,Value.ref a=.ref b->∃f,s.heap.get? b=Z f/\f.dict=J)/\(a==sysModules)=L:=by
 rcases d with⟨l,e⟩ | ⟨l,e⟩
 ·obtain⟨_,hd,n,_,h⟩:=lZ I.xt e;refine⟨h.typeIs,λb q=>?_,hd⟩;cases q;obtain⟨f,_,_,j,i,_⟩:=h;exact⟨f,j,i.2.1⟩
 ·obtain⟨_,hd,m,_,h⟩:=n6 I.xt e;refine⟨h.typeIs,λb q=>?_,hd⟩;cases q;obtain⟨f,_,_,j,i,_⟩:=h;exact⟨f,j,i.2.1⟩
section
variable{H:Hp}
def Ej{A:SB}(q:A.units+1<cLine)(I:Inv X pins O H s)(g:gU H a y o)(n:RelV y u)(h:∀j m,Inv X pins O H m->RelV (o.getD .non) j->Q j m) :
  PP (KB X.prog X.w) A (call (.builtin "dict.get") [.ref a,u]) Q E s:=by
 rcases g with⟨v,k,e,i,l⟩ | ⟨v,k,b,e,i,t,l⟩
 ·subst i;obtain⟨z,hd,x,rel,f⟩:=lZ I.xt e;refine call_meetsIn Vk f.typeIs PySem.F.entry_dict_get (PySem.F.args_dict_get_2 _ _) (meets_dict_get (aQ X.prog X.w) a (lX n) hd) ⟨_,f.mapOf,h _ _ (I.tok _) ?_⟩;rw[l];exact(rel.val k).getD Y
 ·subst i;cases (n);obtain⟨z,hd,p,rel,f⟩:=n6 I.xt e;refine call_meetsIn Vk f.typeIs PySem.F.entry_dict_get (PySem.F.args_dict_get_2 _ _) (meetsH_dict_get (tupleKind (aQ X.prog X.w)) a b hd) ⟨Wb q,k,p,dh I.xt t,f,h _ _ (I.tok _) ?_⟩;rw[l];exact(rel.val k).getD Y
end
def DY(f e:TE):TE:=λO H Q=>f O H λx d=>∃a,x=.ref a/\IsD d a/\e O d λy b=>∃o,gU b a y o/\Q (o.getD .non) b
section
def zo{X:Cx}(t:X.A.units+1<cLine)(v:PE X o td)(he:PE X e ty)(m:M1 X o "get" apos e pe):PE X (.Call (.Attribute o "get" apos) [e] [] pe) (DY td ty):=by
 intro b s O H Q I h;refine wpAny_Call_method m.base m.QY m.line W8 Vk PySem.F.type_dict_get (thn (v b s O H _ I h) λu l w=>?_);obtain⟨x,G,i,p,a,ex,d,r⟩:=w;subst ex;obtain rfl:u=Value.ref a:=p;obtain⟨j,t2,_⟩:=DW i d;refine⟨j,t2,?_⟩;rw[m.trees];refine WT Y (V6 (Calls.spliced_cons (thn (he b l O G _ i r) λiv P ⟨y,E,D,n,R,g,q⟩=>Calls.spliced_nil ?_)));exact Ej t D g n λM N C z=>⟨_,E,C,z,q⟩
end
end L2
namespace Att
open PySem PySem.W PySem.Calls PyProof.Rows
def l8:∀(ns:Ur)(d:W7),WellAll P h d (ns.map WData.int)->IntsAre d ns:=by
 intro ns
 induction ns with
 |nil =>
  intro d w;rw[XY]at w;cases w;exact .nil
 |cons n ns e =>
  intro d w;rw[Zo]at w;cases w with
  |cons a b =>
   cases a;exact .cons _ _ (e _ b)
def wN{l:OpenLaw}(t:l.most=Z n)(f:l.row.toRowW.claim.pre b=B)(g:WellAll P h e b) :
  ∃a j ns,e=[Value.ref a]/\b=[WData.list (ns.map WData.int)]/\h.get? a=Z { cls:=.type "list",data:=.seq j.toArray }/\IntsAre j ns/\ns.length<=n:=by
 have u:l.pre.holds [] { args:=b }=B:=(pre_splitW f).2;obtain⟨d,r,rfl,x,w⟩:=hasAllW_cons ((pre_splitW f).1);obtain rfl:=hasAllW_nil w;obtain⟨z,rfl,v⟩:=hasW_list x;obtain⟨ns,rfl⟩:=items_int v;have hlen:ns.length<=n:=by
  have i:=condW_of (by
   have m:=(holds_andW u).1;rw[t]at m;exact m) (w_not (w_lt w_lit (w_len_list (w_arg Y))))
  rw[Zu]at i;refine ZJ λq=>?_
  first
   | (rw[decide_eq_true (by omega)]at i;exact absurd i (by decide))
   | (omega)
 cases g with
 |cons p o =>
  cases o;cases p with
  |list s y=>exact⟨_,_,ns,rfl,rfl,s,l8 ns _ y,hlen⟩
def wF(l:OpenLaw)(a:List WData):l.row.toRowW.claim.post a (.bool B) a=B :=
 postW_of
  (by first | rfl | decide | simp[WShape.has,WShape.arms,WShape.armsAll])
  (w_eq_bool (w_res Y) w_lit) Y
def rg{l:OpenLaw}{d:DefRec}(F:l.most=Z n)(R:d.params.defaults=[])(j:∀(w:XAA)(p b:IR)(mg s:Wp)(i:KM)(o:Obj)(pm cd doc:On)(a:KM)(g:W7)(ns:Ur),
   Ground q e [] A w p mg s b.heap->z w b.heap →
   b.heap.get? i=Z o->o.data=.func (docDef d.name d.params d.body d.scope pm cd doc)->b.heap.CodeRec cd d.name->mg d.name=Z (.ref i) →
   b.heap.get? a=Z { cls:=.type "list",data:=.seq g.toArray }->IntsAre g ns->ns.length<=n->b.gens=#[] →
   codeAny (KB l.prog w) callerA (.call (.ref i) ⟨[.ref a],[]⟩) (λr m=>r=.ok (.ret (.bool B))/\OldK b.heap m.heap/\m.os=b.os/\AllBare m.gens) b) :
  WalkO q e A z l.row.toRowW d [] (λf g=>PySem.call f g):=by
 intro w p b mg s G Y i o pm cd doc Q kV E hd v y u hg args vals U h x C t M;obtain rfl:Q=.none:=Dflts.none y R;obtain rfl:kV=.none:=Dflts.noKw y;obtain⟨a,g,ns,rfl,rfl,S,hints,hlen⟩:=wN F h t;refine enter_call (VY (j w p b mg s i o pm cd doc a g ns G Y E (fd_plain hd) v u S hints hlen hg) λr m D=>?_);obtain⟨rfl,P,O,N⟩:=D;exact⟨.inl ⟨.bool B,.bool B,[],rfl,λ_=>rfl,.bool B,wF l _,λ_=>⟨List.Pairwise.nil,λ_ H=>(nomatch H)⟩⟩,P,O,N⟩
end Att
namespace L2
open PySem PySem.Spec PyProof.Rows
theorem oU:∀{a:W7}{ns:Ur},IntsAre a ns->aM (ns.map V.int) a
 |_,_,.nil=>.nil
 |_,_,.cons n t h=>.cons ⟨t,rfl⟩ (oU h)
noncomputable def yI(H:Hp):Prop:=∀b,H b=J\/∃o a,H b=Z (.frz o (.lst a))
def ym{K:Ww}{f:IR}{j:W7}(KX:K.In f.heap)(RW:f.heap.Ns mainGlobals t)(g:f.heap.Ns builtinsNs E)(M:∀x:Str,x ≠ "__name__" → E x=bootBuiltins x)(To:f.heap.NoLimit)(hg:f.gens=#[])(y:f.heap.get? a=Z { cls:=.type "list",data:=.seq j.toArray })(U:IntsAre j l)(S:l.length<=KF)(hr:xh k callerA)(F:∀base:UV,K.In base->base.Ns mainGlobals t->FnOk P w K t base CX k N fd [x] Q)(QN:∀(s:IR)(u:On),BindsTo s fd ⟨[u],[]⟩ [(x,u)])(MF:∀H:Hp,yI H->Iv K H a (l.map V.int)->Q [.ref a] H (λv _=>v=.bl B) λ_ _ _=>False)(TV:∀H e i,CX [] H f (λ_ _ _=>False) e i->False) :
  codeAny (KB P w) callerA (.call (.ref N) ⟨[.ref a],[]⟩) (λr i=>r=.ok (.ret (.bool B))/\OldK f.heap i.heap/\i.os=f.os/\AllBare i.gens) f:=by
 have R:=oU U;have core:∀H:Hp,yI H->Iv K H a (l.map V.int)->Jm P w H f.heap->(∀b,H b≠J->b=a)->(H a≠J->K.lookup a=J) →
   codeAny (KB P w) callerA (.call (.ref N) ⟨[.ref a],[]⟩) (λr i=>r=.ok (.ret (.bool B))/\OldK f.heap i.heap/\i.os=f.os/\AllBare i.gens) f:=by
  intro H X hS xt hA hK;have Mg:∀{b:KM}{o:Obj},f.heap.get? b=Z o->H b=J->(rZ f.heap H).get? b=Z o:=λe n=>zP e n;have Qs:∀{b:KM}{o:Obj}{A:Array DictEntry}{C:Nat},f.heap.get? b=Z o->o.data=.dict A C->H b=J:=λ{b o A C} e d=>by
   cases q:H b with
   |none=>rfl
   |some u =>
    have O:b=a:=hA b (by rw[q];simp);subst O;rw[y]at e;cases e;cases d
  have D:∀{b:KM}{m:Wp},f.heap.Ns b m->(rZ f.heap H).Ns b m:=λ{b m} ⟨o,A,C,e,d,r⟩=>⟨o,A,C,Mg e (Qs e d),d,r⟩
  have p:=λb o e=>Mg (KX b o e) (by
   cases q:H b with
   |none=>rfl
   |some u =>
    have O:b=a:=hA b (by rw[q];simp);subst O;rw[hK (by rw[q];simp)]at e;cases e)
  have hM:Mod K t (rZ f.heap H):=⟨p,D RW,⟨E,D g,M⟩,let ⟨mc,h1,h2⟩:=To;⟨mc,D h1,h2⟩⟩
  refine VY ((F _ p (D RW)).run callerA [] f H ⟨[.ref a],[]⟩ [.ref a] [.ref a] _ _ hr (⟨rfl,hM,λb q e=>(B3.mp e).1,λb o e=>Az e,Y9 (vX _ _),trivial,λb g=>absurd (show b∈([]:W6) from g) (by simp),xt,.of_eq hg⟩) (QN f (.ref a)) (.cons Y .nil) (MF H X hS)) λr i h=>?_;cases r with
  |error e=>exact(TV H e i h).elim
  |ok fl =>
   cases fl with
   |next=>exact False.elim h
   |brk=>exact False.elim h
   |cont=>exact False.elim h
   |ret u =>
    obtain⟨v,H',os,bare,un,Th,r',q⟩:=h;subst q;obtain rfl:u=Value.bool B:=r';refine⟨rfl,OldK.of_keep λb o e=>?_,os,bare⟩;cases q:H b with
    |none=>exact un.keep b o e q (by intro z;exact absurd (show b∈([]) from z) (by simp)) (by simp)
    |some u =>
     rcases X b with z | ⟨ob,xs,z⟩
     ·rw[q]at z;cases z
     ·obtain⟨e1,_⟩:=xt b _ z;obtain⟨e2,_⟩:=Th b _ (un.Kv b ob _ z);rw[e]at e1;cases e1;exact e2
 cases G:K.lookup a with
 |some o =>
  have e:=KX a o G;rw[y]at e;cases e;refine core (λ_=>J) (λ_=>.inl Y) (.inr ⟨_,j.toArray,_,G,rfl,rfl,rfl,by rw[ZP,U.length];exact S,by simpa using R⟩) (λb u z=>by cases z) (λb z=>absurd Y z) λz=>absurd Y z
 |none =>
  refine core (λb=>if b=a then Z (.frz { cls:=.type "list",data:=.seq j.toArray } (.lst (l.map V.int))) else J) (λb=>?_) (.inl (.inr ⟨{ cls:=.type "list",data:=.seq j.toArray },Zr Y⟩)) (λb u z=>?_) (λb z=>?_) λ_=>G
  ·by_cases g:b=a
   ·exact .inr ⟨_,_,Zr g⟩
   ·exact .inl (Zq g)
  ·by_cases g:b=a
   ·cases ((Zr g).symm.trans z);subst g;exact⟨y,by rw[Zu];exact S,j,_,R,y⟩
   ·cases ((Zq g).symm.trans z)
  ·by_cases g:b=a
   ·exact g
   ·exact absurd (Zq g) z
def AY{l:PySem.W.OpenLaw}{n k:Nat}{q:Re}{i:List Str}{R:(Wp)->UV->Prop}{y:XAA->UV->Prop}{d:DefRec}{K:Params->Ww}{A:XAA->Mz}{t:XAA->Sp}{x:Str}(E:l.most=Z n)(U:n<=KF)(X:d.params.defaults=[])(D:xh k callerA)(N:∀(w:XAA)(h:UV),y w h->(K w.params).In h)(F:∀(w:XAA)(mg:Wp)(j:KM)(h:UV),(K w.params).In h->h.Ns mainGlobals mg->mg d.name=Z (.ref j) →
   ∃fd:P3,(∀(s:IR)(u:On),BindsTo s fd ⟨[u],[]⟩ [(x,u)]) ∧
    ∀base:UV,(K w.params).In base->base.Ns mainGlobals mg->FnOk l.prog w (K w.params) mg base (A w) k j fd [x] (t w))(MF:∀(w:XAA)(H:Hp)(a:KM)(ns:Ur),ns.length<=n->yI H->Iv (K w.params) H a (ns.map V.int)->t w [.ref a] H (λv _=>v=.bl B) λ_ _ _=>False)(S:∀(w:XAA)(H:Hp)(s:IR)(e:On)(m:IR),A w [] H s (λ_ _ _=>False) e m->False) :
  PySem.W.WalkO q i R y l.row.toRowW d [] (λf r=>PySem.call f r):=by
 refine Att.rg E X λw s₀ C mg mb j o pm cd doc a r ns G Y ho hd M p OR hints hlen hg=>?_;have z:=N w _ Y;obtain⟨fd,hb,Q⟩:=F w mg j _ z G.T.g p;exact ym z G.T.g G.T.b G.T.builtins G.T.nolimit hg OR hints (ZU hlen U) D Q hb (λH P O=>MF w H a ns hlen P O) λH e m=>S w H C e m
noncomputable def inClass(s:Stmt)(j:Nat):Stmt:=match s with
 |.ClassDef _ _ _ body _ _ _ _ _ _ _=>body.getD j (.Pass ⟨0,0,0,0⟩)
 |_=>.Pass ⟨0,0,0,0⟩
noncomputable def cK(s:Stmt):Arguments:=match s with
 |.FunctionDef _ a _ _ _ _ _ _ _ _=>a
 |_=>{ posonlyargs:=[],args:=[],vararg:=J,kwonlyargs:=[],kw_defaults:=[],kwarg:=J,defaults:=[] }
noncomputable def aY(s:Stmt):List Stmt:=match s with
 |.FunctionDef _ _ b _ _ _ _ _ _ _=>b
 |_=>[]
def ah(s:Stmt):Scope:=match s with
 |.FunctionDef _ _ _ _ _ _ sc _ _ _=>sc
 |_=>{ kind:=.function,names:=[],isGenerator:=L,isCoroutine:=L }
noncomputable abbrev Jb:Mz:=λ_ _ _ _ _ _=>False
noncomputable abbrev E0:XK:=λ_ _ _=>False
def lY{X:Cx}:ja Jb X E0:=λ_ _ _ _ _ _ _ h=>h.elim
structure Ir(K:Ww)(x qual:Str)(st:Stmt)(f:KM)(fd:P3):Prop where
 ex:∃(oc:On)(od:Option KM)(kV doc pm:On)(an:Option KM)(Ij ct:On)(MD:Array (Ut)),
  fd=PySem.W.fnOf x qual (cK st) (aY st) (ah st) .none kV doc pm an Ij ct/\K.lookup f=some ⟨oc,od,.func fd,MD⟩/\PySem.W.codeIn K Ij qual=true
 kp:PySem.W.keepIn K (.ref f)=true
section
variable{K:Ww}
def Ir.ok(F:Ir K x a d f m)(S:p0 N i (ah d))(j:∀b H Q E,g b H Q E->b.length=i.length)(p:∀(e:On)(A:SB)(outer:List Env)(s:IR)(H:Hp)(b:List V)(Q:VK)(E:XK),xh k (A.deeper (envOfC a (ah d) s.heap.objs.size f e))->g b H Q E →
   ∃t,Kc (jP Jb P w K mg base N a (ah d) f e A outer s H E).Lz (aY d) t/\t { nx:=λ_ r=>Q .non r,rt:=Q } (start N b) H):FnOk P w K mg base Jb (k+1) f m i g:=by
 obtain⟨oc,u,kV,doc,pm,an,e,ct,v,rfl,lk,l⟩:=F.ex;refine C7 lk l S j λA outer s H b Q E n o=>?_;obtain⟨t,h,q⟩:=p e A outer s H b Q E n o;exact⟨t,h.Lz,q⟩
def Ir.binds{e:List Str}(F:Ir K x a b f i)(h:∀(kV doc pm:On)(an:Option KM)(g ct:On)(d:W7),d.length=e.length->bindArgs (PySem.W.fnOf x a (cK b) (aY b) (ah b) .none kV doc pm an g ct) ⟨d,[]⟩=pure (e.zip d)):Binds K i e []:=by
 obtain⟨oc,l,kV,doc,pm,an,g,ct,m,rfl,lk,j⟩:=F.ex;exact .all (h kV doc pm an g ct)
def xu{st:Stmt}(l:K.lookup f=Z ⟨m,j,.func (PySem.W.fnOf x a (cK st) (aY st) (ah st) .none g b e i d h),n⟩)(c:PySem.W.codeIn K d a=B)(k:PySem.W.keepIn K (.ref f)=B):Ir K x a st f (PySem.W.fnOf x a (cK st) (aY st) (ah st) .none g b e i d h):=⟨⟨m,j,g,b,e,i,d,h,n,rfl,l,c⟩,k⟩
end
def kM(a:xh k A):A.units+1<cLine:=ZF (XT (by decide:1<=64) _) a.units
section
def pv{X:Cx}(i:Nat)(f:{`q2,X.N[i]?=Z x})(d:{`q5,KG X.env.scope x})(e:{`q1,K3 x})(b:{`q1,K4 x}):PE X (.Name x a) (CC i):=dk f d e b
end
def BF{A B:Prop}(h:B):if L=true then A else B:=by
 rw[Zq Zf];exact h
def Cz{A B:Prop}(h:A):if true=true then A else B:=by
 rw[Zr Y];exact h
noncomputable def aI(H a:Hp):Prop:=∀b o,H b=Z o->a b=Z o
def aI.refl(H:Hp):aI H H:=λ_ _ h=>h
def aI.trans{e:Hp}(a:aI H e)(b:aI e d):aI H d:=λc o h=>b c o (a c o h)
def aI.free(e:aI H a)(h:a l=J):H l=J:=by
 cases q:H l with
 |none=>rfl
 |some o =>
  rw[e l o q]at h;cases h
end L2
end
section
namespace NK
open PySem PySem.Spec PyProof.Rows
variable{K:Type}[DecidableEq K]
inductive Ju{prog:Re}{w:XAA}(knd:KeyKind prog w K)(h:UV):List (List K)->W7->Prop
 |nil:Ju knd h [] []
 |cons {k:List K} {b:KM} {ks:List (List K)} {vs:W7}:IsTupleKey knd h k b->Ju knd h ks vs->Ju knd h (k :: ks) (.ref b :: vs)
def Lr(b:KeyKind prog w K)(h:UV)(d:List (List K))(a:KM):Prop:=∃o items n,h.get? a=Z o/\o.cls=.type "tuple" ∧ o.data=.seq items n/\Ju b h d items.toList
def Ju.fn{prog:Re}{w:XAA}{knd:KeyKind prog w K}{h:UV}{x y:List (List K)}{b:W7}(e:Ju knd h x b):Ju knd h y b->x=y:=by
 induction e generalizing y with
 |nil=>intro a;cases a;rfl
 |cons g _ d =>
  intro a;cases a with
  |cons f t=>rw[g.inj f,d t]
def Lr.ty{prog:Re}{w:XAA}{knd:KeyKind prog w K}{s:IR}{b:List (List K)}{a:KM}(x:Lr knd s.heap b a):s.TypeIs (.ref a) "tuple" := let ⟨o,_,_,g,c,_⟩:=x;⟨o,g,c⟩
theorem Lr.fn{prog:Re}{w:XAA}{knd:KeyKind prog w K}{h:UV}{a:KM}{x y:List (List K)}(l:Lr knd h x a)(j:Lr knd h y a):x=y:=by
 obtain⟨o,m,n,g,_,d,i⟩:=l;obtain⟨p,r,q,b,_,e,f⟩:=j;rw[g]at b;cases b;rw[d]at e;cases e;exact i.fn f
theorem Ju.keeps{prog:Re}{w:XAA}{knd:KeyKind prog w K}{h e:UV}{b:List (List K)}{a:W7}{d:KM}{o:Obj}{es ep}(x:Ju knd h b a)(i:h.get? d=Z o)(j:o.data=.dict es ep)(g:Heap.SameBut d h e):Ju knd e b a:=by
 induction x with
 |nil=>exact .nil
 |cons l _ f=>exact .cons (l.keeps i j g) f
theorem Lr.keeps{prog:Re}{w:XAA}{knd:KeyKind prog w K}{h m:UV}{e:List (List K)}{a d:KM}{o:Obj}{es ep}(x:Lr knd h e a)(j:h.get? d=Z o)(l:o.data=.dict es ep)(f:Heap.SameBut d h m):Lr knd m e a:=by
 obtain⟨q,p,n,g,c,b,i⟩:=x;refine⟨q,p,n,(f.2 a λz=>?_).trans g,c,b,i.keeps j l f⟩;subst z;rw[j]at g;cases g;rw[l]at b;cases b
noncomputable def kc(a:KeyKind prog w K)(b:List (List K)):Int:=reduceHash (Builtin.Tuple.tupleHashOf (b.map (tupleKeyHash a)))
noncomputable def lC(a:List (List K)):Nat:=(a.map λk=>k.length+1).sum+1
def Ci{prog:Re}{w:XAA}{knd:KeyKind prog w K}{A:SB}{E:Z9}{s:IR}{e:List (List K)}{a:KM}{Q:Int->IR->Prop}(j:A.units+1<cLine)(p:Lr knd s.heap e a)(q:Q (kc knd e) { s with toks:=s.toks+lC e }):PP (KB prog w) A (pyHash (.ref a)) Q E s:=by
 have ty:=p.ty;obtain⟨o,C,n,g,_,d,i⟩:=p
 first | unfold pyHashByItsType | skip
 first | refine Zx (wpAny_cRoomFor_or (.inr (Yg j)) ?_) | skip
 refine Zx (Y2 ty Xn.lookup ?_);refine(?_);rw[Zq (λz=>by rw[beq_builtin_none]at z;cases z)];refine Zx (Y2 ty Xn.lookup (Zx (Wy ty Xn (Y3 Xn ty F.entry_tuple_hash (Zx (m:=Builtin.Tuple.tupleItemsOf (.ref a)) (X5 g d (Zx ?_))) (F.args_tuple_hash_1 _)))));rw[← XD];refine Xw _ (λrest (b) f=>∃x y,e=x++y/\Ju knd s.heap y rest/\b.toList=x.map (tupleKeyHash knd)/\f={ s with toks:=s.toks+(x.map λk=>k.length+1).sum }) _ ?turn ?fin _ _ ⟨[],e,rfl,i,rfl,rfl⟩
 case turn =>
  rintro v rest b f ⟨x,y,rfl,h,hb,rfl⟩;cases h with
  |@cons k c t _ u r =>
   refine Zx (wpAny_pyHash_tuple (by exact j) u ?_)
   first
    |exact Zm ⟨x++[k],t,by simp,r,by simp[hb],by simp[YE]⟩
    |exact Zx (Zm (Zm ⟨x++[k],t,by simp,r,by simp[hb],by simp[YE]⟩))
 case fin =>
  rintro b f ⟨x,y,rfl,h,hb,rfl⟩;cases h;rw[ZV]at q;refine(show PP _ _ (retInt (Builtin.Tuple.tupleHashOf b.toList)) _ _ _ from ?_);rw[hb];refine VR ?_;unfold kc reduceHash lC at q;refine(show PP _ _ (if (decide (-(2:Int) ^ 63<=Builtin.Tuple.tupleHashOf (x.map (tupleKeyHash knd)))&&decide (Builtin.Tuple.tupleHashOf (x.map (tupleKeyHash knd))<2 ^ 63))=B then _ else _) Q E _ from ?_);by_cases l:(decide (-(2:Int) ^ 63<=Builtin.Tuple.tupleHashOf (x.map (tupleKeyHash knd)))&&decide (Builtin.Tuple.tupleHashOf (x.map (tupleKeyHash knd))<2 ^ 63))=B
  ·rw[Zr l]at q ⊢;exact Zm (by simpa[YE] using q)
  ·rw[Zq l]at q ⊢;exact Zx (Wc (Zm (by simpa[YE] using q)))
def Ca{prog:Re}{w:XAA}{knd:KeyKind prog w K}{A:SB}{E:Z9}{s:IR}{x y:List (List K)}{a b:KM}{P:PySem.Fin->IR->Prop}(R:A.units<cLine)(Q:Lr knd s.heap x a)(D:Lr knd s.heap y b)(q:P (.done (.ret (.bool (decide (x=y))))) s):PP (KB prog w) A (Builtin.«tuple.__eq__» ⟨[.ref a,.ref b],[]⟩) P E s:=by
 have ty:=D.ty;obtain⟨oa,i,na,ga,_,da,O⟩:=Q;obtain⟨ob,g,nb,gb,_,db,N⟩:=D;refine(show PP _ _ (isInstance (.ref b) (.type "tuple")>>=_) _ _ s from Zx (Wq ty Wx ?_));refine Zx (X5 ga da (Zx (X5 gb db (Zx ?_))));refine Xw _ (λrest r l=>r.1=J/\l=s/\∃j h f e,rest=List.zip f e/\Ju knd s.heap j f/\Ju knd s.heap h e/\decide (j=h)=decide (x=y)/\(f.length==e.length)=(i.size==g.size)) _ ?turn ?fin _ _ ⟨rfl,rfl,x,y,i.toList,g.toList,rfl,O,N,rfl,by simp⟩
 case turn =>
  rintro⟨u,v⟩ rest r l ⟨F,rfl,j,h,f,e,d,z,n,m,hlen⟩;cases z with
  |nil=>simp at d
  |@cons M c1 x2 p X G =>
   cases n with
   |nil=>simp at d
   |@cons H c2 C o U t2 =>
    obtain⟨⟨rfl,rfl⟩,rfl⟩:=d;refine Zx (wpAny_eqBool_tuple R X U ?_);by_cases t:M=H
    ·subst t;rw[decide_eq_true Y];refine Zm ⟨rfl,rfl,x2,C,p,o,rfl,G,t2,?_,by simpa using hlen⟩;rw[← m];by_cases Mq:x2=C<;>simp[Mq]
    ·rw[ZK t];have S:decide (x=y)=L:=by rw[← m];simp[t]
     rw[S]at q;exact Zx (Zm (Zm (Zm q)))
 case fin =>
  rintro⟨r1,r2⟩ l ⟨F,rfl,j,h,f,e,d,z,n,m,hlen⟩;subst F;have TC:(i.size==g.size)=decide (x=y):=by
   rw[← m,← hlen];cases z with
   |nil=>cases n<;>simp
   |cons _ _ =>
    cases n with
    |nil=>simp
    |cons _ _=>simp at d
  refine Zm (show P (.done (.ret (.bool (i.size==g.size)))) l from ?_);rw[TC];exact q
def Gi{prog:Re}{w:XAA}{knd:KeyKind prog w K}{A:SB}{E:Z9}{s:IR}{x y:List (List K)}{a b:KM}{Q:Bool->IR->Prop}(h:A.units+1<cLine)(d:Lr knd s.heap x a)(f:Lr knd s.heap y b)(q:Q (decide (x=y)) s):PP (KB prog w) A (eqBool (.ref a) (.ref b)) Q E s:=by
 unfold eqBool
 try with_reducible refine Xf ?_
 refine(?_);by_cases g:(Value.ref a==Value.ref b)=B
 ·rw[Zr g];have e:a=b:=by have:=eq_of_beq g;injection this
  subst e;obtain rfl:=d.fn f;exact Zx (Wc (Zm (by simpa using q)))
 ·rw[Zq g];exact Zx (wpAny_richCompare_same_room d.ty f.ty X8 (Y3 X8 d.ty F.entry_tuple_eq (Ca (by exact h) d f ⟨_,rfl,(λe=>nomatch e),YM q⟩) (F.args_tuple_eq_2 _ _)) (Yg h))
def wZ{prog:Re}{w:XAA}{knd:KeyKind prog w K}{A:SB}{E:Z9}{s:IR}{j:List K}{n:Nat}{a:KM}{Q:Bool->IR->Prop}(f:IsTupleKey knd s.heap j a)(q:Q B s):PP (KB prog w) A (eqIsQuiet (n+1) (.ref a)) Q E s:=by
 have ty:=f.typeIs;obtain⟨o,p,m,g,_,d,i⟩:=f;unfold eqIsQuiet;refine Zx (Y2 ty X8.lookup (Zx (Wq ty Wx ?_)));refine Zx (wpAny_seqItems g d (Zx (?_)));rw[← XD];refine Xw _ (λrest r b=>r.1=J/\b=s/\∀v∈rest,carriedByValue v=B) _ ?turn ?fin _ _ ⟨rfl,rfl,i.byValue⟩
 case turn =>
  rintro v rest r b ⟨e,rfl,h⟩;rw[eqIsQuiet_byValue _ (h v Zy)];refine Zx (Zm ?_);exact Zm ⟨rfl,rfl,λu l=>h u (Zw _ l)⟩
 case fin =>
  rintro⟨r1,r2⟩ b ⟨e,rfl,_⟩;subst e;exact Zm q
end NK
end
section
namespace NK
open PySem PySem.Spec PyProof.Rows
variable{K:Type}[DecidableEq K]
def fo:Slot "bool" "__hash__" "int.__hash__" := .of (owner := "int") (n := "__hash__") (by rw[typeLookup_type,builtinLookup_eq_fast];kernel_rfl) (by decide +kernel) (by decide +kernel)
 (by decide +kernel) (by first | exact .inl (by decide +kernel) | exact .inr (by decide +kernel)) (by rw[isSubtype_type];kernel_rfl)
def Gb(b:Bool):argsOk "int.__hash__" ⟨[.bool b],[]⟩:=by cases b<;>kernel_rfl
def wG(h:Q (if b then 1 else 0) { s with toks:=s.toks+1 }):PP (KB prog w) A (pyHash (.bool b)) Q E s:=by
 have ty:=PyProof.Rows.typeIs_bool s b;refine Zx ?_;rw[cRoomFor,Zq (by rw[show [Value.bool b].any Value.onHeap=L from rfl];exact Zf)];refine Zm (Zx (Y2 ty fo.lookup ?_));rw[Zq (λz=>by rw[beq_builtin_none]at z;cases z)];refine Zx (Y2 ty fo.lookup (Zx (Wy ty fo (Y3 fo ty entry_int_hash ?_ (Gb b)))));cases b with
 |true=>exact(show PP _ _ (do ret (← mkInt 1)) _ _ s from VR (Zm h))
 |false=>exact(show PP _ _ (do ret (← mkInt 0)) _ _ s from VR (Zm h))
def eq_bool(h:Q (a==b) s):PP (KB prog w) A (eqBool (.bool a) (.bool b)) Q E s:=SeqAt.EqAt.bool_bool a b prog w E Q h
def KS(b:KeyKind prog w K)(h:UV)(k:List (List K)×Bool)(a:KM):Prop:=∃o c n,h.get? a=Z o/\o.cls=.type "tuple" ∧ o.data=.seq #[.ref c,.bool k.2] n/\Lr b h k.1 c
def KS.ty{prog:Re}{w:XAA}{knd:KeyKind prog w K}{s:IR}{k:List (List K)×Bool}{a:KM}(x:KS knd s.heap k a):s.TypeIs (.ref a) "tuple" := let ⟨o,_,_,g,c,_⟩:=x;⟨o,g,c⟩
theorem KS.fn{prog:Re}{w:XAA}{knd:KeyKind prog w K}{h:UV}{a:KM}{x y:List (List K)×Bool}(l:KS knd h x a)(j:KS knd h y a):x=y:=by
 obtain⟨o,c,n,g,_,d,i⟩:=l;obtain⟨p,m,q,b,_,e,f⟩:=j;rw[g]at b;cases b;rw[d]at e;injection e with e1 e2
 have e1:[Value.ref c,.bool x.2]=[Value.ref m,.bool y.2]:=Z5 Array.toList e1;injection e1 with e1 e3
 injection e1 with e1
 injection e3 with e3 _
 injection e3 with e3
 subst e1;exact VE (i.fn f) e3
theorem KS.keeps{prog:Re}{w:XAA}{knd:KeyKind prog w K}{h l:UV}{k:List (List K)×Bool}{a d:KM}{o:Obj}{es ep}(x:KS knd h k a)(f:h.get? d=Z o)(j:o.data=.dict es ep)(e:Heap.SameBut d h l):KS knd l k a:=by
 obtain⟨m,c,n,g,cl,b,i⟩:=x;refine⟨m,c,n,(e.2 a λz=>?_).trans g,cl,b,i.keeps f j e⟩;subst z;rw[f]at g;cases g;rw[j]at b;cases b
def yQ(a:KeyKind prog w K)(k:List (List K)×Bool):Int:=reduceHash (Builtin.Tuple.tupleHashOf [kc a k.1,if k.2 then 1 else 0])
def zJ{prog:Re}{w:XAA}{knd:KeyKind prog w K}{A:SB}{E:Z9}{s:IR}{k:List (List K)×Bool}{a:KM}{Q:Int->IR->Prop}(h:A.units+2<cLine)(j:KS knd s.heap k a)(q:Q (yQ knd k) { s with toks:=s.toks+(lC k.1+2) }):PP (KB prog w) A (pyHash (.ref a)) Q E s:=by
 have ty:=j.ty;obtain⟨o,c,n,g,_,d,i⟩:=j
 first | unfold pyHashByItsType | skip
 first | refine Zx (wpAny_cRoomFor_or (.inr (Yg (Yg h))) ?_) | skip
 refine Zx (Y2 ty Xn.lookup ?_);refine(?_);rw[Zq (λz=>by rw[beq_builtin_none]at z;cases z)];refine Zx (Y2 ty Xn.lookup (Zx (Wy ty Xn (Y3 Xn ty F.entry_tuple_hash (Zx (m:=Builtin.Tuple.tupleItemsOf (.ref a)) (X5 g d (Zx ?_))) (F.args_tuple_hash_1 _)))));rw[← XD];refine Xw _ (λrest (b) f=>(rest=[.ref c,.bool k.2]/\b.toList=[]/\f=s)\/(rest=[.bool k.2]/\b.toList=[kc knd k.1]/\f={ s with toks:=s.toks+lC k.1 })\/(rest=[]/\b.toList=[kc knd k.1,if k.2 then 1 else 0]/\f={ s with toks:=s.toks+lC k.1+1 })) _ ?turn ?fin _ _ (.inl ⟨rfl,rfl,rfl⟩)
 case turn =>
  rintro v rest b f (⟨e,hb,rfl⟩ | ⟨e,hb,rfl⟩ | ⟨e,_,_⟩)
  ·obtain⟨rfl,rfl⟩:=Ws e;refine Zx (Ci (by exact h) i ?_)
   first
    |exact Zm (.inr (.inl ⟨rfl,by simp[hb],rfl⟩))
    |exact Zx (Zm (Zm (.inr (.inl ⟨rfl,by simp[hb],rfl⟩))))
  ·obtain⟨rfl,rfl⟩:=Ws e;refine Zx (wG ?_)
   first
    |exact Zm (.inr (.inr ⟨rfl,by simp[hb],rfl⟩))
    |exact Zx (Zm (Zm (.inr (.inr ⟨rfl,by simp[hb],rfl⟩))))
  ·cases e
 case fin =>
  rintro b f (⟨e,_⟩ | ⟨e,_⟩ | ⟨_,hb,rfl⟩)
  ·cases e
  ·cases e
  refine(show PP _ _ (retInt (Builtin.Tuple.tupleHashOf b.toList)) _ _ _ from ?_);rw[hb];refine VR ?_;unfold yQ reduceHash at q;refine(show PP _ _ (if (decide (-(2:Int) ^ 63<=Builtin.Tuple.tupleHashOf [kc knd k.1,if k.2 then 1 else 0])&&decide (Builtin.Tuple.tupleHashOf [kc knd k.1,if k.2 then 1 else 0]<2 ^ 63))=B then _ else _) Q E _ from ?_);by_cases e:(decide (-(2:Int) ^ 63<=Builtin.Tuple.tupleHashOf [kc knd k.1,if k.2 then 1 else 0])&&decide (Builtin.Tuple.tupleHashOf [kc knd k.1,if k.2 then 1 else 0]<2 ^ 63))=B
  ·rw[Zr e]at q ⊢;exact Zm (by simpa[YE] using q)
  ·rw[Zq e]at q ⊢;exact Zx (Wc (Zm (by simpa[YE] using q)))
def zy{prog:Re}{w:XAA}{knd:KeyKind prog w K}{A:SB}{E:Z9}{s:IR}{x y:List (List K)×Bool}{a b:KM}{P:PySem.Fin->IR->Prop}(n:A.units+1<cLine)(m:KS knd s.heap x a)(h:KS knd s.heap y b)(q:P (.done (.ret (.bool (decide (x=y))))) s):PP (KB prog w) A (Builtin.«tuple.__eq__» ⟨[.ref a,.ref b],[]⟩) P E s:=by
 have ty:=h.ty;obtain⟨C,ca,na,ga,_,o,l⟩:=m;obtain⟨t,p,nb,gb,_,db,j⟩:=h;refine(show PP _ _ (isInstance (.ref b) (.type "tuple")>>=_) _ _ s from Zx (Wq ty Wx ?_));refine Zx (X5 ga o (Zx (X5 gb db (Zx ?_))));refine Xw _ (λrest r f=>r.1=J/\f=s/\(rest=[(.ref ca,.ref p),(.bool x.2,.bool y.2)]\/(rest=[(.bool x.2,.bool y.2)]/\x.1=y.1)\/(rest=[]/\x=y))) _ ?turn ?fin _ _ ⟨rfl,rfl,.inl Y⟩
 case turn =>
  rintro⟨u,v⟩ rest r f ⟨i,rfl,d | ⟨d,he⟩ | ⟨d,_⟩⟩
  ·obtain⟨g,rfl⟩:=Ws d;obtain⟨rfl,rfl⟩:=Wj g;refine Zx (Gi (by exact n) l j ?_);by_cases e:x.1=y.1
   ·rw[decide_eq_true e];exact Zm ⟨rfl,rfl,.inr (.inl ⟨rfl,e⟩)⟩
   ·rw[ZK e];rw[ZK (λz=>e (Z5 Prod.fst z))]at q;exact Zx (Zm (Zm (Zm q)))
  ·obtain⟨g,rfl⟩:=Ws d;obtain⟨rfl,rfl⟩:=Wj g;refine Zx (eq_bool ?_);by_cases e:x.2=y.2
   ·rw[show (x.2==y.2)=B by rw[e];exact beq_self_eq_true _];exact Zm ⟨rfl,rfl,.inr (.inr ⟨rfl,VE he e⟩)⟩
   ·rw[show (x.2==y.2)=L by exact Z0.mpr e];rw[ZK (λz=>e (Z5 Prod.snd z))]at q;exact Zx (Zm (Zm (Zm q)))
  ·cases d
 case fin =>
  rintro⟨r1,r2⟩ f ⟨i,rfl,d | ⟨d,_⟩ | ⟨_,he⟩⟩
  ·cases d
  ·cases d
  subst i;rw[decide_eq_true he]at q;exact Zm (show P (.done (.ret (.bool B))) f from q)
def Ep{prog:Re}{w:XAA}{knd:KeyKind prog w K}{A:SB}{E:Z9}{s:IR}{x y:List (List K)×Bool}{a b:KM}{Q:Bool->IR->Prop}(h:A.units+2<cLine)(d:KS knd s.heap x a)(f:KS knd s.heap y b)(q:Q (decide (x=y)) s):PP (KB prog w) A (eqBool (.ref a) (.ref b)) Q E s:=by
 unfold eqBool
 try with_reducible refine Xf ?_
 refine(?_);by_cases g:(Value.ref a==Value.ref b)=B
 ·rw[Zr g];have e:a=b:=by have:=eq_of_beq g;injection this
  subst e;obtain rfl:=d.fn f;exact Zx (Wc (Zm (by simpa using q)))
 ·rw[Zq g];exact Zx (wpAny_richCompare_same_room d.ty f.ty X8 (Y3 X8 d.ty F.entry_tuple_eq (zy (by exact h) d f ⟨_,rfl,(λe=>nomatch e),YM q⟩) (F.args_tuple_eq_2 _ _)) (Yg (Yg h)))
def v8{prog:Re}{w:XAA}{knd:KeyKind prog w K}{A:SB}{E:Z9}{s:IR}{e:List (List K)}{m:Nat}{a:KM}{Q:Bool->IR->Prop}(h:Lr knd s.heap e a)(q:Q B s):PP (KB prog w) A (eqIsQuiet (m+2) (.ref a)) Q E s:=by
 have ty:=h.ty;obtain⟨o,t,m,g,_,d,i⟩:=h;unfold eqIsQuiet;refine Zx (Y2 ty X8.lookup (Zx (Wq ty Wx ?_)));refine Zx (wpAny_seqItems g d (Zx (?_)));rw[← XD];refine Xw _ (λrest r b=>r.1=J/\b=s/\∃j,Ju knd s.heap j rest) _ ?turn ?fin _ _ ⟨rfl,rfl,e,i⟩
 case turn =>
  rintro v rest r b ⟨f,rfl,j,l⟩;cases l with
  |cons p n=>exact Zx (wZ p (Zm ⟨rfl,rfl,_,n⟩))
 case fin =>
  rintro⟨r1,r2⟩ b ⟨f,rfl,_⟩;subst f;exact Zm q
def vW{prog:Re}{w:XAA}{knd:KeyKind prog w K}{A:SB}{E:Z9}{s:IR}{k:List (List K)×Bool}{a:KM}{Q:Bool->IR->Prop}(f:KS knd s.heap k a)(q:Q B s):PP (KB prog w) A (eqIsQuiet 8 (.ref a)) Q E s:=by
 have ty:=f.ty;obtain⟨o,c,m,g,_,d,i⟩:=f;unfold eqIsQuiet;refine Zx (Y2 ty X8.lookup (Zx (Wq ty Wx ?_)));refine Zx (wpAny_seqItems g d (Zx (?_)));rw[← XD];refine Xw _ (λrest r b=>r.1=J/\b=s/\(rest=[.ref c,.bool k.2]\/rest=[.bool k.2]\/rest=[])) _ ?turn ?fin _ _ ⟨rfl,rfl,.inl Y⟩
 case turn =>
  rintro v rest r b ⟨e,rfl,h | h | h⟩
  ·obtain⟨rfl,rfl⟩:=Ws h;exact Zx (v8 i (Zm ⟨rfl,rfl,.inr (.inl Y)⟩))
  ·obtain⟨rfl,rfl⟩:=Ws h;rw[eqIsQuiet_byValue _ Y];exact Zx (Zm (Zm ⟨rfl,rfl,.inr (.inr Y)⟩))
  ·cases h
 case fin =>
  rintro⟨r1,r2⟩ b ⟨e,rfl,_⟩;subst e;exact Zm q
def pair{prog:Re}{w:XAA}(a:KeyKind prog w K):HeapKind prog w (List (List K)×Bool) where
 is:=KS a
 hash:=yQ a
 draws:=λk=>lC k.1+2
 room:=λA=>A.units+2<cLine
 inj:=λd b=>d.fn b
 keeps:=λx h hd g=>x.keeps h hd g
 pyHash:=λe f q=>zJ e f q
 eqBool:=λe d b q=>Ep e d b q
 quiet:=λf q=>vW f q
end NK
end
section
namespace L2
open PySem PySem.Spec PyProof.Rows
abbrev iG:=List (List Key)
abbrev br:=iG×Bool
def hN0(w:XAA)(k:iG):Int:=reduceHash (Builtin.Tuple.tupleHashOf (k.map λx=>reduceHash (Builtin.Tuple.tupleHashOf (x.map (FT w)))))
def hN(w:XAA)(k:br):Int:=reduceHash (Builtin.Tuple.tupleHashOf [hN0 w k.1,if k.2 then 1 else 0])
def FG(w:XAA)(x:br×KM×On):DictEntry:=⟨hN w x.1,.ref x.2.1,x.2.2⟩
abbrev KN:List (br×KM×V)->List (br×KM×On)->Prop:=Paired λp q=>p.1=q.1/\p.2.1=q.2.1/\RelV p.2.2 q.2.2
def DN(a:KM)(e:List (br×KM×V)):HO:=.ext λw h=>e.length<=KF/\(a==sysModules)=L/\∃b:List (br×KM×On),KN e b ∧
 ∃o d f,h.get? a=Z o/\o.ExactDict/\o.data=.dict d f/\d.toList=b.map (FG w)/\(b.map (·.1)).Nodup
def tQ(H:Hp)(k:iG)(b:KM):Prop:=∃a:W6,H b=Z (.tup (a.map V.ref))/\Paired (λ(x:List Key) (c:KM)=>H c=Z (.tup (x.map kV))) k a
def tQ.mono{k:iG}(x:tQ H k b)(t:∀a d,H a=Z (.tup d)->e a=Z (.tup d)):tQ e k b:=by
 obtain⟨f,h,r⟩:=x;exact⟨f,t _ _ h,Paired.NI r λ_ _ z=>t _ _ z⟩
def KH(H:Hp)(k:br)(b:KM):Prop:=∃c,H b=Z (.tup [.ref c,.bl k.2])/\tQ H k.1 c
theorem KH.mono{k:br}(x:KH H k b)(t:∀a d,H a=Z (.tup d)->e a=Z (.tup d)):KH e k b :=
 let ⟨c,h,r⟩:=x;⟨c,t _ _ h,r.mono t⟩
section
variable{H:Hp}
def tQ.is(f:Jm P w H h)(x:tQ H k b):NK.Lr (aQ P w) h k b:=by
 obtain⟨M,e,r⟩:=x;obtain⟨l,d,v,_,o,j,i,n,g⟩:=(f b _ e)
 refine⟨o,d.toArray,n,j,i,g,?_⟩;rw[List.toList_toArray];clear e j i g l
 induction r generalizing d with
 |nil =>
  rw[XY]at v;cases v;exact .nil
 |@cons x c G E y _ s =>
  rw[Zo]at v;cases v with
  |@cons _ u _ _ z t =>
   obtain rfl:=(z)
   obtain⟨_,F,m,_,p,D,C,q,A⟩:=(f c _ y)
   exact .cons ⟨p,F.toArray,q,D,C,A,by simpa using kY m⟩ (s _ t)
theorem KH.is(d:Jm P w H h)(x:KH H k b):NK.KS (aQ P w) h k b:=by
 obtain⟨c,e,r⟩:=x;obtain⟨_,j,v,_,o,i,g,n,f⟩:=d b _ e;cases v with
 |cons r1 v =>
  cases v with
  |cons r2 v =>
   cases v;cases r1;cases r2;exact⟨o,c,n,i,g,f,r.is d⟩
def G1(i:Jm P w H h)(e:H a=Z (DN a g))(s:∀p∈g,KH H p.1 p.2.1):g.length<=KF/\(a==sysModules)=L ∧
  ∃f,KN g f/\h.DictOfH (NK.pair (aQ P w)) a f:=by
 refine L2.ai λR u=>?_;obtain⟨⟨z,y,f,r,o,M,N,G,F,E,D,C⟩,_⟩:=(i a _ e)
 refine u ?_;refine⟨z,y,f,r,o,M,N,G,F,E,D,λx d=>?_,C⟩;have all:∀{l:List (br×KM×V)}{m:List (br×KM×On)},KN l m->(∀p∈l,KH H p.1 p.2.1)->∀x∈m,NK.KS (aQ P w) h x.1 x.2.1:=by
  intro l m q
  induction q with
  |nil=>intro _ x d;exact nomatch d
  |@cons p q Q O j t v =>
   intro n x d;rcases Zh.mp d with e | d
   ·subst e;rw[← j.1,← j.2.1];exact(n p Zy).is i
   ·exact v (λp A=>n p (Zw _ A)) x d
 exact all r s x d
def yz{r:UV}{q:List (br×KM×V)}(z:q.length<=KF)(g:(a==sysModules)=L)(d:KN q e)(s:r.DictOfH (NK.pair (aQ P w)) a e) :
  cU P w t r a (DN a q):=by
 obtain⟨o,n,p,f,m,l,j,_,i⟩:=s;refine⟨⟨z,g,e,d,o,n,p,f,m,l,j,i⟩,⟨o,f⟩,?_⟩;rintro v u ⟨z,g,e,d,o,n,p,f,m,l,j,i⟩ k;exact⟨z,g,e,d,o,n,p,k _ f,m,l,j,i⟩
theorem KN.length{m:List (br×KM×On)}(r:KN l m):l.length=m.length:=Wz r
noncomputable def KR(d:List (br×KM×V))(k:br):Option V:=(d.find? λx=>decide (x.1=k)).map (·.2.2)
def KN.at{l:List (br×KM×V)}{m:List (br×KM×On)}(r:KN l m)(k:br):iL (KR l k) ((atKey m k).map (·.2)):=by
 unfold KR atKey
 induction r with
 |nil=>exact(trivial)
 |@cons p q i g d t f =>
  rw[Z3,Z3,← d.1];by_cases e:p.1=k
  ·simp only[e,decide_true,Y6];exact d.2.2
  ·simp only[e,decide_false];exact f
def KN.add(r:KN l m){p:br×KM×V}{q:br×KM×On}(x:p.1=q.1/\p.2.1=q.2.1/\RelV p.2.2 q.2.2):KN (l++[p]) (m++[q]):=by
 induction r with
 |nil=>exact .cons x .nil
 |cons h _ d=>exact .cons h d
end
section
variable{K:Type}[DecidableEq K]
def sW{prog:Re}{w:XAA}{knd:HeapKind prog w K}{s:IR}(q:knd.room A)(m:knd.is s.heap k a)(F:s.heap.DictOfH knd d g)(D:g.length<=KF)(z:∀p,atKey g k=Z p->Q p.2 { s with toks:=s.toks+knd.draws k })(u:atKey g k=J->∀l,l.DictOfH knd d (g++[(k,a,v)])->Heap.SameBut d s.heap l->Q v { s with heap:=l,toks:=s.toks+knd.draws k }) :
  PP (KB prog w) A (dictSetDefault d (.ref a) v) Q E s:=by
 refine L2.ai λN C=>?_;obtain⟨o,M,H,f,G,hd,he,h,i⟩:=F;refine C ?_;unfold dictSetDefault
 try with_reducible refine Xf ?_
 refine Zx (knd.pyHash q m (Zx (wpAny_dictFind_heap q m f hd he h i (λt=>?_) λj p r=>?_)))
 ·refine Zx (Wc (Zx (wpAny_updateDictKeys (hz:=by have e:=size_of_entries he;lia) f hd (Zm (u (atKey_none_of_get t) _ ⟨_,_,H+1,VH _ f (Obj.isFreed_of_dict (Obj.data_mapDictKeys hd _)),
   G.mapDictKeys _,Obj.data_mapDictKeys hd _,by simp[he,entryOfKey],λx b=>?_,?_⟩ (W0 ..))))))
  ·rcases Zj.mp b with b | b
   ·exact knd.keeps (h x b) f hd (W0 ..)
   ·obtain rfl:=Zl.mp b;exact knd.keeps m f hd (W0 ..)
  ·rw[Yz,ZC];refine⟨i,by simp,λx b y n e=>(not_mem_keys_of_get t) ?_⟩;simp only[Zo,XY,Zl]at n;exact n ▸ e ▸ b
 ·refine Zx (wpAny_dictEntries f hd ?_);rw[entry_at he j,r];exact Zx (Wc (Zm (z p (atKey_of_get i r))))
def pZ(b:HeapKind prog w K){k:K}{a:KM}(d:KM)(r:(d==sysModules)=L)(v:On) :
  MeetsIn prog w (Builtin.«dict.setdefault» ⟨[.ref d,.ref a,v],[]⟩) (λA Rq s=>b.room A.in1/\b.is s.heap k a/\∃e,s.heap.DictOfH b d e/\e.length<=KF ∧
   (∀p,atKey e k=Z p->Rq (.ok (.ret p.2)) { s with toks:=s.toks+b.draws k }) ∧
   (atKey e k=J->∀f,f.DictOfH b d (e++[(k,a,v)])->Heap.SameBut d s.heap f->Rq (.ok (.ret v)) { s with heap:=f,toks:=s.toks+b.draws k })) :=
 .of_wp λA Rq s n=>by
  refine L2.ai λy j=>?_;obtain⟨m,t,e,g,l,i,h⟩:=n;refine j ?_;refine Zx ?_;refine Zx (wpAny_notOrdered_dict g.typeIs (Zm ?_));show PP _ _ (if (d==sysModules)=B then _ else (dictSetDefault d (.ref a) v>>=_)) _ _ s;rw[Zq (by rw[r];simp)];exact Zx (sW m t g l (λp o=>Zm ⟨_,rfl,i p o⟩) λq f x u=>Zm ⟨_,rfl,h q f x u⟩)
end
section
def xo:V->List V->Hp->VK->Prop:=λx e H Q=>∃(a b:KM)(d:List (br×KM×V))(k:br)(y:V),x=.ref a/\e=[.ref b,y]/\H a=Z (DN a d)/\(∀p∈d,KH H p.1 p.2.1)/\KH H k b/\d.length<KF ∧
 (∀v,KR d k=Z v->Q v H)/\(KR d k=J->Q y (upd H a (DN a (d++[(k,b,y)]))))
def tR{X:Cx}(hu:X.A.units+3<cLine):NU X "dict.setdefault" xo:=by
 intro g s O H x vs v us Q I r t h;refine L2.ai λP_ G=>?_;obtain⟨a,b,j,k,y,rfl,rfl,e,Y,U,S,E,D⟩:=h;cases r;obtain⟨u,o,rfl,C,l⟩:=t.two;obtain rfl:=(C)
 obtain⟨z,hd,n,rel,i⟩:=G1 I.xt e Y;refine G ?_;have d:=rel.at k;refine call_meetsIn XB i.typeIs PySem.F.entry_dict_setdefault (Uz _ _ _) (pZ (NK.pair (aQ X.prog X.w)) (k:=k) (a:=b) a hd o) ⟨by show X.A.units+1+2<cLine;omega,U.is I.xt,n,i,(by rw[← rel.length];exact z),λp M=>?_,λR h' m N=>?_⟩
 ·rw[M]at d;cases f:KR j k with
  |none=>rw[f]at d;cases d
  |some w =>
   rw[f]at d;exact⟨w,H,I.tok _,d,E w f⟩
 ·rw[R]at d;exact⟨y,_,iu I (by rw[e];exact True.intro) N (let ⟨q,_,_,P,_⟩:=m;⟨q,P⟩) (yz (by rw[Zv];exact S) hd (rel.add ⟨rfl,rfl,l⟩) m),l,D (by
   cases f:KR j k with
   |none=>rfl
   |some w=>rw[f]at d;cases d)⟩
end
end L2
end
section
namespace VS
open PySem PySem.Spec PyProof.Rows L2
noncomputable def sx(s:Tx):Str:=⟨s.toArray⟩
def j5(s:Tx):Prop:=s.length<=d4/\∀c∈s,c<1114112
noncomputable abbrev Me:=Nat->Option V
structure Gx where
 K:Ww
 ct:Nat->KM×(Nat->Str)
 me:Me:=λ_=>none
def Gx.at(G:Gx)(m:Me):Gx:=⟨G.K,G.ct,m⟩
noncomputable def aE:Key->T
 |.inl i=>.int i
 |.inr x=>.str x.cps.toList
def rm(k:iG):T:=.tup (k.map λx=>T.tup (x.map aE))
def IK(k:br):T:=.tup [rm k.1,.bl k.2]
def kW(K:Ww)(H:Hp)(a:KM)(d:Ur):Prop :=
 (∃o,H a=Z (.frz o (.lst (d.map V.int)))) ∨
  ∃(o:Obj)(b:Array On)(n:Nat),K.lookup a=Z o/\o.cls=.type "list" ∧ o.dict=J/\o.data=.seq b n/\b.size<=KF/\aM (d.map V.int) b.toList
mutual
inductive Rp(G:Gx)(H:Hp):V->T->W6->Prop
 |non:Rp G H .non .non []
 |bl (b:Bool):Rp G H (.bl b) (.bl b) []
 |int (i:Int):Rp G H (.int i) (.int i) []
 |str (s:Tx):j5 s->Rp G H (.str (sx s)) (.str s) []
 |scr {a:KM} {ns:Ur}:kW G.K H a ns->Rp G H (.ref a) (.scr ns) []
 |tup {a:KM} {vs:List V} {ts:Ul} {Fs:Xc}:H a=some (.tup vs)->RpL G H vs ts Fs->Rp G H (.ref a) (.tup ts) Fs.flatten
 |lst {a:KM} {vs:List V} {ts:Ul} {Fs:Xc}:H a=some (.lst vs)->RpL G H vs ts Fs->Rp G H (.ref a) (.lst ts) (a :: Fs.flatten)
 |dct {a:KM} {ks:List Key} {vs:List V} {ts:Ul} {Fs:Xc}:H a=some (.dK (ks.zip vs))->ks.length=vs.length->RpL G H vs ts Fs->Rp G H (.ref a) (.dct 0 ((ks.map aE).zip ts)) (a :: Fs.flatten)
 |dctT {a:KM} {ks:List (List Key)} {vs:List V} {ts:Ul} {Fs:Xc}:H a=some (.dT (ks.zip vs))->ks.length=vs.length->RpL G H vs ts Fs->Rp G H (.ref a) (.dct 1 ((ks.map λk=>T.tup (k.map aE)).zip ts)) (a :: Fs.flatten)
 |dctN {a:KM} {ks:List (br×KM)} {vs:List V} {ts:Ul} {Fs:Xc}:H a=some (DN a ((ks.zip vs).map λp=>(p.1.1,p.1.2,p.2)))->ks.length=vs.length->(∀p∈ks,KH H p.1 p.2)->RpL G H vs ts Fs->Rp G H (.ref a) (.dct 2 ((ks.map λp=>IK p.1).zip ts)) (a :: Fs.flatten)
 |dctZ {a:KM} {o:Obj} {ks:List Key} {vs:List V} {ts:Ul} {Fs:Xc}:H a=some (.frz o (.dK (ks.zip vs)))->ks.length=vs.length->RpL G H vs ts Fs->Rp G H (.ref a) (.dct 3 ((ks.map aE).zip ts)) Fs.flatten
 |exc {c:Nat} {a:KM} {o:Obj}:H a=some (.frz o (.own a))->(o.cls=.ref (G.ct c).1/\o.dict=none/\∃vs,o.data=.fields vs)->Rp G H (.ref a) (.obj c []) []
 |ins {c:Nat} {a dx:KM} {b:Bool} {ks:Us} {vs:List V} {ts:Ul} {Fs:Xc}:H a=some (.ins (G.ct (c+1)).1 dx ((ks.map (G.ct (c+1)).2).zip vs))->ks.length=vs.length->(b=true->G.me 0=some (.ref a))->RpL G H vs ts Fs->Rp G H (.ref a) (.obj (c+1) ((0,.bl b) :: ks.zip ts)) (a :: Fs.flatten)
 |mk {m:Nat} {a:KM} {t:T} {F:W6}:G.me m=some (.ref a)->Rp G H (.ref a) t F->Rp G H (.ref a) (.obj 0 [(0,.bl true),(m,t)]) F
inductive RpL(G:Gx)(H:Hp):List V->Ul->Xc->Prop
 |nil:RpL G H [] [] []
 |cons {v:V} {t:T} {F:W6} {vs:List V} {ts:Ul} {Fs:Xc}:Rp G H v t F->RpL G H vs ts Fs->RpL G H (v :: vs) (t :: ts) (F :: Fs)
end
def RpI(G:Gx)(H:Hp)(v:V)(F:W6):T->Prop
 |.non=>v=.non
 |.bl b=>v=.bl b
 |.int b=>v=.int b
 |.str b=>v=.str (sx b)/\j5 b
 |.scr l=>∃a,v=.ref a/\F=[]/\kW G.K H a l
 |.tup l=>∃a e f,v=.ref a/\F=f.flatten/\H a=Z (.tup e)/\RpL G H e l f
 |.lst l=>∃a e f,v=.ref a/\F=a :: f.flatten/\H a=Z (.lst e)/\RpL G H e l f
 |.dct d l=>match d with
  |0=>∃(a:KM)(ks:List Key)(e:List V)(g:Ul)(f:Xc),v=.ref a/\F=a :: f.flatten/\H a=Z (.dK (ks.zip e))/\ks.length=e.length/\l=(ks.map aE).zip g/\RpL G H e g f
  |3=>∃(a:KM)(o:Obj)(ks:List Key)(e:List V)(g:Ul)(f:Xc),v=.ref a/\F=f.flatten/\H a=Z (.frz o (.dK (ks.zip e)))/\ks.length=e.length/\l=(ks.map aE).zip g/\RpL G H e g f
  |_=>True
 |.obj c fs=>match c,fs with
  |c+1,i :: fs=>∃(h:Nat)(a j:KM)(b:Bool)(ks:Us)(e:List V)(g:Ul)(f:Xc),c+1=h+1/\v=.ref a/\i=(0,.bl b)/\fs=ks.zip g/\F=a :: f.flatten/\H a=Z (.ins (G.ct (h+1)).1 j ((ks.map (G.ct (h+1)).2).zip e))/\ks.length=e.length/\(b=B->G.me 0=Z (.ref a))/\RpL G H e g f
  |0,fs=>∀m t,fs=[(0,.bl B),(m,t)]->∃a,v=.ref a/\G.me m=Z (.ref a)/\Rp G H (.ref a) t F
  |_,_=>True
def Rp.inv(r:Rp G H v t F):RpI G H v F t:=by
 cases r with
 |str s h=>exact⟨rfl,h⟩
 |scr h=>exact⟨_,rfl,rfl,h⟩
 |tup h q=>exact⟨_,_,_,rfl,rfl,h,q⟩
 |lst h q=>exact⟨_,_,_,rfl,rfl,h,q⟩
 |dct h a q=>exact⟨_,_,_,_,_,rfl,rfl,h,a,rfl,q⟩
 |dctZ h a q=>exact⟨_,_,_,_,_,_,rfl,rfl,h,a,rfl,q⟩
 |@exc c=>exact Nat.casesOn (motive:=λc=>RpI G H _ [] (.obj c [])) c (λ_ _ e=>nomatch e) λ_=>trivial
 |ins h l m q=>exact⟨_,_,_,_,_,_,_,_,rfl,rfl,rfl,rfl,rfl,h,l,m,q⟩
 |mk h q=>exact λ_ _ e=>by cases e;exact⟨_,rfl,h,q⟩
 |dctT _ _ _=>trivial
 |dctN _ _ _ _=>trivial
 |_=>rfl
structure Kept(H H':Hp):Prop where
 tup:∀a xs,H a=some (.tup xs)->H' a=some (.tup xs)
 frz:∀a o u,H a=some (.frz o u)->H' a=some (.frz o u)
def Kept.refl(H:Hp):Kept H H:=⟨λ_ _ h=>h,λ_ _ _ h=>h⟩
def Kept.trans{e:Hp}(a:Kept H e)(b:Kept e d):Kept H d:=⟨λc x h=>b.tup c x (a.tup c x h),λc o u h=>b.frz c o u (a.frz c o u h)⟩
def Kept.of(e:aI H b):Kept H b:=⟨λa _ h=>e a _ h,λa _ _ h=>e a _ h⟩
theorem Kept.upd{H:Hp}(d:Il (H a)\/H a=J):Kept H (upd H a o):=by
 have ne:∀b u,H b=Z u->¬Il (Z u)->b≠a:=λb u h nm e=>by
  subst e;rcases d with m | m
  ·rw[h]at m;exact nm m
  ·rw[h]at m;cases m
 exact⟨λb f h=>by rw[aw (ne b _ h λz=>z)];exact h,λb o u h=>by rw[aw (ne b _ h λz=>z)];exact h⟩
def kW.kept{K:Ww}(h:kW K H a b)(k:Kept H d):kW K d a b:=by
 rcases h with⟨o,e⟩ | h
 ·exact .inl ⟨o,k.frz _ _ _ e⟩
 ·exact .inr h
def kW.seq{K:Ww}(h:kW K H a b):Iv K H a (b.map V.int):=by
 rcases h with⟨o,e⟩ | h
 ·exact .inl (.inr ⟨o,e⟩)
 ·exact .inr h
def rM{H d:Hp}{a:KM}{F:W6}(f:∀b∈a :: F,∀o,H b=Z o->d b=Z o):∀b∈F,∀o,H b=Z o->d b=Z o:=λb m=>f b (Zw _ m)
def uS{H a:Hp}{F:W6}{d:Xc}(f:∀b∈(F :: d).flatten,∀o,H b=Z o->a b=Z o):(∀b∈F,∀o,H b=Z o->a b=Z o)/\∀b∈d.flatten,∀o,H b=Z o->a b=Z o:=by
 rw[Z1]at f;exact⟨λb m=>f b (Z8 _ m),λb m=>f b (ZQ _ m)⟩
def Rp.keep(k:Kept H e)(r:Rp G H v t F):(∀a∈F,∀o,H a=Z o->e a=Z o)->Rp G e v t F :=
 Rp.rec (motive_2:=λj q g _=>(∀a∈g.flatten,∀o,H a=Z o->e a=Z o)->RpL G e j q g)
  (λ_=>.non) (λb _=>.bl b) (λi _=>.int i) (λs h _=>.str s h) (λh _=>.scr (h.kept k)) (λh _ d f=>.tup (k.tup _ _ h) (d f)) (λh _ d f=>.lst (f _ Zy _ h) (d (rM f))) (λh l _ d f=>.dct (f _ Zy _ h) l (d (rM f))) (λh l _ d f=>.dctT (f _ Zy _ h) l (d (rM f)))
  (λh l n _ d f=>.dctN (f _ Zy _ h) l (λp m=>(n p m).mono k.tup) (d (rM f))) (λh l _ d f=>.dctZ (k.frz _ _ _ h) l (d f)) (λh x _=>.exc (k.frz _ _ _ h) x) (λh l m _ d f=>.ins (f _ Zy _ h) l m (d (rM f))) (λh _ d f=>.mk h (d f)) (λ_=>.nil) (λ_ _ w u f=>.cons (w (uS f).1) (u (uS f).2)) r
theorem RpL.keep(k:Kept H g):∀{e:List V}{b:Ul}{d:Xc},RpL G H e b d->(∀a∈d.flatten,∀o,H a=Z o->g a=Z o)->RpL G g e b d:=by
 intro e b
 induction b generalizing e with
 |nil=>intro d r f;cases r;exact .nil
 |cons t b h =>
  intro d r f;cases r with
  |cons r q=>exact .cons (r.keep k (uS f).1) (h q (uS f).2)
def Rp.same{G:Gx}{H:Hp}(e:aI H b)(r:Rp G H v t F):Rp G b v t F:=r.keep (Kept.of e) λa _ o h=>e a o h
def RpL.same{G:Gx}{H:Hp}(e:aI H b)(r:RpL G H v t F):RpL G b v t F:=r.keep (Kept.of e) λa _ o h=>e a o h
def yq{H:Hp}{a:KM}{F:W6}(h:Il (H a))(d:∀b∈F,Il (H b)):∀b∈a :: F,Il (H b):=λb m=>(Zh.mp m).elim (λe=>e ▸ h) (d b)
def yN{H:Hp}{a:KM}{o:HO}(h:H a=Z o)(m:Il (Z o)):Il (H a):=by rw[h];exact m
def Hi{H:Hp}{F:W6}{a:Xc}(e:∀b∈F,Il (H b))(d:∀b∈a.flatten,Il (H b)):∀b∈(F :: a).flatten,Il (H b):=λb m=>by
 rw[Z1]at m;exact(Zj.mp m).elim (e b) (d b)
def Rp.Iu(r:Rp G H v t F):∀a∈F,Il (H a) :=
 Rp.rec
  (λ_ m=>nomatch m) (λ_ _ m=>nomatch m) (λ_ _ m=>nomatch m) (λ_ _ _ m=>nomatch m) (λ_ _ m=>nomatch m) (λ_ _ b=>b) (λh _ b=>yq (yN h True.intro) b) (λh _ _ b=>yq (yN h True.intro) b) (λh _ _ b=>yq (yN h True.intro) b)
  (λh _ _ _ b=>yq (yN h True.intro) b) (λ_ _ _ b=>b) (λ_ _ _ m=>nomatch m) (λh _ _ _ b=>yq (yN h True.intro) b) (λ_ _ b=>b) (λ_ m=>nomatch m) (λ_ _ e d=>Hi e d) r
theorem RpL.Iu:∀{e:List V}{b:Ul}{d:Xc},RpL G H e b d->∀a∈d.flatten,Il (H a):=by
 intro e b
 induction b generalizing e with
 |nil=>intro d r;cases r;exact λ_ m=>nomatch m
 |cons t b f =>
  intro d r;cases r with
  |cons r q=>exact Hi r.Iu (f q)
def Il.xa(m:Il o):o≠J:=λe=>by subst e;exact m
def Hs{b:Xc}(e:VS.Iw t=B->F=[])(d:VS.fU a=B->b.flatten=[])(i:VS.fU (t :: a)=B):(F :: b).flatten=[]:=by
 have i:=ZS.mp i;rw[Z1,e i.1,d i.2];rfl
theorem Rp.Iw(r:Rp G H v t F):VS.Iw t=B->F=[] :=
 Rp.rec
  (λ_=>rfl) (λ_ _=>rfl) (λ_ _=>rfl) (λ_ _ _=>rfl) (λ_ _=>rfl) (λ_ _ a i=>a i) (λ_ _ _ i=>absurd (i) Zf) (λ_ _ _ _ i=>absurd (i) Zf) (λ_ _ _ _ i=>absurd (i) Zf)
  (λ_ _ _ _ _ i=>absurd (i) Zf) (λ_ _ _ _ i=>absurd (i) Zf) (λ_ _ _=>rfl) (λ_ _ _ _ _ i=>absurd (i) Zf) (λ_ _ _ i=>absurd (i) Zf) (λ_=>rfl) (λ_ _ d b i=>Hs d b i) r
theorem RpL.Iw:∀{d:List V}{a:Ul}{b:Xc},RpL G H d a b->VS.fU a=B->b.flatten=[]:=by
 intro d a
 induction a generalizing d with
 |nil=>intro b r i;cases r;exact rfl
 |cons t a e =>
  intro b r i;cases r with
  |cons r q=>exact Hs r.Iw (e q) i
def RpL.len:∀{b:List V}{a:Ul}{d:Xc},RpL G H b a d->b.length=a.length/\d.length=a.length:=by
 intro b a
 induction a generalizing b with
 |nil=>intro d r;cases r;exact⟨rfl,rfl⟩
 |cons t a e =>
  intro d r;cases r with
  |cons r q=>exact⟨Z5 (·+1) (e q).1,Z5 (·+1) (e q).2⟩
theorem RpL.get{G:Gx}:∀{a:List V}{b:Ul}{d:Xc}(i:Nat){t:T},RpL G H a b d->b[i]?=Z t->∃v F,a[i]?=Z v/\d[i]?=Z F/\Rp G H v t F
 |_,_,_,_,_,.nil,e=>by simp at e
 |_,_,_,0,_,.cons r _,e=>by
  simp at e;subst e;exact⟨_,_,rfl,rfl,r⟩
 |_,_,_,i+1,_,.cons _ q,e=>by
  obtain⟨v,F,h,g,f⟩:=RpL.get i q (by simpa using e);exact⟨v,F,by simpa using h,by simpa using g,f⟩
def RpL.append:∀{b:List V}{a:Ul}{g:Xc}{d:List V}{e:Ul}{f:Xc},RpL G H b a g->RpL G H d e f->RpL G H (b++d) (a++e) (g++f):=by
 intro b a
 induction a generalizing b with
 |nil=>intro g d e f r s;cases r;exact s
 |cons t a h =>
  intro g d e f r s;cases r with
  |cons r q=>exact .cons r (h q s)
theorem RpL.take:∀{a:List V}{b:Ul}{d:Xc}(n:Nat),RpL G H a b d->RpL G H (a.take n) (b.take n) (d.take n)
 |_,_,_,0,_=>by simpa using RpL.nil
 |_,_,_,n+1,.nil=>.nil
 |_,_,_,n+1,.cons r q=>.cons r (RpL.take n q)
theorem RpL.drop:∀{a:List V}{b:Ul}{d:Xc}(n:Nat),RpL G H a b d->RpL G H (a.drop n) (b.drop n) (d.drop n)
 |_,_,_,0,q=>q
 |_,_,_,n+1,.nil=>.nil
 |_,_,_,n+1,.cons r q=>RpL.drop n q
noncomputable def lW:Cell->T
 |.pu t=>t
 |.ow t=>t
noncomputable abbrev Iq:=Nat->W6
structure SR(G:Gx)(R:Iq)(U:VS.Env)(O:L2.St)(H:Hp):Prop where
 len:U.length=O.length
 rp:∀i c,U[i]?=some (some c)->∃v,O[i]?=some (some v)/\Rp G H v (lW c) (R i)
 nd:∀i t,U[i]?=some (some (.ow t))->(R i).Nodup
 sep:∀i j t c,U[i]?=some (some (.ow t))->U[j]?=some (some c)->i≠j->∀a∈R i,a∉R j
noncomputable def dG(R:Iq)(U:VS.Env)(a:KM):Prop:=∃j t,U[j]?=Z (Z (.pu t))/\a∈R j
noncomputable def bX(R:Iq)(U:VS.Env)(a:KM):Prop:=∃j t,U[j]?=Z (Z (.ow t))/\a∈R j
def Fp(R:Iq)(U:VS.Env)(H:Hp):Md->W6->Prop
 |.fr,F=>F.Nodup/\∀a∈F,H a=J
 |.pu,F=>∀a∈F,H a=J\/dG R U a
 |.bo,F=>∀a∈F,H a=J\/dG R U a\/bX R U a
theorem SR.same{G:Gx}{H:Hp}(s:SR G R U O H)(e:aI H a):SR G R U O a :=
 ⟨s.len,λi c h=>let ⟨v,d,b⟩:=s.rp i c h;⟨v,d,b.same e⟩,s.nd,s.sep⟩
def SR.MV(s:SR G R U O H)(h:dG R U a):Il (H a):=by
 obtain⟨j,t,d,b⟩:=h;obtain⟨v,_,r⟩:=s.rp j _ d;exact r.Iu a b
def SR.JN(s:SR G R U O H)(h:bX R U a):Il (H a):=by
 obtain⟨j,t,d,b⟩:=h;obtain⟨v,_,r⟩:=s.rp j _ d;exact r.Iu a b
def Fp.nil:Fp R U H m []:=by
 cases m
 ·exact⟨Xy,λa h=>by simp at h⟩
 ·exact λa h=>by simp at h
 ·exact λa h=>by simp at h
theorem Fp.bo{H:Hp}:∀{m:Md},Fp R U H m F->Fp R U H .bo F
 |.fr,h=>λa m=>.inl (h.2 a m)
 |.pu,h=>λa m=>(h a m).elim .inl λz=>.inr (.inl z)
 |.bo,h=>h
theorem Fp.pu{H:Hp}:∀{m:Md},m ≠ .bo->Fp R U H m F->Fp R U H .pu F
 |.fr,_,h=>λa m=>.inl (h.2 a m)
 |.pu,_,h=>h
 |.bo,n,_=>absurd Y n
theorem Fp.back(e:aI H b):∀{m:Md},Fp R U b m F->Fp R U H m F
 |.fr,h=>⟨h.1,λa m=>e.free (h.2 a m)⟩
 |.pu,h=>λa m=>(h a m).imp e.free id
 |.bo,h=>λa m=>(h a m).imp e.free id
theorem Fp.up{U:VS.Env}(f:Fp R U H m F)(r:Rp G a v t F):Fp R U H (VS.up m t).1 F:=by
 unfold VS.up;by_cases h:VS.Iw t=B
 ·rw[r.Iw h];exact Fp.nil
 ·simp only[h,if_false,Y8];exact f
def tE(G:Gx)(c:Ex):TE:=λO H Q=>∃R U m r,SR G R U O H/\c U=Z (m,r)/\∀v a F,aI H a->Rp G a v r F->Fp R U H m F->Q v a
def PV(G:Gx)(X:Cx)(e:Expr)(c:Ex):Prop:=PE X e (tE G c)
def PE.weak{X:Cx}(h:PE X e t)(w:∀O H Q,b O H Q->t O H Q):PE X e b:=λa s O H Q I q=>h a s O H Q I (w O H Q q)
def PT.weak{X:Cx}(h:PT X e t)(w:∀O H Q,b O H Q->t O H Q):PT X e b:=λa s O H Q I q=>h a s O H Q I (w O H Q q)
def PA.weak{X:Cx}(h:PA X e t)(w:∀O H Q,b O H Q->t O H Q):PA X e b:=λpos a s O H Q I q=>h pos a s O H Q I (w O H Q q)
def tT(G:Gx)(c:Ex):TT:=λO H Q=>∃R U m r b,SR G R U O H/\c U=Z (m,r)/\NA r=Z b/\∀a,aI H a->Q b a
def Lk(G:Gx)(X:Cx)(e:Expr)(c:Ex):Prop:=PT X e (tT G c)
noncomputable def JJ(l:Uo)(a:Xc):W6:=match l,a with
 |v :: l,F :: a=>match v.1 with
  |.fr=>F++JJ l a
  |_=>JJ l a
 |_,_=>[]
structure NW(R:Iq)(U:VS.Env)(H:Hp)(l:Uo)(Fs:Xc):Prop where
 each:∀(i:Nat) v F,l[i]?=some v->Fs[i]?=some F->Fp R U H v.1 F
 nd:(JJ l Fs).Nodup
def P8(G:Gx)(c:IE):TA:=λO H Q=>∃R U l,SR G R U O H/\c U=Z l/\∀b a d,aI H a->RpL G a b (trees l) d->NW R U H l d->Q b a
def Jj(G:Gx)(X:Cx)(a:List Expr)(c:IE):Prop:=PA X a (P8 G c)
section
def au{i j pos}:PV G X (.Constant (.int i) j pos) (Q3 i):=PE.weak qO λO H Q d=>by
 obtain⟨R,U,m,r,s,e,k⟩:=d;cases (e);exact k _ _ _ (aI.refl _) (.int i) Fp.nil
def pq{i j pos}:PV G X (.Constant (.bool i) j pos) (eC (.bl i)):=PE.weak GL λO H Q d=>by
 obtain⟨R,U,m,r,s,e,k⟩:=d;cases (e);exact k _ _ _ (aI.refl _) (.bl i) Fp.nil
def tN{j pos}:PV G X (.Constant .none j pos) (eC .non):=PE.weak ES λO H Q d=>by
 obtain⟨R,U,m,r,s,e,k⟩:=d;cases (e);exact k _ _ _ (aI.refl _) .non Fp.nil
def d6{j pos}(h:x=sx t:=by decide +kernel)(f:{`q1,j5 t}):PV G X (.Constant (.str x) j pos) (eC (.str t)):=PE.weak yJ λO H Q d=>by
 obtain⟨R,U,m,r,s,e,k⟩:=d;cases (e);subst h;exact k _ _ _ (aI.refl _) (.str t f) Fp.nil
def bH{X:Cx}(i:Nat)(w:{`q2,X.N[i]?=Z x})(p:{`q5,KG X.env.scope x})(u:{`q1,K3 x})(j:{`q1,K4 x}):PV G X (.Name x g) (aa i):=PE.weak (dk w p u j) λO H Q q=>by
 obtain⟨R,U,m,r,s,e,k⟩:=q;unfold aa at e;split at e
 ·rename_i t h;obtain⟨v,n,d⟩:=s.rp _ _ h;have o:=Zg e;have y:t=r:=Z5 Prod.snd o;have em:(VS.up .pu t).1=m:=Z5 Prod.fst o;rw[← y,← em]at k;refine⟨v,n,k v H (R i) (aI.refl _) d ?_⟩;have f:Fp R U H .pu (R i):=λa l=>.inr ⟨i,_,h,l⟩;exact f.up d
 ·rename_i t h;obtain⟨v,n,d⟩:=s.rp _ _ h;cases e;exact⟨v,n,k v H (R i) (aI.refl _) d λa l=>.inr (.inr ⟨i,_,h,l⟩)⟩
 ·cases e
def A8{v:V}(i:Gl X x)(h:X.mg x=Z u)(r:RelV v u)(f:∀H,Rp G H v t [])(j:{`q1,K3 x}):PV G X (.Name x d) (eC t) :=
 PE.weak (uT i h r j) λO H Q g=>by
  obtain⟨R,U,m,l,s,e,k⟩:=g;cases (e);exact k _ _ _ (aI.refl _) (f H) Fp.nil
structure Rt(G:Gx)(R:Iq)(U:VS.Env)(H0 H:Hp)(x y:Val)(u w:V)(F1 F2:W6):Prop where
 same:aI H0 H
 r1:Rp G H u x.2 F1
 r2:Rp G H w y.2 F2
 f1:Fp R U H0 x.1 F1
 f2:Fp R U H0 y.1 F2
 nd:x.1=.fr->y.1=.fr->(F1++F2).Nodup
def fT(G:Gx)(r:Ja)(f:Val->Val->Um):Prop:=∀(R:Iq)(U:VS.Env)(e H:Hp)(x y:Val)(u w:V)(h g:W6)(m:Md)(t:T)(Q:VK),Rt G R U e H x y u w h g->f x y=Z (m,t) →
 (∀v d F,aI H d->Rp G d v t F->Fp R U e m F->Q v d)->r u w H Q
def yr{G:Gx}{ca cb:Ex}{O:L2.St}{H:Hp}{Q:V->V->Hp->Prop}{R:Iq}{U:VS.Env}{x y:Val}(s:SR G R U O H)(m:ca U=Z x)(l:cb U=Z y)(k:∀u w d f e,Rt G R U H d x y u w f e->Q u w d):tE G ca O H λu g=>tE G cb O g λw d=>Q u w d:=by
 refine⟨R,U,x.1,x.2,s,m,λu g f e1 r1 f1=>⟨R,U,y.1,y.2,s.same e1,l,λw d e e2 r2 f2=>k u w d f e ⟨e1.trans e2,r1.same e2,r2,f1,f2.back e1,λi h=>?_⟩⟩⟩;rw[i]at f1;rw[h]at f2;refine ZC.mpr ⟨f1.1,f2.1,λa j b hb z=>?_⟩;subst z;exact Il.xa (r1.Iu a j) (f2.2 a hb)
def lh(g:fT G r f)(h:tE G (e2 f ca cb) O H Q):P7 r (tE G ca) (tE G cb) O H Q:=by
 obtain⟨R,U,m,t,s,e,k⟩:=h;obtain⟨x,j,e⟩:=Zz.mp e;obtain⟨y,i,e⟩:=Zz.mp e;exact yr s j i λu w l p o d=>g R U H l x y u w p o m t Q d e λv n F e1 r1 f1=>k v n F (d.same.trans e1) r1 f1
def iQ(g:OpR X (binaryOp d) r)(e:fT G r f)(j:PV G X a ca)(i:PV G X b cb):PV G X (.BinOp a d b pos) (e2 f ca cb) :=
 PE.weak (FO g j i) λO H Q h=>lh e h
def uC(g:OpR X (UF d) r)(e:fT G r f)(l:PV G X a ca)(j:PV G X b cb)(i:behindInMarks d b=L):PV G X (.Compare a [d] [b] pos) (e2 f ca cb) :=
 PE.weak (CG g l j i) λO H Q h=>lh e h
noncomputable def Tells(f:Val->Val->Um):Prop:=∀x y m t,f x y=Z (m,t)->∃b,t=.bl b
def Rp.Jw{b:Bool}(r:Rp G H v (.bl b) F):v=.bl b:=r.inv
def Rp.int_inv{b:Int}(r:Rp G H v (.int b) F):v=.int b:=r.inv
def Rp.str_inv{b:Tx}(r:Rp G H v (.str b) F):v=.str (sx b)/\j5 b:=r.inv
def sE{c:Ex}(h:tT G c O H Q)(f:∀U m r,c U=Z (m,r)->∃b,r=.bl b)(w:∀Q,tE G c O H Q->t O H Q):yf t O H Q:=by
 obtain⟨R,U,m,r,b,s,e,d,k⟩:=h;refine w _ ⟨R,U,m,r,s,e,λv i F e1 r1 f1=>?_⟩;obtain⟨j,g⟩:=f U m r e;rw[g]at d r1;cases (d);exact⟨_,r1.Jw,k i e1⟩
def fX(j:OpR X (UF d) r)(g:fT G r f)(i:Tells f)(o:PV G X a ca)(n:PV G X b cb)(l:behindInMarks d b=L):Lk G X (.Compare a [d] [b] pos) (e2 f ca cb) :=
 PT.weak (BK j o n l) λO H Q h=>sE h (λU m r e=>by
  obtain⟨x,_,e⟩:=Zz.mp e;obtain⟨y,_,e⟩:=Zz.mp e;exact i x y m r e) λQ h=>lh g h
def bz{G:Gx}{R:Iq}{U:VS.Env}{e H:Hp}{m:Md}{t:T}{v:V}{Q:VK}(k:∀v d F,aI H d->Rp G d v t F->Fp R U e m F->Q v d)(r:Rp G H v t []):Q v H:=k v H [] (aI.refl _) r Fp.nil
def bZ(h:H p=J):aI H (upd H p o):=λb d e=>by rw[aw (bD e h)];exact e
theorem Fp.new(d:g p=J)(h:p∉F):∀{m:Md},Fp R U g m F->Fp R U g m (p :: F)
 |.fr,f=>⟨Zc.mpr ⟨h,f.1⟩,λa m=>(Zh.mp m).elim (λe=>by rw[e];exact d) (f.2 a)⟩
 |.pu,f=>λa m=>(Zh.mp m).elim (λe=>by rw[e];exact .inl d) (f a)
 |.bo,f=>λa m=>(Zh.mp m).elim (λe=>by rw[e];exact .inl d) (f a)
def pP(e:Lm d l=Z (m,t)):t=.lst l/\l.length<=d4/\m=(if fU l then .fr else d):=by
 unfold Lm at e;split at e
 ·rename_i h;cases e;exact⟨rfl,h,rfl⟩
 ·cases e
def jD{G:Gx}{R:Iq}{U:VS.Env}{i H:Hp}{o m:Md}{l:Ul}{t:T}{n:List V}{q:Xc}{Q:VK}(d:aI i H)(e:Lm o l=Z (m,t))(r:RpL G H n l q)(f:Fp R U i o q.flatten)(k:∀v j F,aI H j->Rp G j v t F->Fp R U i m F->Q v j):∀p,H p=J->Q (.ref p) (upd H p (.lst n)):=by
 intro p g;obtain⟨rfl,s,rfl⟩:=pP e;refine k _ _ _ (bZ g) (.lst ar (r.same (bZ g))) ?_;have np:=λm=>Il.xa (r.Iu p m) g;by_cases h:fU l=B
 ·rw[h,Zr Y];rw[r.Iw h]at np ⊢;exact Fp.nil.new (d.free g) np
 ·rw[Zq h];exact f.new (d.free g) np
theorem Rt.join(i:Rt G R U h H x y u w f e){F:W6}(g:F.Sublist (f++e)):Fp R U h (x.1.join y.1) F:=by
 obtain⟨same,r1,r2,f1,f2,nd⟩:=i;obtain⟨l,x⟩:=x;obtain⟨j,y⟩:=y;have both:∀{P:KM->Prop},(∀a∈f,P a)->(∀a∈e,P a)->∀a∈F,P a:=λn m a d=>((λa d=>Zj.mp (g.subset d)) a d).elim (n a) (m a);cases l<;>cases j
 ·exact⟨(nd Y Y).sublist g,both f1.2 f2.2⟩
 ·exact both (λa d=>.inl (f1.2 a d)) f2
 ·exact both (λa d=>.inl (f1.2 a d)) f2
 ·exact both f1 (λa d=>.inl (f2.2 a d))
 ·exact both f1 f2
 ·exact both (f1.bo) f2
 ·exact both f1 (λa d=>.inl (f2.2 a d))
 ·exact both f1 (f2.bo)
 ·exact both f1 f2
def gz:d4=sizeLine:=rfl
def dQ(s:Tx):(sx s).length=s.length:=rfl
def EL(s t:Tx):sx s++sx t=sx (s++t):=by
 show Str.append (sx s) (sx t)=_;simp[sx,Str.append]
def Rp.lst_inv(r:Rp G H v (.lst l) F):∃a d e,v=.ref a/\F=a :: e.flatten/\H a=Z (.lst d)/\RpL G H d l e:=r.inv
def Rp.JA(r:Rp G H v (.tup l) F):∃a d e,v=.ref a/\F=e.flatten/\H a=Z (.tup d)/\RpL G H d l e:=r.inv
def Rp.NG(r:Rp G H v (.scr l) F):∃a,v=.ref a/\F=[]/\kW G.K H a l:=r.inv
end
section
def Hq:Ja:=λx y H Q=>LZ (λi j=>.int (i+j)) x y H Q\/(∃i j,x=.str i/\y=.str j/\i.length+j.length<=KF/\Q (.str (i++j)) H)\/Hf x y H Q
def AG:OpR X (binaryOp .Add) Hq:=Es.or (tJ.or Eh)
def Dg:fT G Hq dH:=by
 intro R U E H x y u w A z m t Q f e k;have q:=λ{F:W6} (h:List.Sublist F (A++z))=>f.join h;obtain⟨D,x⟩:=x;obtain⟨C,y⟩:=y;obtain⟨same,r1,r2,f1,f2,nd⟩:=f;unfold dH at e;split at e
 ·rename_i i _ j e1 e2;cases e1;cases e2;cases e;exact .inl ⟨_,_,r1.int_inv,r2.int_inv,bz k (.int _)⟩
 ·rename_i s _ p e1 e2;cases e1;cases e2;split at e
  ·rename_i d;cases e;refine .inr (.inl ⟨_,_,r1.str_inv.1,r2.str_inv.1,by rw[dQ,dQ,← gz];exact d,?_⟩);rw[EL];exact bz k (.str _ ⟨by rw[Zv];exact d,λc r=>(Zj.mp r).elim (r1.str_inv.2.2 c) (r2.str_inv.2.2 c)⟩)
  ·cases e
 ·rename_i s _ p e1 e2;cases e1;cases e2;obtain⟨a,n,N,rfl,rfl,v,l⟩:=r1.lst_inv;obtain⟨b,o,M,rfl,rfl,hb,g⟩:=r2.lst_inv;obtain⟨_,d,_⟩:=pP e;refine .inr (.inr ⟨a,b,n,o,rfl,rfl,v,hb,?_,jD same e (l.append g) (q ?_) k⟩)
  ·rw[Zv]at d;rw[l.len.1,g.len.1,← gz];exact d
  ·rw[Yt];exact(YY _ _).append (YY _ _)
 ·cases e
def uF:fT G (LZ λi j=>.int (i-j)) qu:=by
 intro R U f H x y u w h g m t Q a e k;obtain⟨d,x⟩:=x;obtain⟨b,y⟩:=y;obtain⟨same,r1,r2,f1,f2,nd⟩:=a;unfold qu at e;split at e
 ·rename_i e1 e2;cases e1;cases e2;cases e;exact⟨_,_,r1.int_inv,r2.int_inv,bz k (.int _)⟩
 ·cases e
def As:fT G (rI Hj λi j=>.int (i/j)) cA:=by
 intro R U f H x y u w l g m t Q a e k;obtain⟨d,x⟩:=x;obtain⟨b,y⟩:=y;obtain⟨same,r1,r2,f1,f2,nd⟩:=a;unfold cA at e;split at e
 ·rename_i e1 e2;cases e1;cases e2;split at e
  ·rename_i h;cases e;exact⟨_,_,r1.int_inv,r2.int_inv,h,bz k (.int _)⟩
  ·cases e
 ·cases e
def Fq:fT G (rI (λ_ j=>0<j) λi j=>.int (i%j)) oMod:=by
 intro R U f H x y u w l g m t Q a e k;obtain⟨d,x⟩:=x;obtain⟨b,y⟩:=y;obtain⟨same,r1,r2,f1,f2,nd⟩:=a;unfold oMod at e;split at e
 ·rename_i e1 e2;cases e1;cases e2;split at e
  ·rename_i h;cases e;exact⟨_,_,r1.int_inv,r2.int_inv,h,bz k (.int _)⟩
  ·cases e
 ·cases e
theorem ly:∀(s t:Tx),Mp s t=decide (s<t)
 |[],[]=>by simp[Mp]
 |[],_ :: _=>by simp[Mp]
 |_ :: _,[]=>by simp[Mp]
 |a :: s,b :: t=>by
  unfold Mp;rw[ly s t];by_cases e:a<b
  ·simp[e,YQ]
  ·by_cases d:b<a
   ·have:¬a=b:=by exact Vu d
    simp[e,d,YQ,this]
   ·have:a=b:=by lia
    subst this;simp[YQ]
def rLt:Ja:=λx y H Q=>LZ (λi j=>.bl (decide (i<j))) x y H Q\/(∃i j,x=.str i/\y=.str j/\Q (.bl (decide (i.cps.toList<j.cps.toList))) H)
def uq:OpR X (UF .Lt) rLt:=FI.or wa
def zA:fT G rLt oLt:=by
 intro R U g H x y u w i h m t Q b e k;obtain⟨f,x⟩:=x;obtain⟨d,y⟩:=y;obtain⟨same,r1,r2,f1,f2,nd⟩:=b;unfold oLt at e;split at e
 ·rename_i e1 e2;cases e1;cases e2;cases e;exact .inl ⟨_,_,r1.int_inv,r2.int_inv,bz k (.bl _)⟩
 ·rename_i s _ a e1 e2;cases e1;cases e2;cases e;refine .inr ⟨_,_,r1.str_inv.1,r2.str_inv.1,?_⟩;have:decide ((sx s).cps.toList<(sx a).cps.toList)=Mp s a:=by rw[ly];exact decide_eq_decide.mpr (by simp[sx])
  rw[this];exact bz k (.bl _)
 ·cases e
def kA:Tells oLt:=by
 intro x y m t e;unfold oLt at e;split at e<;>first | (cases e;exact⟨_,rfl⟩) | cases e
def Do:Rv=2 ^ 64:=rfl
def n9:fT G (rI B8 λi j=>.int (i*j)) oE:=by
 intro R U f H x y u w l g m t Q a e k;obtain⟨d,x⟩:=x;obtain⟨b,y⟩:=y;obtain⟨same,r1,r2,f1,f2,nd⟩:=a;unfold oE at e;split at e
 ·rename_i e1 e2;cases e1;cases e2;split at e
  ·rename_i h;cases e;refine⟨_,_,r1.int_inv,r2.int_inv,?_,bz k (.int _)⟩;rw[Do]at h;exact h
  ·cases e
 ·cases e
def vQ:OpR X (UF .LtE) (λx y H Q=>∃i j,x=.str i/\y=.str j/\Q (.bl (!decide (j.cps.toList<i.cps.toList))) H):=by
 intro a s O H x y v u Q I d b h;obtain⟨i,j,rfl,rfl,q⟩:=h;obtain⟨t,rfl⟩:=d;obtain⟨e,rfl⟩:=b;exact PySem.P.le_str ⟨.bl _,H,I,rfl,q⟩
def rLe:Ja:=λx y H Q=>LZ (λi j=>.bl (decide (i<=j))) x y H Q\/(∃i j,x=.str i/\y=.str j/\Q (.bl (!decide (j.cps.toList<i.cps.toList))) H)
def EW:OpR X (UF .LtE) rLe:=GW.or vQ
def G7:fT G rLe oLe:=by
 intro R U g H x y u w i h m t Q b e k;obtain⟨f,x⟩:=x;obtain⟨d,y⟩:=y;obtain⟨same,r1,r2,f1,f2,nd⟩:=b;unfold oLe at e;split at e
 ·rename_i e1 e2;cases e1;cases e2;cases e;exact .inl ⟨_,_,r1.int_inv,r2.int_inv,bz k (.bl _)⟩
 ·rename_i s _ a e1 e2;cases e1;cases e2;cases e;refine .inr ⟨_,_,r1.str_inv.1,r2.str_inv.1,?_⟩;have:decide ((sx a).cps.toList<(sx s).cps.toList)=Mp a s:=by rw[ly];exact decide_eq_decide.mpr (by simp[sx])
  rw[this];exact bz k (.bl _)
 ·cases e
def y9:Tells oLe:=by
 intro x y m t e;unfold oLe at e;split at e<;>first | (cases e;exact⟨_,rfl⟩) | cases e
def uj{i:Int}:JY n i=OI n i:=by
 unfold JY OI;by_cases h:0<=i
 ·rw[Zr h,Zr h]
 ·rw[Zq h,Zq h];by_cases a:0<=i+n
  ·rw[Zr a,Zr (by lia)]
  ·rw[Zq a,Zq (by lia)]
def oo{α:Type}{l:List α}{i:Int}{k:Nat}{x:α}(b:JY l.length i=Z k)(a:l[k]?=Z x):Pd l i=Z x:=by
 unfold Pd;rw[← uj,b];exact a
def cz{a:Xc}{F:W6}{i:Nat}(h:a[i]?=Z F):F.Sublist a.flatten:=by
 obtain⟨b,rfl⟩:=ZZ.mp h;exact List.sublist_flatten_of_mem (Yo b)
theorem Fp.sub{F:W6}(h:F.Sublist d):∀{m:Md},Fp R U H m d->Fp R U H m F
 |.fr,f=>⟨f.1.sublist h,λa b=>f.2 a (h.subset b)⟩
 |.pu,f=>λa b=>f a (h.subset b)
 |.bo,f=>λa b=>f a (h.subset b)
def yE:fT G (Sv G.K) aH:=by
 intro R U O H x y u w S P m t Q C e k;obtain⟨N,x⟩:=x;obtain⟨M,y⟩:=y;obtain⟨same,r1,r2,f1,f2,nd⟩:=C;unfold aH at e;split at e
 ·rename_i p l o i e1 e2;cases e1;cases e2;obtain⟨j,d,e⟩:=Zz.mp e;obtain⟨x,b,e⟩:=Zt.mp e;obtain⟨a,n,E,rfl,rfl,q,h⟩:=r1.lst_inv;obtain⟨v,F,s,r,g⟩:=h.get j b;refine .inl ⟨a,n,i,v,rfl,r2.int_inv,Iv.of q,oo (by rw[h.len.1];exact d) s,?_⟩;have f:=((f1.sub (YY _ _)).sub (cz r)).up g;unfold VS.sub at e;rw[e]at f;have z:x=t:=Z5 Prod.snd e;rw[z]at g;exact k v H F (aI.refl _) g f
 ·rename_i p l o i e1 e2;cases e1;cases e2;obtain⟨j,d,e⟩:=Zz.mp e;obtain⟨x,b,e⟩:=Zt.mp e;obtain⟨a,n,E,rfl,rfl,q,h⟩:=r1.JA;obtain⟨v,F,s,r,g⟩:=h.get j b;refine .inr (.inl ⟨a,n,i,v,rfl,r2.int_inv,Jy.of q,oo (by rw[h.len.1];exact d) s,?_⟩);have f:=(f1.sub (cz r)).up g;unfold VS.sub at e;rw[e]at f;have z:x=t:=Z5 Prod.snd e;rw[z]at g;exact k v H F (aI.refl _) g f
 ·rename_i p l o i e1 e2;cases e1;cases e2;obtain⟨j,d,e⟩:=Zz.mp e;obtain⟨x,b,e⟩:=Zt.mp e;cases e;obtain⟨a,rfl,rfl,sa⟩:=r1.NG;refine .inl ⟨a,l.map V.int,i,.int x,rfl,r2.int_inv,sa.seq,oo (by rw[Zu];exact d) (by rw[ZL,b];rfl),bz k (.int _)⟩
 ·rename_i p l o i e1 e2;cases e1;cases e2;obtain⟨j,d,e⟩:=Zz.mp e;obtain⟨x,b,e⟩:=Zt.mp e;cases e;obtain⟨rfl,A⟩:=r1.str_inv;refine .inr (.inr ⟨sx l,i,x,rfl,r2.int_inv,by rw[dQ,← gz];exact A.1,oo (k:=j) (by simpa[sx] using d) (by simpa[sx] using b),?_⟩);exact bz k (.str [x] ⟨by show 1<=d4;decide,λc D=>by rw[Zl.mp D];exact A.2 x (Yb b)⟩)
 ·cases e
end
section
theorem vn:∀{l:Uo}{d:Xc},x∈JJ l d->∃(i:Nat)(v:Val)(F:W6),l[i]?=Z v/\v.1=.fr/\d[i]?=Z F/\x∈F
 |[],_,h=>by simp[JJ]at h
 |_ :: _,[],h=>by simp[JJ]at h
 |v :: l,F :: d,h=>by
  have go:x∈JJ l d->∃(i:Nat)(u:Val)(f:W6),(v :: l)[i]?=Z u/\u.1=.fr/\(F :: d)[i]?=Z f/\x∈f:=λm=>by
   refine L2.ai λs g=>?_;obtain⟨i,u,f,r,q,o,n⟩:=vn m;refine g ?_;exact⟨i+1,u,f,by simpa using r,q,by simpa using o,n⟩
  unfold JJ at h;split at h
  ·rename_i j;rcases Zj.mp h with h | h
   ·exact⟨0,v,F,rfl,j,rfl,h⟩
   ·exact go h
  ·exact go h
def ag:Jj G X [] aj:=PA.weak gE λO H Q d=>by
 obtain⟨R,U,l,s,e,k⟩:=d;cases (e);exact k [] H [] (aI.refl _) .nil ⟨λi v F h=>by simp at h,by simp[JJ]⟩
def ab(D:PV G X e ca)(A:Jj G X es cs)(w:{`q2,K1 e es X}):Jj G X (e :: es) (ae ca cs):=PA.weak (dU D A w) λO H Q C=>by
 refine L2.ai λP_ n=>?_;obtain⟨R,U,l,s,e,k⟩:=C;obtain⟨x,P,e⟩:=Zz.mp e;obtain⟨j,N,e⟩:=Zz.mp e;cases e;refine n ?_;refine⟨R,U,x.1,x.2,s,P,λv H1 F e1 r1 f1=>⟨R,U,j,s.same e1,N,λm S Y e2 r2 f2=>k (v :: m) S (F :: Y) (e1.trans e2) (.cons (r1.same e2) r2) ⟨λi u h g d=>?_,?_⟩⟩⟩
 ·cases i with
  |zero =>
   cases (g);cases (d);exact f1
  |succ i=>exact(f2.each i u h (by simpa using g) (by simpa using d)).back e1
 ·unfold JJ;split
  ·rename_i t;rw[t]at f1;refine ZC.mpr ⟨f1.1,f2.nd,λy r z o q=>?_⟩;subst q;obtain⟨i,u,h,g,d,M,E⟩:=vn o;have f:=f2.each i u h g M;rw[d]at f;exact Il.xa (r1.Iu y r) (f.2 y E)
  ·exact f2.nd
theorem ki:∀{l:Uo},cf l=.fr->∀v∈l,v.1=.fr
 |[],_,v,h=>by simp at h
 | (m,t) :: r,e,v,h=>by
  have d:m.join (cf r)=.fr:=e;rcases Zh.mp h with rfl | h
  ·exact(by
   revert d;cases m<;>cases cf r<;>simp[Md.join])
  ·exact ki (by
   revert d;cases m<;>cases cf r<;>simp[Md.join]) v h
theorem kD:∀{l:Uo},cf l ≠ .bo->∀v∈l,v.1 ≠ .bo
 |[],_,v,h=>by simp at h
 | (m,t) :: r,e,v,h=>by
  have d:m.join (cf r) ≠ .bo:=e;rcases Zh.mp h with rfl | h
  ·exact(by
   revert d;cases m<;>cases cf r<;>simp[Md.join])
  ·exact kD (by
   revert d;cases m<;>cases cf r<;>simp[Md.join]) v h
theorem vg:∀{l:Uo}{d:Xc},l.length=d.length->(∀v∈l,v.1=.fr)->JJ l d=d.flatten
 |[],[],_,_=>rfl
 |[],_ :: _,h,_=>by simp at h
 |_ :: _,[],h,_=>by simp at h
 |v :: l,F :: d,h,q=>by
  unfold JJ;rw[q v Zy,vg (by simpa using h) λu f=>q u (Zw _ f)];rfl
def fP{d:Xc}(h:x∈d.flatten):∃(i:Nat)(F:W6),d[i]?=Z F/\x∈F:=by
 obtain⟨F,j,f⟩:=List.mem_flatten.mp h;obtain⟨i,g⟩:=Vi.mp j;exact⟨i,F,g,f⟩
def NW.join(f:NW R U H l j)(n:l.length=j.length):Fp R U H (cf l) j.flatten:=by
 have at':∀x∈j.flatten,∃v F,v∈l/\x∈F/\Fp R U H v.1 F:=λx d=>by
  obtain⟨i,F,m,g⟩:=fP d;have:i<l.length:=by
   have:=(ZZ.mp m).1;lia
  exact⟨l[i],F,Yo this,g,f.each i _ F (Zk this) m⟩
 cases e:cf l with
 |fr =>
  have al:=ki e;refine⟨by rw[← vg n al];exact f.nd,λx d=>?_⟩;obtain⟨v,F,h,g,q⟩:=at' x d;rw[al v h]at q;exact q.2 x g
 |pu =>
  intro x d;obtain⟨v,F,h,g,q⟩:=at' x d;exact Fp.pu ((kD (l:=l) (by rw[e];decide)) v h) q x g
 |bo =>
  intro x d;obtain⟨v,F,h,g,q⟩:=at' x d;exact q.bo x g
structure Args(G:Gx)(R:Iq)(U:VS.Env)(H0 H:Hp)(l:Uo)(vs:List V)(Fs:Xc):Prop where
 same:aI H0 H
 rp:RpL G H vs (trees l) Fs
 fp:NW R U H0 l Fs
theorem Args.len(A:Args G R U g H l f d):l.length=d.length:=by
 have:=A.rp.len.2;simp[trees]at this;exact Eq.symm this
def eZ(G:Gx)(r:List V->Hp->VK->Prop)(f:Uo->Um):Prop:=∀(R:Iq)(U:VS.Env)(h H:Hp)(l:Uo)(g:List V)(i:Xc)(m:Md)(t:T)(Q:VK),Args G R U h H l g i->f l=Z (m,t) →
 (∀v d F,aI H d->Rp G d v t F->Fp R U h m F->Q v d)->r g H Q
def CW(h:eZ G r f)(s:SR G R U O H)(i:cs U=Z l)(e:f l=Z (m,t))(k:∀v d F,aI H d->Rp G d v t F->Fp R U H m F->Q v d):P8 G cs O H λg n=>r g n Q :=
 ⟨R,U,l,s,i,λg d o e1 r1 f1=>h R U H d l g o m t Q ⟨e1,r1,f1⟩ e λv j F e2 r2 f2=>k v j F (e1.trans e2) r2 f2⟩
def i8(q:dD X (.builtin d) r)(g:eZ G r f)(o:Gl X x)(n:X.mg x=J)(h:bootBuiltins x=Z (.builtin d))(u:Jj G X (e :: es) cs)(j:{`q1,x ≠ "__name__"})(w:{`q1,K3 x})(he:{`q2,K1 e es X})(hpl:{`q2,K2 pos es X}):PV G X (.Call (.Name x p) (e :: es) [] pos) (eN f cs) :=
 PE.weak (sS q o n h u j w he hpl) λO H Q i=>by
  obtain⟨R,U,m,t,s,e,k⟩:=i;obtain⟨l,v,e⟩:=Zz.mp e;exact CW g s v e k
def lu{G:Gx}{X:Cx}{es:List Expr}{cs:IE}{pos p:Pos}{r:List V->Hp->VK->Prop}{f:Uo->Um}{Ty:String}{x:Str}(q:dD X (.type Ty) r)(g:eZ G r f)(o:Gl X x)(n:X.mg x=J)(h:bootBuiltins x=Z (.type Ty))(u:Jj G X (e :: es) cs)(j:{`q1,x ≠ "__name__"})(w:{`q1,K3 x})(he:{`q2,K1 e es X})(d:{`q2,K2 pos es X}):PV G X (.Call (.Name x p) (e :: es) [] pos) (eN f cs) :=
 PE.weak (wC q o n h u j w he d) λO H Q i=>by
  obtain⟨R,U,m,t,s,e,k⟩:=i;obtain⟨l,v,e⟩:=Zz.mp e;exact CW g s v e k
def ff(h:Jj G X es cs):PV G X (.List es pos) (gF cs):=PE.weak (p6 h) λO H Q f=>by
 obtain⟨R,U,m,t,s,e,k⟩:=f;obtain⟨l,i,e⟩:=Zz.mp e;refine⟨R,U,l,s,i,λd n o e1 r1 f1=>?_⟩;have A:Args G R U H n l d o:=⟨e1,r1,f1⟩
 obtain⟨_,g,_⟩:=pP e;refine⟨by rw[r1.len.1,← gz];exact g,jD e1 e r1 (f1.join A.len) λv j F e2 r2 f2=>k v j F (e1.trans e2) r2 f2⟩
def iR{x1}(h:Jj G X es cs):PV G X (.Tuple es x1 pos) (kP cs):=PE.weak (D7 h) λO H Q d=>by
 obtain⟨R,U,m,t,s,e,k⟩:=d;obtain⟨l,n,e⟩:=Zz.mp e;refine⟨R,U,l,s,n,λf g i e1 r1 f1=>?_⟩;have A:Args G R U H g l f i:=⟨e1,r1,f1⟩
 unfold oC at e;split at e
 ·rename_i j;cases e;refine⟨by rw[r1.len.1,← gz,trees,Zu];exact j,λq d=>?_⟩;have r2:Rp G (upd g q (.tup f)) (.ref q) (.tup (trees l)) i.flatten:=.tup ar (r1.same (bZ d));exact k _ _ _ (e1.trans (bZ d)) r2 (Fp.up (f1.join A.len) r2)
 ·cases e
def CM(r:Rp G H v t F)(h:NA t=Z k):E4 G.K v H k:=by
 cases r with
 |non=>cases h;rfl
 |bl b=>cases h;rfl
 |int i=>cases h;rfl
 |str s j =>
  cases h;refine⟨by rw[dQ,← gz];exact j.1,?_⟩;rw[dQ];cases s with
  |nil=>rfl
  |cons a r =>
   have:((List.length (a :: r):Int) != 0)=B:=by simp;lia
   rw[this];rfl
 |scr d=>cases h
 |tup d q =>
  cases h;refine .inr (.inl ⟨_,Jy.of d,?_⟩);have:=q.len.1;rename_i f g _;cases f<;>cases g<;>simp_all
 |lst d q =>
  cases h;refine .inl ⟨_,Iv.of d,?_⟩;have:=q.len.1;rename_i f g _;cases f<;>cases g<;>simp_all
 |dct d j q =>
  cases h;refine .inr (.inr ⟨_,d,?_⟩);have:=q.len.1;rename_i ks f g _;cases ks<;>cases f<;>cases g<;>simp_all
 |dctT d j q=>cases h
 |dctN d j n q=>cases h
 |dctZ _ _ _=>cases h
 |exc _ _=>cases h
 |ins _ _ _ _=>cases h
 |mk _ _=>cases h
def dw(h:PV G X a ca)(d:{`q2,X.K=G.K})(he:{`q3,∀whole,isTrue a X.env whole=(do let v ← whole;standAt a.pos;holding [v] (truthy v))}):Lk G X a ca :=
 PT.weak (ye h he) λO H Q ⟨R,U,m,r,b,s,e,f,k⟩=>⟨R,U,m,r,s,e,λv g F e1 r1 f1=>⟨b,by rw[d];exact CM r1 f,k g e1⟩⟩
def Lq(G:Gx)(X:Cx)(e:Expr)(c:Ex):Prop:=PW X e (tT G c)
def PW.weak{X:Cx}{e:Expr}{f:TT}(h:PW X e t)(w:∀O H Q,f O H Q->t O H Q):PW X e f:=λg d s O H Q I q=>h g d s O H Q I (w O H Q q)
def Lq.Nh(h:Lq G X e ca):Lk G X e ca:=PW.pt h
def sV(e:ie ca cb U=Z (m,r)):(∃n,ca U=Z (n,.bl B)/\cb U=Z (m,r))\/(∃n,ca U=Z (n,.bl L)/\m=.fr/\r=.bl L):=by
 obtain⟨⟨n,x⟩,d,e⟩:=Zz.mp e;split at e
 ·rename_i h;cases (h);exact .inl ⟨n,d,e⟩
 ·rename_i h;cases (h);cases e;exact .inr ⟨n,d,rfl,rfl⟩
 ·cases e
def Ba(e:Mc ca cb U=Z (m,r)):(∃n,ca U=Z (n,.bl L)/\cb U=Z (m,r))\/(∃n,ca U=Z (n,.bl B)/\m=.fr/\r=.bl B):=by
 obtain⟨⟨n,x⟩,d,e⟩:=Zz.mp e;split at e
 ·rename_i h;cases (h);cases e;exact .inr ⟨n,d,rfl,rfl⟩
 ·rename_i h;cases (h);exact .inl ⟨n,d,e⟩
 ·cases e
def mK{G:Gx}{X:Cx}{a:Expr}{ca cb:Ex}{pos:Pos}{rest:List Expr}(j:Lk G X a ca)(i:Lq G X (.BoolOp .And (b :: rest) pos) cb):Lq G X (.BoolOp .And (a :: b :: rest) pos) (ie ca cb) :=
 PW.weak (Dr j i) λO H Q h=>by
  obtain⟨R,U,m,r,k,s,e,f,q⟩:=h;rcases sV e with⟨n,d,e2⟩ | ⟨n,d,rfl,rfl⟩
  ·refine⟨R,U,n,_,B,s,d,rfl,λg e1=>?_⟩;refine Cz ?_;exact⟨R,U,m,r,k,s.same e1,e2,f,λl e2=>q l (e1.trans e2)⟩
  ·refine⟨R,U,n,_,L,s,d,rfl,λg e1=>?_⟩;refine BF ?_;cases f;exact q g e1
def gI{G:Gx}{X:Cx}{a:Expr}{ca cb:Ex}{pos:Pos}{rest:List Expr}(j:Lk G X a ca)(i:Lq G X (.BoolOp .Or (b :: rest) pos) cb):Lq G X (.BoolOp .Or (a :: b :: rest) pos) (Mc ca cb) :=
 PW.weak (Gn j i) λO H Q h=>by
  obtain⟨R,U,m,r,k,s,e,f,q⟩:=h;rcases Ba e with⟨n,d,e2⟩ | ⟨n,d,rfl,rfl⟩
  ·refine⟨R,U,n,_,L,s,d,rfl,λg e1=>?_⟩;refine BF ?_;exact⟨R,U,m,r,k,s.same e1,e2,f,λl e2=>q l (e1.trans e2)⟩
  ·refine⟨R,U,n,_,B,s,d,rfl,λg e1=>?_⟩;refine Cz ?_;cases f;exact q g e1
def sv(e:iq ca U=Z (m,r)):∃n b,ca U=Z (n,.bl b)/\m=.fr/\r=.bl (!b):=by
 obtain⟨⟨n,x⟩,d,e⟩:=Zz.mp e;split at e
 ·rename_i b h;cases (h);cases e;exact⟨n,b,d,rfl,rfl⟩
 ·cases e
def c8(f:Lk G X a ca):Lk G X (.UnaryOp .Not a pos) (iq ca):=PT.weak (De f) λO H Q d=>by
 obtain⟨R,U,m,r,k,s,e,g,q⟩:=d;obtain⟨n,b,h,rfl,rfl⟩:=sv e;cases g;exact⟨R,U,n,_,b,s,h,rfl,λi e1=>q i e1⟩
def xG(f:PV G X a ca):PV G X (.UnaryOp .Not a pos) (iq ca):=PE.weak (Ew f) λO H Q d=>by
 obtain⟨R,U,m,r,s,e,q⟩:=d;obtain⟨n,b,g,rfl,rfl⟩:=sv e;exact⟨R,U,n,_,s,g,λv h F e1 r1 f1=>⟨b,r1.Jw,q _ h _ e1 (.bl _) Fp.nil⟩⟩
def tK{op}(h:PV G X a ca):PV G X (.BoolOp op [a] pos) ca:=D0 h
def tH{G:Gx}{X:Cx}{a:Expr}{ca cb:Ex}{pos:Pos}{rest:List Expr}(i:PV G X a ca)(h:PV G X (.BoolOp .And (b :: rest) pos) cb):PV G X (.BoolOp .And (a :: b :: rest) pos) (ie ca cb) :=
 PE.weak (DV i h) λO H Q g=>by
  obtain⟨R,U,m,r,s,e,q⟩:=g;rcases sV e with⟨n,d,e2⟩ | ⟨n,d,rfl,rfl⟩
  ·refine⟨R,U,n,_,s,d,λv f F e1 r1 f1=>⟨B,r1.Jw,?_⟩⟩;refine Cz ?_;exact⟨R,U,m,r,s.same e1,e2,λv j F e2 r2 f2=>q v j F (e1.trans e2) r2 (f2.back e1)⟩
  ·refine⟨R,U,n,_,s,d,λv f F e1 r1 f1=>⟨L,r1.Jw,?_⟩⟩;refine BF ?_;exact q _ f _ e1 (.bl _) Fp.nil
def vC(r:Rp G H v t F):decide (v=.non)=Pn t:=by
 cases r<;>simp[Pn]
def CU{c:Ex}(h:tT G c O H Q)(f:∀U m r,c U=Z (m,r)->∃b,r=.bl b)(w:∀Q,tE G c O H Q->t O H Q):tB t O H Q:=by
 obtain⟨R,U,m,r,b,s,e,d,k⟩:=h;refine w _ ⟨R,U,m,r,s,e,λv i F e1 r1 f1=>?_⟩;obtain⟨j,g⟩:=f U m r e;rw[g]at d r1;cases (d);exact⟨_,r1.Jw,k i e1⟩
end
section
def RpL.one(r:RpL G H d [t] f):∃v F,d=[v]/\f=[F]/\Rp G H v t F:=by
 cases r with
 |cons r q=>cases q;exact⟨_,_,rfl,rfl,r⟩
def RpL.two(r:RpL G H g [t,h] i):∃v d F f,g=[v,d]/\i=[F,f]/\Rp G H v t F/\Rp G H d h f:=by
 cases r with
 |cons r q =>
  obtain⟨d,f,rfl,rfl,j⟩:=q.one;exact⟨_,_,_,_,rfl,rfl,r,j⟩
def G5(K:Ww):List V->Hp->VK->Prop:=λd H Q=>(∃x n,d=[x]/\Gy K x H n/\Q (.int n) H)\/(∃a f,d=[V.ref a]/\H a=Z (.dK f)/\Q (.int f.length) H)
def uw:dD X (.builtin "len") (λf H Q=>∃a d,f=[V.ref a]/\H a=Z (.dK d)/\Q (.int d.length) H):=by
 intro g s O H f m Q I r h;obtain⟨a,d,rfl,j,q⟩:=h;obtain⟨u,rfl,i⟩:=vals1 r;cases i;exact GQ I (.inl j) λt n l=>⟨.int d.length,H,l,⟨t,rfl⟩,q⟩
def wg:dD X (.builtin "len") (G5 X.K):=zf.or uw
def Dl:eZ G (G5 G.K) dY:=by
 intro R U z H l o C m t Q A e k;refine L2.ai λy f=>?_;unfold dY at e;split at e
 ·rename_i x;obtain⟨w,x⟩:=x;obtain⟨n,d,e⟩:=Zt.mp e;cases e;obtain⟨v,F,rfl,rfl,r⟩:=(A.rp).one;have fin:=bz k (.int _);cases r with
  |non=>cases d
  |bl b=>cases d
  |int i=>cases d
  |str s g =>
   cases d;refine f ?_;exact .inl ⟨_,_,rfl,⟨by rw[dQ,← gz];exact g.1,rfl⟩,by rw[dQ];exact fin⟩
  |scr h =>
   cases d;refine f ?_;refine .inl ⟨_,_,rfl,.inl ⟨_,h.seq,rfl⟩,?_⟩;rw[Zu];exact fin
  |tup h q =>
   cases d;refine f ?_;refine .inl ⟨_,_,rfl,.inr ⟨_,Jy.of h,rfl⟩,?_⟩;rw[q.len.1];exact fin
  |lst h q =>
   cases d;refine f ?_;refine .inl ⟨_,_,rfl,.inl ⟨_,Iv.of h,rfl⟩,?_⟩;rw[q.len.1];exact fin
  |dct h g q =>
   cases d;refine f ?_;refine .inr ⟨_,_,rfl,h,?_⟩;rename_i ks j u _;rw[Yu,Zu]at fin;rw[Yu,q.len.1];exact fin
  |dctT h g q=>cases d
  |dctN h g n q=>cases d
  |dctZ _ _ _=>cases d
  |exc _ _=>cases d
  |ins _ _ _ _=>cases d
  |mk _ _=>cases d
 ·cases e
def AC:eZ G (λd H Q=>∃i j,d=[.int i,.int j]/\Q (.int (if j > i then j else i)) H) uQ:=by
 intro R U n H l g o m t Q A e k;unfold uQ at e;split at e
 ·rename_i _ i _ j;cases e;obtain⟨v,h,F,q,rfl,rfl,r,f⟩:=(A.rp).two;exact⟨i,j,by rw[r.int_inv,f.int_inv],bz k (.int _)⟩
 ·cases e
def AX:eZ G (λd H Q=>∃i j,d=[.int i,.int j]/\Q (.int (if j<i then j else i)) H) qV:=by
 intro R U n H l g o m t Q A e k;unfold qV at e;split at e
 ·rename_i _ i _ j;cases e;obtain⟨v,h,F,q,rfl,rfl,r,f⟩:=(A.rp).two;exact⟨i,j,by rw[r.int_inv,f.int_inv],bz k (.int _)⟩
 ·cases e
def C0(K:Ww):List V->Hp->VK->Prop:=λf H Q=>∃p d,f=[.ref p]/\(Iv K H p d\/Jy K H p d)/\∀l,H l=J->Q (.ref l) (upd H l (.lst d))
def uU:eZ G (C0 G.K) CS:=by
 intro R U o H l n q m t Q A e k;unfold CS at e;split at e
 ·rename_i i x;obtain⟨v,F,rfl,rfl,f⟩:=(A.rp).one;obtain⟨a,d,j,rfl,rfl,h,g⟩:=f.lst_inv;exact⟨a,d,rfl,.inl (Iv.of h),jD A.same e g ((A.fp.each 0 _ _ Y Y).sub (YY _ _)) k⟩
 ·rename_i i x;obtain⟨v,F,rfl,rfl,f⟩:=(A.rp).one;obtain⟨a,d,j,rfl,rfl,h,g⟩:=f.JA;exact⟨a,d,rfl,.inr (Jy.of h),jD A.same e g (A.fp.each 0 _ _ Y Y) k⟩
 ·cases e
def tO(G:Gx)(c:Option Ex):TO:=λO H Q=>∃R U o,SR G R U O H/\vE c U=Z o/\∀d,aI H d->Q o d
def Si(G:Gx)(X:Cx)(e:Option Expr)(c:Option Ex):Prop:=PO X e (tO G c)
def PO.weak{X:Cx}{e:Option Expr}{f:TO}(h:PO X e t)(w:∀O H Q,f O H Q->t O H Q):PO X e f:=λd s O H Q I q=>h d s O H Q I (w O H Q q)
def ze:Si G X J J:=PO.weak Cn λO H Q d=>by
 obtain⟨R,U,o,s,e,k⟩:=d;cases (e);exact k H (aI.refl _)
def n8(h:PV G X a ca):Si G X (Z a) (Z ca):=PO.weak (BC h) λO H Q f=>by
 obtain⟨R,U,o,s,e,k⟩:=f;obtain⟨⟨m,y⟩,g,e⟩:=Zz.mp (e);obtain⟨i,d,e⟩:=Zt.mp e;cases e;refine⟨R,U,m,y,s,g,λv l F e1 r1 f1=>?_⟩;cases y with
 |int j =>
  cases d;exact⟨_,r1.int_inv,k l e1⟩
 |_=>cases d
def lE{α:Type}(l:List α)(d f:Option Int):cut l d f=(l.drop (HT.Je l.length 0 d)).take (HT.Je l.length l.length f-HT.Je l.length 0 d):=by
 cases d<;>cases f<;>rfl
theorem MZ(a:Int)(n:Nat):max 0 (min a (n:Int))=((min a.toNat n:Nat):Int):=L2.MZ a n
def RS{k:Nat}(h:(k:Nat)<=n):max 0 (min (k:Int) (n:Int))=(k:Int):=by rw[MZ,Xq,Yd h]
def AD(a:Int)(n:Nat):max 0 (min a (n:Int))=max 0 (min ((min a.toNat n:Nat):Int) (n:Int)):=by
 rw[MZ,MZ,Xq,Nat.min_assoc,Wg]
def x6(d f:Option Int)(n:Nat):Builtin.Str.strSliceIndices d f 1 n=Builtin.Str.strSliceIndices (Z ((min (HT.Je n 0 d) n:Nat):Int)) (Z ((min (HT.Je n n f) n:Nat):Int)) 1 n:=by
 have nn:∀k:Nat,¬((k:Int)<0):=λk=>by lia
 unfold Builtin.Str.strSliceIndices;simp only[show (1:Int) > 0 by decide,if_true,nn,if_false];congr 1
 ·cases d with
  |none=>simp only[HT.Je];rw[MZ,Xq,Nat.zero_min,Nat.zero_min];rfl
  |some i =>
   simp only[HT.Je];by_cases h:i<0
   ·simp only[h,if_true];exact AD _ _
   ·simp only[h,if_false];rw[Nat.min_assoc,Wg];exact AD _ _
 ·cases f with
  |none=>simp only[HT.Je];rw[MZ,Xq,Wg,Wg]
  |some i =>
   simp only[HT.Je];by_cases h:i<0
   ·simp only[h,if_true];exact AD _ _
   ·simp only[h,if_false];rw[Nat.min_assoc,Wg];exact AD _ _
def oI(s:Tx)(d f:Option Int):PySem.StrLaws.sliceText (sx s) d f=sx (cut s d f):=by
 have key:PySem.StrLaws.sliceText (sx s) d f=PySem.StrLaws.sliceText (sx s) (Z ((min (HT.Je s.length 0 d) s.length:Nat):Int)) (Z ((min (HT.Je s.length s.length f) s.length:Nat):Int)):=by
  unfold PySem.StrLaws.sliceText;rw[dQ,x6]
 rw[key];have hd:∀a:Nat,s.drop (min a s.length)=s.drop a:=λa=>by
  by_cases h:a<=s.length
  ·rw[Yd h]
  ·rw[W9 (by exact WZ h),XE (Zn _),XE (by exact WZ h)]
 by_cases h:min (HT.Je s.length 0 d) s.length<=min (HT.Je s.length s.length f) s.length
 ·rw[PySem.StrLaws.sliceText_nat (sx s) h (by rw[dQ];exact Xk _ _),lE];show (⟨_⟩:Str)=⟨_⟩;congr 2;have:(sx s).cps.toList=s:=rfl;rw[this,hd];by_cases i:HT.Je s.length 0 d<=s.length
  ·rw[Yd i];by_cases g:HT.Je s.length s.length f<=s.length
   ·rw[Yd g]
   ·rw[W9 (by exact WZ g),Yq (by rw[Z4];exact Zn _),Yq (by rw[Z4];lia)]
  ·rw[XE (by exact WZ i)];simp
 ·have j:cut s d f=[]:=by
   rw[lE];have:HT.Je s.length s.length f-HT.Je s.length 0 d=0:=by omega
   rw[this,Ve]
  rw[j];unfold PySem.StrLaws.sliceText;have e2:Builtin.Str.strSliceIndices (Z ((min (HT.Je s.length 0 d) s.length:Nat):Int)) (Z ((min (HT.Je s.length s.length f) s.length:Nat):Int)) 1 (sx s).length=[]:=by
   have e1:∀k:Nat,¬((k:Int)<0):=λk=>by lia
   unfold Builtin.Str.strSliceIndices sliceRange;simp only[show (1:Int) > 0 by decide,if_true,e1,if_false,dQ];rw[RS (Xk _ _),RS (Xk _ _),Zq λz=>h (ZO (Int.ofNat_lt.mp z))];rfl
  rw[e2];have:¬((1:Int)==1&&([]:Us).length==(sx s).length)=B:=by
   rw[dQ];simp;lia
  rw[Zq this];rfl
noncomputable def Ge:V->Option Int->Option Int->Hp->VK->Prop:=λx lo d H Q=>∃z,x=.str z/\z.length<=KF/\Q (.str (PySem.StrLaws.sliceText z lo d)) H
def part_of(h:IsPart v o):∃q:Option (Int×Tok),v=partValue q/\o=q.map (·.1):=by
 cases h with
 |none=>exact⟨J,rfl,rfl⟩
 |int i t=>exact⟨Z (i,t),rfl,rfl⟩
def qG{α β:Type}(f:α->Option β)(l:List α):(l.filterMap f).length<=l.length:=List.length_filterMap_le f l
def BM(d f:Option Int)(n:Nat):(Builtin.Str.strSliceIndices d f 1 n).length<=n:=by
 rw[x6];by_cases h:min (HT.Je n 0 d) n<=min (HT.Je n n f) n
 ·rw[PySem.StrLaws.strSliceIndices_plain h (by exact Xk _ _),Zu,Yx];lia
 ·have e1:∀k:Nat,¬((k:Int)<0):=λk=>by lia
  unfold Builtin.Str.strSliceIndices sliceRange;simp only[show (1:Int) > 0 by decide,if_true,e1,if_false];rw[RS (Xk _ _),RS (Xk _ _),Zq λz=>h (ZO (Int.ofNat_lt.mp z))];simp
def DC:Om X Ge:=by
 intro f s O H x v r o lo y w Q I g n i pu h;refine L2.ai λA j=>?_;obtain⟨z,rfl,m,q⟩:=h;obtain⟨t,rfl⟩:=g;obtain⟨l,rfl,rfl⟩:=part_of i;obtain⟨u,rfl,rfl⟩:=part_of pu;refine j ?_;refine⟨"str",_,F.slot_str_getitem.lookup,typeIs_str s z t,wpAny_getItem_str_slice (l:=l) (u:=u) (st:=J) n Y ?_⟩;unfold sliceMade;split
 ·rename_i d;refine⟨.str z,H,I,⟨t,rfl⟩,?_⟩;have e:PySem.StrLaws.sliceText z (l.map (·.1)) (u.map (·.1))=z:=by
   exact Zr d
  rw[e]at q;exact q
 ·rename_i d;refine⟨ZU ?_ m,.str _,H,I.tok _,⟨_,rfl⟩,?_⟩
  ·show (List.filterMap _ _).toArray.size<=_;rw[ZP];exact ZU (qG _ _) (BM _ _ _)
  ·have e:PySem.StrLaws.sliceText z (l.map (·.1)) (u.map (·.1))=⟨((slicePicked z l u J).filterMap (z.cps[·]?)).toArray⟩:=by
    exact Zq d
   rw[e]at q;exact q
def rSl(K:Ww):V->Option Int->Option Int->Hp->VK->Prop:=λx lo d H Q=>Ge x lo d H Q\/Hr K x lo d H Q
def HH:Om X (rSl X.K):=DC.or Ct
def BV{α:Type}(l:List α)(d f:Option Int):(cut l d f).length<=l.length:=by
 rw[lE,Yp,Z4];lia
theorem RpL.cut(r:RpL G H g i j)(d f:Option Int):RpL G H (zK g d f) (VS.cut i d f) (VS.cut j d f):=by
 have h:=r.len;rw[lE,lE,h.2];unfold zK;rw[h.1];exact(r.drop _).take _
def vH{α:Type}(l:List α)(d f:Option Int):(VS.cut l d f).Sublist l:=by
 rw[lE];exact(List.take_sublist _ _).trans (List.drop_sublist _ _)
def zj{F G:Xc}(h:F.Sublist G):F.flatten.Sublist G.flatten:=by
 induction h with
 |slnil=>exact We _
 |cons a _ d=>rw[Z1];exact d.trans (Xe _ _)
 |cons_cons a _ d=>rw[Z1,Z1];exact(We _).append d
def sN(ha:PV G X a ca)(d:Si G X j r)(S:Si G X n u)(hK:{`q2,X.K=G.K}):PV G X (.Subscript a (.Slice j n J D) pos) (Se ca r u) :=
 PE.weak (za HH ha d S) λO H Q P=>by
  refine L2.ai λP_ N=>?_;obtain⟨R,U,m,t,s,e,k⟩:=P;obtain⟨⟨E,x⟩,ea,o⟩:=Zz.mp e;obtain⟨l,el,w⟩:=Zz.mp o;obtain⟨h,eh,f⟩:=Zz.mp w;refine N ?_;clear e o w;refine⟨R,U,E,x,s,ea,λv H1 F e1 r1 f1=>⟨R,U,l,s.same e1,el,λH2 e2=>⟨R,U,h,(s.same e1).same e2,eh,λH3 e3=>?_⟩⟩⟩;have g:=(e1.trans e2).trans e3;have i:=(r1.same e2).same e3;unfold oSl at f;split at f
  ·rename_i M z q;cases q;cases f;obtain⟨rfl,d⟩:=i.str_inv;refine .inl ⟨_,rfl,by rw[dQ,← gz];exact d.1,?_⟩;rw[oI];exact k _ H3 _ g (.str _ ⟨ZU (BV _ _ _) d.1,λc Y=>d.2 c ((vH _ _ _).subset Y)⟩) Fp.nil
  ·rename_i M z q;cases q;obtain⟨a',y,Fs,rfl,rfl,II,A⟩:=i.lst_inv;refine .inr ⟨a',y,rfl,by rw[hK];exact Iv.of II,jD g f (A.cut l h) ((f1.sub (YY _ _)).sub (zj (vH _ _ _))) λv H4 F e5 C f4=>k v H4 F (g.trans e5) C f4⟩
  ·cases f
noncomputable def MA:Ty->String
 |.int => "int"
 |.str => "str"
 |.bool => "bool"
 |.list => "list"
 |.tuple => "tuple"
 |.dict => "dict"
def rIs(K:Ww):List V->Hp->VK->Prop:=λd H Q=>∃x c t b,d=[x,.ty c]/\JF K H x t/\PySem.W.kitOne K t (.type c)=Z b/\Q (.bl b) H
def Cs:dD X (.builtin "isinstance") (rIs X.K):=by
 intro d s O H f i Q I r h;obtain⟨x,c,t,b,rfl,ty,e,q⟩:=h;obtain⟨u,g,rfl,r1,r2⟩:=vals2 r;cases r2;exact wK I r1 ty e λj=>⟨.bl b,H,I.tok _,rfl,q⟩
def Bw(K:Ww)(d:Ty):(PySem.W.kitOne K (.type "NoneType") (.type (MA d))=Z L)/\(PySem.W.kitOne K (.type "bool") (.type (MA d))=Z (rX d (.bl B)))/\(PySem.W.kitOne K (.type "int") (.type (MA d))=Z (rX d (.int 0))) ∧
  (PySem.W.kitOne K (.type "str") (.type (MA d))=Z (rX d (.str [])))/\(PySem.W.kitOne K (.type "list") (.type (MA d))=Z (rX d (.lst [])))/\(PySem.W.kitOne K (.type "tuple") (.type (MA d))=Z (rX d (.tup [])))/\(PySem.W.kitOne K (.type "dict") (.type (MA d))=Z (rX d (.dct 0 []))):=by
 cases d<;>refine⟨?_,?_,?_,?_,?_,?_,?_⟩<;>kernel_rfl
def Gu(d:Ty)(r:Rp G H v t F)(h:u5 t=B):∃g,JF G.K H v g/\PySem.W.kitOne G.K g (.type (MA d))=Z (rX d t):=by
 obtain⟨y,x,w,u,o,m,j⟩:=Bw G.K d;cases r with
 |non=>exact⟨_,.non,by rw[y];cases d<;>rfl⟩
 |bl b=>exact⟨_,.bl b,by rw[x];cases d<;>rfl⟩
 |int i=>exact⟨_,.int i,by rw[w];cases d<;>rfl⟩
 |str s _=>exact⟨_,.str _,by rw[u];cases d<;>rfl⟩
 |scr _=>cases h
 |tup f q=>exact⟨_,.tup f,by rw[m];cases d<;>rfl⟩
 |lst f q=>exact⟨_,.lst f,by rw[o];cases d<;>rfl⟩
 |dct f l q=>exact⟨_,.dK f,by rw[j];cases d<;>rfl⟩
 |dctT f l q=>exact⟨_,.dT f,by rw[j];cases d<;>rfl⟩
 |dctN f l n q=>simp at h
 |dctZ _ _ _=>cases h
 |exc _ _=>cases h
 |ins _ _ _ _=>cases h
 |mk _ _=>cases h
def FM(f:Ty)(D:PV G X a ca)(C:Gl X "isinstance")(z:X.mg "isinstance" = J)(P:Gl X x)(S:X.mg x=J)(r:bootBuiltins x=Z (.type (MA f)))(j:{`q2,X.K=G.K})(w:{`q1,x ≠ "__name__"})(JQ:{`q1,K3 x})(i:{`q2,Pv [a,.Name x d] X.env=(L,eval a X.env) :: Pv [.Name x d] X.env})(L7:{`q2,Pv [.Name x d] X.env=(L,eval (.Name x d) X.env) :: Pv [] X.env})(g:{`q2,(backTo pos (Pv [Expr.Name x d] X.env)).any (·.1)=L}) :
  PV G X (.Call (.Name "isinstance" n) [a,.Name x d] [] pos) (MM f ca) :=
 PE.weak (sS Cs C z boot_isinstance (dU D (dU (BB (v:=.ty (MA f)) P S r Y w JQ) gE L7) i) (by decide) Y i g) λO H Q u=>by
  refine L2.ai λP_ q=>?_;obtain⟨R,U,m,t,s,e,k⟩:=u;obtain⟨⟨o,y⟩,N,h⟩:=Zz.mp e;refine q ?_;split at h
  ·rename_i A;cases h;refine⟨R,U,o,y,s,N,λv H' F e1 r1 f1=>?_⟩;obtain⟨l,M,E⟩:=Gu f r1 A;exact⟨v,MA f,l,_,rfl,by rw[j];exact M,by rw[j];exact E,k _ H' _ e1 (.bl _) Fp.nil⟩
  ·cases h
end
section
def FU(G:Gx)(r:V->List V->Hp->VK->Prop)(f:Val->Uo->Um):Prop:=∀(R:Iq)(U:VS.Env)(d i H:Hp)(x:Val)(v:V)(F:W6)(l:Uo)(h:List V)(j:Xc)(m:Md)(t:T)(Q:VK),
 aI d i->Rp G H v x.2 F->Fp R U d x.1 F->Args G R U i H l h j->f x l=Z (m,t)->(∀v g F,aI H g->Rp G g v t F->Fp R U d m F->Q v g)->r v h H Q
def GM{g:Pos}(A:PlainAttrs n)(h:Slot n d j)(M4:typeOf (.builtin j)=pure (.type "method_descriptor"))(P:NU X j r)(C:FU G r f)(Y:∀H v (x:Val) F l z,Rp G H v x.2 F->f x l=Z z->tyV G.K n v H)(N:PV G X a ca)(S:Jj G X (e :: es) cs)(hK:{`q2,X.K=G.K})(Im:{`q2,XAB a d X.env (eval a X.env)=eval a X.env})(I0:{`q2,((backTo i (Pv (e :: es) X.env)).all (λx=>!x.1)&&(backToKw i (SL [] X.env)).all (λx=>x.1.isSome)
   && decide ((e :: es).length+([]:List Keyword).length+(if ([]:List Keyword).isEmpty then 0 else 1)<30))=B})(Ik:{`q2,(g.endLine==i.line)=B})(E:{`q2,K1 e es X})(Ip:{`q2,K2 i es X}) :
  PV G X (.Call (.Attribute a d g) (e :: es) [] i) (eM f ca cs) :=
 PE.weak (nq A h M4 P N S Im I0 Ik E Ip) λO H Q M=>by
  refine L2.ai λP_ D=>?_;obtain⟨R,U,m,t,s,e,k⟩:=M;obtain⟨x,ea,e'⟩:=Zz.mp e;obtain⟨l,el,o⟩:=Zz.mp e';refine D ?_;refine⟨R,U,x.1,x.2,s,ea,λv q F e1 r1 f1=>⟨by rw[hK];exact Y q v x F l _ r1 o,R,U,l,s.same e1,el,λu H2 Fs e2 r2 f2=>?_⟩⟩;exact C R U H q H2 x v F l u Fs m t Q e1 (r1.same e2) f1 ⟨e2,r2,f2⟩ o λw H3 F' e3 y f3=>k w H3 F' ((e1.trans e2).trans e3) y f3
def Ck:∀(sep:Tx)(d:List Tx),Txt.join (sx sep) (d.map sx)=sx (dc sep d):=by
 intro sep d;have fold:∀(l:List Tx)(acc:Tx),(l.map sx).foldl (λacc p=>acc++(sx sep).cps++p.cps) acc.toArray=(l.foldl (λacc p=>acc++sep++p) acc).toArray:=by
  intro l
  induction l with
  |nil=>intro acc;rfl
  |cons x r f =>
   intro acc;rw[Zo,Vm,Vm,← f];congr 1;simp[sx]
 have g:∀(r:List Tx)(acc:Tx),r.foldl (λacc p=>acc++sep++p) acc=dc sep (acc :: r):=by
  intro r
  induction r with
  |nil=>intro acc;rfl
  |cons x r f =>
   intro acc;rw[Vm,f];cases r with
   |nil=>rfl
   |cons y r=>simp[dc]
 cases d with
 |nil=>rfl
 |cons x r =>
  show (⟨_⟩:Str)=⟨_⟩;congr 1;show ((r.map sx).foldl _ x.toArray)=_;rw[fold,g]
theorem vt:∀{d:List V}{l:Ul}{g:Xc}{f:List Tx},RpL G H d l g->strs? l=Z f->d=f.map λs=>V.str (sx s)
 |_,_,_,_,.nil,e=>by cases e;rfl
 |_,_,_,_,.cons (t:=t) r q,e=>by
  cases t with
  |str s =>
   obtain⟨h,e1,e2⟩:=Zt.mp e;subst e2;rw[vt q e1,r.str_inv.1];rfl
  |_=>cases e
theorem n4:∀{d:List Tx}{f:W7},aM (d.map λs=>V.str (sx s)) f->StrsAre f (d.map sx)
 |[],_,h=>by cases h;exact .nil
 |s :: d,_,h=>by
  cases h with
  |cons r q =>
   obtain⟨t,rfl⟩:=r;exact .cons _ _ (n4 q)
def rJoin(K:Ww):V->List V->Hp->VK->Prop:=λx f H Q=>∃sep p d,x=.str (sx sep)/\f=[.ref p]/\Iv K H p (d.map λs=>V.str (sx s))/\total d+d.length*sep.length<=16777216/\Q (.str (sx (dc sep d))) H
theorem u7:∀d:List Tx,((d.map sx).map (·.length)).sum=total d
 |[]=>rfl
 |s :: r=>by
  rw[Zo,Zo,VP,u7 r,dQ];rfl
def Bc:NU X "str.join" (rJoin X.K):=by
 intro f s O H x o v y Q I g d h;refine L2.ai λD l=>?_;obtain⟨sep,p,A,rfl,rfl,m,n,q⟩:=h;obtain⟨t,rfl⟩:=g;obtain⟨u,rfl,i⟩:=vals1 d;cases i;obtain⟨w,r,j,C⟩:=I.list m;refine l ?_;refine join_list j.isList (by simpa using n4 r) ?_ λz k=>⟨.str _,H,I.tok _,⟨_,by rw[Ck]⟩,q⟩
 rw[u7,Zu,dQ];exact n
theorem ox(d:Tx):∀f:List Tx,(dc d f).length<=total f+f.length*d.length
 |[]=>by simp[dc,total]
 |[x]=>by simp[dc,total]
 |x :: y :: r=>by
  have:=ox d (y :: r);simp only[dc,total,Zv,Zb]at this ⊢;lia
theorem nu(d:Tx):∀(f:List Tx)(c:Nat),c∈dc d f->c∈d\/∃s∈f,c∈s
 |[],c,h=>by simp[dc]at h
 |[x],c,h=>.inr ⟨x,Zy,h⟩
 |x :: y :: r,c,h=>by
  simp only[dc,Zj]at h;rcases h with (h | h) | h
  ·exact .inr ⟨x,Zy,h⟩
  ·exact .inl h
  ·refine(nu d (y :: r) c h).imp id λj=>?_;obtain⟨s,g,i⟩:=j;exact⟨s,Zw _ g,i⟩
theorem n5:∀{g:List V}{l:Ul}{h:Xc}{f:List Tx},RpL G H g l h->strs? l=Z f->∀s∈f,∀c∈s,c<1114112
 |_,_,_,_,.nil,e,s,d=>by cases e;simp at d
 |_,_,_,_,.cons (t:=t) r q,e,s,d=>by
  cases t with
  |str x =>
   obtain⟨i,e1,e2⟩:=Zt.mp e;subst e2;rcases Zh.mp d with rfl | d
   ·exact r.str_inv.2.2
   ·exact n5 q e1 s d
  |_=>cases e
def AK:FU G (rJoin G.K) ng:=by
 intro R U S P H x v F l E Fs m t Q o r f A e k;unfold ng at e;split at e
 ·rename_i M sep N O;obtain⟨d,n,g⟩:=Zz.mp e;split at g
  ·rename_i i;cases g;obtain⟨D,F',rfl,rfl,s⟩:=(A.rp).one;obtain⟨w,C,Y,rfl,rfl,j,h⟩:=s.lst_inv;rw[vt h n]at j;refine⟨sep,w,d,r.str_inv.1,rfl,Iv.of j,i,bz k (.str _ ⟨ZU (ox sep d) i,λc u=>(nu sep d c u).elim (r.str_inv.2.2 c) λ⟨q,y,z⟩=>n5 h n q y c z⟩)⟩
  ·cases g
 ·cases e
def yD(r:Rp G H v t F)(h:∃s,t=.str s):tyV G.K "str" v H:=by
 obtain⟨s,rfl⟩:=h;rw[r.str_inv.1];rfl
def CH{d:Pos}(i:PV G X a ca)(j:Jj G X [e] cs)(g:{`q2,X.K=G.K})(n:{`q2,XAB a "join" X.env (eval a X.env)=eval a X.env})(q:{`q2,((backTo f (Pv [e] X.env)).all (λx=>!x.1)&&(backToKw f (SL [] X.env)).all (λx=>x.1.isSome)
   && decide ([e].length+([]:List Keyword).length+(if ([]:List Keyword).isEmpty then 0 else 1)<30))=B})(o:{`q2,(d.endLine==f.line)=B})(h:{`q2,K1 e [] X})(m:{`q2,(backTo f (Pv [] X.env)).any (·.1)=L}) :
  PV G X (.Call (.Attribute a "join" d) [e] [] f) (eM ng ca cs) :=
 GM PySem.F.plainAttrs_str PySem.F.slot_str_join PySem.F.type_str_join (g ▸ Bc) AK (λH v x F l z r e=>yD r (by
  unfold ng at e;split at e
  ·exact⟨_,rfl⟩
  ·cases e)) i j g n q o h m
end
end VS
end
section
namespace VS
@[simp] def J9(x y:Val):Um:=match x.2 with
 |.dct 0 l=>if iw y.2 then (cH l y.2).map (sub x.1) else J
 |_=>aH x y
noncomputable def flat:T->Bool
 |.non=>B
 |.bl _=>B
 |.int _=>B
 |.str _=>B
 |_=>L
@[simp] def ma(x y:Val):Um:=match y.2 with
 |.dct 0 l=>if iw x.2 then Z (.fr,.bl (cH l x.2).isSome) else J
 |.lst l=>if flat x.2&&l.all flat then Z (.fr,.bl (l.any λy=>eqT y x.2)) else J
 |.tup l=>if flat x.2&&l.all flat then Z (.fr,.bl (l.any λy=>eqT y x.2)) else J
 |_=>J
@[simp] def dy(x y:Val):Um:=match ma x y with
 |some (_,.bl b)=>Z (.fr,.bl (!b))
 |_=>J
def pm{α:Type}(f:T->Option (T×α)):List Ky->T->Option (T×α)
 |[],t=>f t
 |.fld k :: r,t=>match t with
  |.obj (c+1) (q :: fs)=>(fs.findIdx? λp=>p.1==k).bind λi=>(fs[i]?).bind λp=>(pm f r p.2).map λz=>(.obj (c+1) (q :: fs.set i (p.1,z.1)),z.2)
  |_=>J
 |.un :: r,t=>match t with
  |.obj 0 [(0,.bl true),(m,x)]=>(pm f r x).map λz=>(.obj 0 [(0,.bl B),(m,z.1)],z.2)
  |_=>J
 |.at k :: r,t=>match t with
  |.lst l=>match k with
   |.int i=>(JY l.length i).bind λj=>(l[j]?).bind λx=>(pm f r x).map λz=>(.lst (l.set j z.1),z.2)
   |_=>J
  |.dct 0 l=>if iw k then (l.findIdx? λp=>eqT p.1 k).bind λi=>(l[i]?).bind λp=>(pm f r p.2).map λz=>(.dct 0 (l.set i (p.1,z.1)),z.2) else J
  |_=>J
end VS
end
section
namespace VS
open PySem PySem.Spec PyProof.Rows L2
section
mutual
def LX:T->PyData
 |.non=>.none
 |.bl b=>.bool b
 |.int i=>.int i
 |.str s=>.str (sx s)
 |.tup l=>.tuple (oF l)
 |.lst l=>.list (oF l)
 |_=>.none
def oF:Ul->List PyData
 |[]=>[]
 |t :: r=>LX t :: oF r
end
def Gq(h:j5 s):PyData.strOk (sx s)=B:=by
 unfold PyData.strOk sx;simp only[Array.all_eq_true,decide_eq_true_eq];intro i a;have:s.toArray[i]∈s:=by simp
 have:=h.2 _ this;simpa using this
def yW:(sx s==sx t)=(s==t):=by
 rw[Xo,beq_iff_eq,beq_iff_eq];constructor
 ·intro h;have:(sx s).cps=(sx t).cps:=by rw[h]
  simpa[sx] using this
 ·intro h;rw[h]
mutual
theorem qi:∀(n k:Nat)(t u:T),Ji n t=B->Ji k u=B->PyData.eqv (LX t) (LX u)=eqT t u
 |n,k,t,u,b,a=>by
  cases t with
  |scr _=>cases n<;>cases b
  |dct _ _=>cases n<;>cases b
  |obj _ _=>cases n<;>cases b
  |tup l =>
   cases n with
   |zero=>cases b
   |succ n =>
    cases u with
    |tup r =>
     cases k with
     |zero=>cases a
     |succ k =>
      exact mR n k l r (Z6.mp b) (Z6.mp a)
    |scr _=>cases k<;>cases a
    |dct _ _=>cases k<;>cases a
    |obj _ _=>cases k<;>cases a
    |_=>rfl
  |lst l =>
   cases n with
   |zero=>cases b
   |succ n =>
    cases u with
    |lst r =>
     cases k with
     |zero=>cases a
     |succ k =>
      exact mR n k l r (Z6.mp b) (Z6.mp a)
    |scr _=>cases k<;>cases a
    |dct _ _=>cases k<;>cases a
    |obj _ _=>cases k<;>cases a
    |_=>rfl
  |str s =>
   cases u with
   |str r=>exact yW
   |scr _=>cases k<;>cases a
   |dct _ _=>cases k<;>cases a
   |obj _ _=>cases k<;>cases a
   |_=>rfl
  |_ =>
   cases u with
   |scr _=>cases k<;>cases a
   |dct _ _=>cases k<;>cases a
   |obj _ _=>cases k<;>cases a
   |_=>rfl
theorem mR:∀(n k:Nat)(l r:Ul),(∀t∈l,Ji n t=B)->(∀t∈r,Ji k t=B)->PyData.eqvAll (oF l) (oF r)=kU l r
 |_,_,[],[],_,_=>rfl
 |_,_,[],_ :: _,_,_=>rfl
 |_,_,_ :: _,[],_,_=>rfl
 |n,k,t :: l,u :: r,d,b=>by
  show (PyData.eqv (LX t) (LX u)&&PyData.eqvAll (oF l) (oF r))=(eqT t u&&kU l r);rw[qi n k t u (d t Zy) (b u Zy),mR n k l r (λx a=>d x (Zw _ a)) λx a=>b x (Zw _ a)]
end
def Rp.MS(r:Rp G H v (.tup d) F):∃b a e,v=.ref b/\H b=Z (.tup a)/\RpL G H a d e:=by
 cases r with
 |tup h q=>exact⟨_,_,_,rfl,h,q⟩
def Rp.M3(r:Rp G H v (.lst d) F):∃b a e,v=.ref b/\H b=Z (.lst a)/\RpL G H a d e:=by
 cases r with
 |lst h q=>exact⟨_,_,_,rfl,h,q⟩
theorem lq{s:IR}(f:∀{v:V}{t:T}{F:W6}{u:On},Rp G H v t F->RelV v u->Ji n t=B->∃b,Reads s.heap u (LX t) b/\(LX t).canLay0=B/\(LX t).depth<=n):∀{d:List V}{a:Ul}{y:Xc}{e:W7},RpL G H d a y->aM d e->(∀t∈a,Ji n t=B) →
  ∃b,ReadsAll s.heap e (oF a) b/\PyData.canLayAll0 (oF a)=B/\PyData.depthAll (oF a)<=n
 |_,_,_,_,.nil,r,_=>by cases r;exact⟨_,.nil,rfl,ZE _⟩
 |_,_,_,_,.cons p q,r,h=>by
  cases r with
  |cons r1 r2 =>
   refine L2.ai λz g=>?_;obtain⟨b,m,l,j⟩:=f p r1 (h _ Zy);obtain⟨bs,x,w,o⟩:=lq f q r2 λt i=>h t (Zw _ i);refine g ?_;exact⟨_,.cons m x,ZS.mpr ⟨l,w⟩,Nat.max_le.mpr ⟨j,o⟩⟩
def nh(r:Rp G H v t F)(a:RelV v u)(d:flat t=B):∃e,Reads h u (LX t) e/\(LX t).canLay0=B/\(LX t).depth<=n:=by
 cases r with
 |non=>cases a;exact⟨_,.none,rfl,ZE _⟩
 |bl b=>cases a;exact⟨_,.bool b,rfl,ZE _⟩
 |int i=>obtain⟨t,rfl⟩:=a;exact⟨_,.int i t,rfl,ZE _⟩
 |str s h=>obtain⟨t,rfl⟩:=a;exact⟨_,.str _ t,Gq h,ZE _⟩
 |_=>cases d
def ka(I:Inv X d O H s)(n:Nat):∀{v:V}{t:T}{F:W6}{u:On},Rp G H v t F->RelV v u->Ji n t=B->∃w,Reads s.heap u (LX t) w/\(LX t).canLay0=B/\(LX t).depth<=n:=by
 induction n with
 |zero =>
  intro v t F u r a h;refine nh r a ?_;cases t<;>first | rfl | exact h
 |succ n x =>
  intro v t F u r a h;cases t with
  |tup l =>
   obtain⟨b,z,M,rfl,e,q⟩:=Rp.MS r;cases a;obtain⟨y,f,A,E⟩:=I.tuple (Jy.of e);obtain⟨w,p,m,j⟩:=lq x q f (Z6.mp h);obtain⟨o,g,i,D,hd⟩:=A;exact⟨_,.tuple g i hd (by simpa using p),m,Xl j⟩
  |lst l =>
   obtain⟨b,z,M,rfl,e,q⟩:=Rp.M3 r;cases a;obtain⟨y,f,C,E⟩:=I.list (Iv.of e);obtain⟨w,p,m,j⟩:=lq x q f (Z6.mp h);obtain⟨o,g,i,D,hd⟩:=C.isList;exact⟨_,.list g i hd (by simpa using p),m,Xl j⟩
  |scr _=>cases h
  |dct _ _=>cases h
  |obj _ _=>cases h
  |_=>exact nh r a Y
def Cp(G:Gx)(a:Bool):Ja:=λx y H Q=>∃t u F b,Rp G H x t F/\Rp G H y u b/\Ji 60 t=B/\Ji 60 u=B/\Q (.bl (if a then !eqT t u else eqT t u)) H
def ju{d:PyData}(h:d.canLay0=B)(a:d.depth<=60):SeqAt.shaped d=B:=by
 unfold SeqAt.shaped;rw[h,Bool.true_and];exact decide_eq_true (by lia)
def qE(g:X.A.units+64<cLine):OpR X (UF .Eq) (Cp G L):=by
 intro a s O H x y v u Q I f e h;obtain⟨t,w,F,r,r1,r2,d,b,q⟩:=h;obtain⟨p,o,n,m⟩:=ka I 60 r1 f d;obtain⟨bs,l,j,i⟩:=ka I 60 r2 e b;refine eq_dataH o l (ju n m) (ju j i) g ⟨.bl _,H,I,rfl,?_⟩;rw[qi 60 60 t w d b];exact q
def DZ(g:X.A.units+64<cLine):OpR X (UF .NotEq) (Cp G B):=by
 intro a s O H x y v u Q I f e h;obtain⟨t,w,F,r,r1,r2,d,b,q⟩:=h;obtain⟨p,o,n,m⟩:=ka I 60 r1 f d;obtain⟨bs,l,j,i⟩:=ka I 60 r2 e b;refine ne_dataH o l (ju n m) (ju j i) g ⟨.bl _,H,I,rfl,?_⟩;rw[qi 60 60 t w d b];exact q
def uV:fT G (Cp G L) oEq:=by
 intro R U b H x y u w f d m t Q a e k;unfold oEq at e;split at e
 ·rename_i h;cases e;exact⟨_,_,_,_,a.r1,a.r2,h.1,h.2,bz k (.bl _)⟩
 ·cases e
def G0:fT G (Cp G B) Ly:=by
 intro R U b H x y u w f d m t Q a e k;unfold Ly at e;split at e
 ·rename_i h;cases e;exact⟨_,_,_,_,a.r1,a.r2,h.1,h.2,bz k (.bl _)⟩
 ·cases e
def tells_eq:Tells oEq:=by
 intro x y m t e;unfold oEq at e;split at e<;>first | (cases e;exact⟨_,rfl⟩) | cases e
def zi:Tells Ly:=by
 intro x y m t e;unfold Ly at e;split at e<;>first | (cases e;exact⟨_,rfl⟩) | cases e
end
structure Jc(R:Iq)(U:VS.Env)(H:Hp)(R':Iq)(U':VS.Env)(H':Hp):Prop where
 keep:∀a o,H a=some o->¬bX R U a->H' a=some o/\¬bX R' U' a
 Iu:∀a,H a≠none->H' a≠none
 ow:∀a,bX R' U' a->bX R U a\/H a=none
 pu:∀a,dG R' U' a->dG R U a\/bX R U a\/H a=none
 kept:Kept H H'
theorem Jc.refl(R:Iq)(U:VS.Env)(H:Hp):Jc R U H R U H:=⟨λa o h n=>⟨h,n⟩,λ_ h=>h,λ_ h=>.inl h,λ_ h=>.inl h,Kept.refl H⟩
theorem Jc.none(f:Jc R U H g d b)(h:b a=J):H a=J:=by
 cases e:H a with
 |none=>rfl
 |some o=>exact absurd h (f.Iu a (by rw[e];exact λz=>nomatch z))
theorem Jc.trans{e:Iq}{U U1 b:VS.Env}{j:Hp}(f:Jc R U H e U1 j)(g:Jc e U1 j d b i):Jc R U H d b i where
 keep:=λa o h n=>let ⟨m,l⟩:=f.keep a o h n;g.keep a o m l
 Iu:=λa h=>g.Iu a (f.Iu a h)
 ow:=λa h=>by
  rcases g.ow a h with h | h
  ·exact f.ow a h
  ·exact .inr (f.none h)
 pu:=λa h=>by
  rcases g.pu a h with h | h | h
  ·exact f.pu a h
  ·rcases f.ow a h with h | h
   ·exact .inr (.inl h)
   ·exact .inr (.inr h)
  ·exact .inr (.inr (f.none h))
 kept:=f.kept.trans g.kept
def Jc.same{H:Hp}(e:aI H b):Jc R U H R U b :=
 ⟨λa o h n=>⟨e a o h,n⟩,λa h z=>h (e.free z),λ_ h=>.inl h,λ_ h=>.inl h,Kept.of e⟩
def qQ(R:Iq)(U:VS.Env)(H:Hp):Md->W6->Prop
 |.fr,F=>F.Nodup/\∀a∈F,H a=J\/bX R U a
 |_,F=>∀a∈F,H a=J\/dG R U a\/bX R U a
theorem qQ.back(f:Jc R U H e d g):∀{m:Md},qQ e d g m F->qQ R U H m F
 |.fr,h=>⟨h.1,λa b=>(h.2 a b).elim (λz=>.inl (f.none z)) λz=>(f.ow a z).elim .inr .inl⟩
 |.pu,h=>λa b=>by
  rcases h a b with z | z | z
  ·exact .inl (f.none z)
  ·rcases f.pu a z with z | z | z
   ·exact .inr (.inl z)
   ·exact .inr (.inr z)
   ·exact .inl z
  ·exact(f.ow a z).elim (λz=>.inr (.inr z)) .inl
 |.bo,h=>λa b=>by
  rcases h a b with z | z | z
  ·exact .inl (f.none z)
  ·rcases f.pu a z with z | z | z
   ·exact .inr (.inl z)
   ·exact .inr (.inr z)
   ·exact .inl z
  ·exact(f.ow a z).elim (λz=>.inr (.inr z)) .inl
noncomputable def Nx(G:Gx)(R:Iq)(U:VS.Env)(H:Hp)(b:VS.Env)(k:L2.St->Hp->Prop):Prop:=∀d e a,SR G d b e a->Jc R U H d b a->k e a
def vL(G:Gx)(R:Iq)(U:VS.Env)(H:Hp)(D:Ends):Out->Prop
 |.nx a=>Nx G R U H a D.nx
 |.bk a=>Nx G R U H a D.bk
 |.ct a=>Nx G R U H a D.ct
 |.rt v a=>∀u b F d e,SR G d a e b->Jc R U H d a b->Rp G b u v.2 F->qQ R U H v.1 F->D.rt u b
def tS(G:Gx)(c:Sx):TS:=λD O H=>∃R U o,SR G R U O H/\c U=Z o/\vL G R U H D o
def PSV(G:Gx)(X:Cx)(a:Stmt)(c:Sx):Prop:=PS X a (tS G c)
def jh(G:Gx)(X:Cx)(a:List Stmt)(c:Sx):Prop:=Kc X a (tS G c)
def PS.weak{X:Cx}(h:PS X e t)(w:∀D O H,b D O H->t D O H):PS X e b:=λa s O H D I q=>h a s O H D I (w D O H q)
def Kc.weak{X:Cx}(h:Kc X e t)(w:∀D O H,b D O H->t D O H):Kc X e b:=λa s O H D I q=>h a s O H D I (w D O H q)
theorem vL.back(f:Jc R U H j i l):∀{o:Out},vL G R U H D o->vL G j i l D o
 |.nx e,h=>λa b d s g=>h a b d s (f.trans g)
 |.bk e,h=>λa b d s g=>h a b d s (f.trans g)
 |.ct e,h=>λa b d s g=>h a b d s (f.trans g)
 |.rt v e,h=>λu d F a b s g r q=>h u d F a b s (f.trans g) r (q.back f)
section
variable{st:Stmt}
def bP:jh G X [] eX:=Kc.weak Cr λD O H a=>by
 obtain⟨R,U,o,s,e,k⟩:=a;cases (e);exact k R O H s (Jc.refl _ _ _)
def af(i:PSV G X st c1)(h:jh G X Oy c2):jh G X (st :: Oy) (ak c1 c2):=Kc.weak (yd i h) λD O H g=>by
 obtain⟨R,U,o,s,e,k⟩:=g;obtain⟨b,e1,e2⟩:=Zz.mp e;refine⟨R,U,b,s,e1,?_⟩;cases b with
 |nx a=>exact λj l m d f=>⟨j,a,o,d,e2,k.back f⟩
 |rt v a=>cases e2;exact k
 |bk a=>cases e2;exact k
 |ct a=>cases e2;exact k
def cp(h:Lk G X t d)(j:jh G X a c1)(i:jh G X b c2):PSV G X (.If t a b pos) (JB d c1 c2):=PS.weak (Gj h j i) λD O H g=>by
 obtain⟨R,U,o,s,e,k⟩:=g;obtain⟨⟨m,x⟩,l,e1⟩:=Zz.mp e;obtain⟨f,n,e2⟩:=Zz.mp e1;refine⟨R,U,m,x,f,s,l,n,λp e3=>?_⟩;cases f with
 |true =>
  rw[Zr Y]at e2;exact Cz ⟨R,U,o,s.same e3,e2,k.back (Jc.same e3)⟩
 |false =>
  rw[Zq Zf]at e2;exact BF ⟨R,U,o,s.same e3,e2,k.back (Jc.same e3)⟩
theorem Fp.ret:∀{m:Md},Fp R U H m F->qQ R U H (match m with | .bo=>.pu | m=>m) F
 |.fr,f=>⟨f.1,λa b=>.inl (f.2 a b)⟩
 |.pu,f=>λa b=>(f a b).elim .inl λz=>.inr (.inl z)
 |.bo,f=>f
def bu(he:PV G X e ce):PSV G X (.Return (Z e) pos) (eA ce):=PS.weak (p5 he) λD O H a=>by
 obtain⟨R,U,o,s,e,k⟩:=a;obtain⟨⟨m,x⟩,b,e1⟩:=Zz.mp e;cases e1;exact⟨R,U,m,x,s,b,λv d F e1 r1 f1=>k v d F R O (s.same e1) (Jc.same e1) r1 f1.ret⟩
def bg{U:VS.Env}{c:Cell}(h:(U.set i J)[j]?=Z (Z c)):j≠i/\U[j]?=Z (Z c):=by
 rw[V1]at h;split at h
 ·split at h<;>cases h
 ·rename_i n;exact⟨λz=>n z.symm,h⟩
def SR.drop(s:SR G R U O H)(i:Nat):SR G R (U.set i J) O H :=
 ⟨by rw[Ys];exact s.len,λj c h=>s.rp j c (bg h).2,λj t h=>s.nd j t (bg h).2,λj k t c b a n=>s.sep j k t c (bg b).2 (bg a).2 n⟩
def Jc.drop(i:Nat):Jc R U H R (U.set i J) H :=
 ⟨λa o h n=>⟨h,λ⟨j,t,d,b⟩=>n ⟨j,t,(bg d).2,b⟩⟩,λ_ h=>h,λa ⟨j,t,d,b⟩=>.inl ⟨j,t,(bg d).2,b⟩,λa ⟨j,t,d,b⟩=>.inl ⟨j,t,(bg d).2,b⟩,Kept.refl H⟩
def fJ{X:Cx}(i:Nat)(u:{`q2,X.N[i]?=Z x})(l:{`q5,KG X.env.scope x})(r:{`q1,K3 x})(d:{`q1,K4 x}):PSV G X (.Return (Z (.Name x p)) pos) (ji i):=PS.weak (p5 (dk u l r d)) λD O H n=>by
 obtain⟨R,U,o,s,e,k⟩:=n;unfold ji at e;split at e
 ·rename_i t h;obtain⟨v,j,b⟩:=s.rp _ _ h;cases e;exact⟨v,j,k v H (R i) R O (s.drop i) (Jc.drop i) b ⟨s.nd i t h,λa g=>.inr ⟨i,t,h,g⟩⟩⟩
 ·rename_i t h;obtain⟨v,j,b⟩:=s.rp _ _ h;cases e;refine⟨v,j,k v H (R i) R O s (Jc.refl _ _ _) b ?_⟩;have f:Fp R U H .pu (R i):=λa g=>.inr ⟨i,t,h,g⟩;have f2:=(f.up b).ret;have:(match (VS.up .pu (lW (.pu t))).1 with | .bo=>Md.pu | m=>m)=(VS.up .pu t).1:=by
   show (match (VS.up .pu t).1 with | .bo=>Md.pu | m=>m)=_;unfold VS.up;split<;>(rename_i q;revert q;split<;>simp)
  rw[this]at f2;exact f2
 ·cases e
noncomputable def iJ(R:Iq)(i:Nat)(F:W6):Iq:=λj=>if j=i then F else R j
def gf:iJ R i F i=F:=Zr Y
def eu(h:j≠i):iJ R i F j=R j:=Zq h
def hU{U:VS.Env}{c:Cell}(h:(U.set i (Z c))[j]?=Z (Z a)):(j=i/\a=c)\/(j≠i/\U[j]?=Z (Z a)):=by
 rw[V1]at h;split at h
 ·rename_i e;split at h
  ·exact .inl ⟨e.symm,(Zg (Zg h)).symm⟩
  ·cases h
 ·rename_i n;exact .inr ⟨λz=>n z.symm,h⟩
def SR.put{v:V}{c:Cell}(s:SR G R U O H)(x:i<U.length)(r:Rp G p v (lW c) F)(u:∀j b,j≠i->U[j]?=Z (Z b)->∀w,Rp G H w (lW b) (R j)->Rp G p w (lW b) (R j))(y:∀t,c=.ow t->F.Nodup)(z:∀t,c=.ow t->∀j b,j≠i->U[j]?=Z (Z b)->∀a∈F,a∉R j)(l:∀j t,j≠i->U[j]?=Z (Z (.ow t))->∀a∈R j,a∉F) :
  SR G (iJ R i F) (U.set i (Z c)) (O.set i (Z v)) p where
 len:=by rw[Ys,Ys];exact s.len
 rp:=λj b h=>by
  rcases hU h with⟨rfl,rfl⟩ | ⟨n,h⟩
  ·exact⟨v,by rw[XF (by rw[← s.len];exact x)],by rw[gf];exact r⟩
  ·obtain⟨w,m,f⟩:=s.rp j b h;exact⟨w,by rw[XX (YN n)];exact m,by rw[eu n];exact u j b n h w f⟩
 nd:=λj t h=>by
  rcases hU h with⟨rfl,e⟩ | ⟨n,h⟩
  ·rw[gf];exact y t e.symm
  ·rw[eu n];exact s.nd j t h
 sep:=λj k t b m f n=>by
  rcases hU m with⟨rfl,e⟩ | ⟨g,q⟩
  ·rcases hU f with⟨rfl,e2⟩ | ⟨d,o⟩
   ·exact absurd Y n
   ·rw[gf,eu d];exact z t e.symm k b d o
  ·rcases hU f with⟨rfl,e2⟩ | ⟨d,o⟩
   ·rw[gf,eu g];exact l j t g q
   ·rw[eu g,eu d];exact s.sep j k t b q o n
def jN{U:VS.Env}{c:Cell}(h:bX (iJ R i F) (U.set i (Z c)) a):(∃t,c=.ow t/\a∈F)\/bX R U a:=by
 obtain⟨j,t,d,b⟩:=h;rcases hU d with⟨rfl,e⟩ | ⟨n,d⟩
 ·rw[gf]at b;exact .inl ⟨t,e.symm,b⟩
 ·rw[eu n]at b;exact .inr ⟨j,t,d,b⟩
def pQ{U:VS.Env}{c:Cell}(h:dG (iJ R i F) (U.set i (Z c)) a):(∃t,c=.pu t/\a∈F)\/dG R U a:=by
 obtain⟨j,t,d,b⟩:=h;rcases hU d with⟨rfl,e⟩ | ⟨n,d⟩
 ·rw[gf]at b;exact .inl ⟨t,e.symm,b⟩
 ·rw[eu n]at b;exact .inr ⟨j,t,d,b⟩
def SR.MW(s:SR G R U O H)(h:bX R U a)(g:dG R U a):False:=by
 obtain⟨j,t,d,f⟩:=h;obtain⟨k,u,b,i⟩:=g;exact s.sep j k t _ d b (λe=>by subst e;rw[d]at b;cases b) a f i
def SR.val{m:Md}{c:Cell}(s:SR G R U O H)(C:i<U.length)(e:aI H A)(r:Rp G A v t F)(f:Fp R U H m F)(p:(c=.pu t/\m ≠ .bo)\/(c=.ow t/\m=.fr)):SR G (iJ R i F) (U.set i (Z c)) (O.set i (Z v)) A/\Jc R U H (iJ R i F) (U.set i (Z c)) A:=by
 have Iu:∀{a},H a=J->∀j x,U[j]?=Z (Z x)->a∉R j:=λ{a} h j x g b=>by
  obtain⟨w,_,q⟩:=s.rp j x g;exact Il.xa (q.Iu a b) h
 have ct:lW c=t:=by rcases p with⟨rfl,_⟩ | ⟨rfl,_⟩<;>rfl
 have y:∀a∈F,H a=J\/dG R U a:=λa b=>by
  rcases p with⟨_,n⟩ | ⟨_,n⟩
  ·exact f.pu n a b
  ·rw[n]at f;exact .inl (f.2 a b)
 constructor
 ·refine s.put C (by rw[ct];exact r) (λj x n g w q=>q.same e) (λu d=>?_) (λu d j x n g a b=>?_) λj u n g a b D=>?_
  ·rcases p with⟨h,_⟩ | ⟨_,h⟩
   ·rw[h]at d;cases d
   ·rw[h]at f;exact f.1
  ·rcases p with⟨h,_⟩ | ⟨_,h⟩
   ·rw[h]at d;cases d
   ·rw[h]at f;exact Iu (f.2 a b) j x g
  ·rcases y a D with z | z
   ·exact Iu z j _ g b
   ·exact s.MW ⟨j,u,g,b⟩ z
 ·refine⟨λa o h n=>⟨e a o h,λz=>?_⟩,λa h z=>h (e.free z),λa h=>?_,λa h=>?_,Kept.of e⟩
  ·rcases jN z with⟨u,d,b⟩ | z
   ·rcases p with⟨l,_⟩ | ⟨_,l⟩
    ·rw[l]at d;cases d
    ·rw[l]at f;rw[f.2 a b]at h;cases h
   ·exact n z
  ·rcases jN h with⟨u,d,b⟩ | z
   ·rcases p with⟨l,_⟩ | ⟨_,l⟩
    ·rw[l]at d;cases d
    ·rw[l]at f;exact .inr (f.2 a b)
   ·exact .inl z
  ·rcases pQ h with⟨u,d,b⟩ | z
   ·exact(y a b).elim (λz=>.inr (.inr z)) .inl
   ·exact .inl z
def dM{pos:Pos}(he:PV G X e ce)(q:X.N.Nodup)(n:{`q2,X.N[i]?=Z x})(g:{`q6,Loc X.env.scope x})(h:{`q2,swapsWith e (Z (.Name x a)) pos.line X.env=pure L})(p:{`q7,X.fn x=B\/X.env.scope.names.lookup x=Z .local}) :
  PSV G X (.Assign [.Name x a] e pos) (kH i ce):=PS.weak (ub q n g he h p) λD O H j=>by
 obtain⟨R,U,o,s,e,k⟩:=j;obtain⟨⟨m,t⟩,u,e1⟩:=Zz.mp e;obtain⟨c,eC,e2⟩:=Zz.mp e1;split at e2
 ·rename_i l;cases e2;refine⟨R,U,m,t,s,u,λv w F e3 b r=>?_⟩;obtain⟨f,d⟩:=s.val (c:=c) l e3 b r (by
   unfold cellOf at eC;cases m with
   |fr =>
    simp only[Option.some.injEq]at eC;split at eC
    ·exact .inr ⟨eC.symm,rfl⟩
    ·exact .inl ⟨eC.symm,by decide⟩
   |pu=>cases eC;exact .inl ⟨rfl,by decide⟩
   |bo=>cases eC)
  exact k _ _ w f d
 ·cases e2
def aF{pos:Pos}(he:PV G X e ce)(r:X.N.Nodup)(p:{`q2,X.N[i]?=Z x})(g:{`q6,Loc X.env.scope x})(h:{`q2,swapsWith e (Z (.Name x a)) pos.line X.env=pure L})(q:{`q7,X.fn x=B\/X.env.scope.names.lookup x=Z .local}) :
  PSV G X (.Assign [.Name x a] e pos) (aT i ce):=PS.weak (ub r p g he h q) λD O H j=>by
 obtain⟨R,U,o,s,e,k⟩:=j;obtain⟨⟨m,t⟩,w,e1⟩:=Zz.mp e;split at e1
 ·cases e1
 ·rename_i l;split at e1
  ·rename_i n;cases e1;refine⟨R,U,m,t,s,w,λv y F e3 b u=>?_⟩;obtain⟨f,d⟩:=s.val n e3 b u (.inl ⟨rfl,l⟩);exact k _ _ y f d
  ·cases e1
def SR.frz(s:SR G R U O H)(h:U[i]?=Z (Z (.ow t))):SR G R (U.set i (Z (.pu t))) O H/\Jc R U H R (U.set i (Z (.pu t))) H:=by
 have back:∀{j c},(U.set i (Z (.pu t)))[j]?=Z (Z c)->∃l,U[j]?=Z (Z l)/\lW l=lW c/\∀u,c=.ow u->l=.ow u:=λ{j c} g=>by
  rcases hU g with⟨rfl,rfl⟩ | ⟨n,g⟩
  ·exact⟨.ow t,h,rfl,λu p=>nomatch p⟩
  ·exact⟨c,g,rfl,λu p=>p⟩
 refine⟨⟨by rw[Ys];exact s.len,λj c g=>?_,λj u g=>?_,λj k u c b d n=>?_⟩,⟨λa o r n=>⟨r,λ⟨j,u,b,d⟩=>?_⟩,λ_ h=>h,λa ⟨j,u,b,d⟩=>?_,λa ⟨j,u,b,d⟩=>?_,Kept.refl H⟩⟩
 ·obtain⟨l,b,d,_⟩:=back g;obtain⟨v,f,x⟩:=s.rp j l b;exact⟨v,f,by rw[← d];exact x⟩
 ·obtain⟨l,b,_,w⟩:=back g;rw[w u Y]at b;exact s.nd j u b
 ·obtain⟨c1,f,_,m⟩:=back b;obtain⟨c2,q,_,_⟩:=back d;rw[m u Y]at f;exact s.sep j k u c2 f q n
 ·obtain⟨c1,f,_,m⟩:=back b;rw[m u Y]at f;exact n ⟨j,u,f,d⟩
 ·obtain⟨c1,f,_,m⟩:=back b;rw[m u Y]at f;exact .inl ⟨j,u,f,d⟩
 ·rcases hU b with⟨rfl,_⟩ | ⟨n,b⟩
  ·exact .inr (.inl ⟨j,t,h,d⟩)
  ·exact .inl ⟨j,u,b,d⟩
def jC(i:Nat)(h:jh G X Oy c):jh G X Oy (ak (sO i) c):=Kc.weak h λD O H f=>by
 obtain⟨R,U,o,s,e,k⟩:=f;obtain⟨g,e1,e2⟩:=Zz.mp e;unfold sO at e1;split at e1
 ·rename_i t d;cases e1;obtain⟨b,a⟩:=s.frz d;exact⟨R,_,o,b,e2,k.back a⟩
 ·cases e1;exact⟨R,U,o,s,e2,k⟩
 ·cases e1
end
section
variable{st:Stmt}
structure Chg(G:Gx)(H:Hp)(v:V)(F:W6)(t':T)(H2:Hp)(F':W6):Prop where
 kept:Kept H H2
 keep:∀b o,b∉F->H b=some o->H2 b=some o
 Iu:∀b,H b≠none->H2 b≠none
 rp:Rp G H2 v t' F'
 nd:F'.Nodup
 sub:∀a∈F',a∈F\/H a=none
def SR.mut(s:SR G R U O H)(m:U[i]?=Z (Z (.ow t)))(A:O[i]?=Z (Z v))(g:Chg G H v (R i) p x r) :
  SR G (iJ R i r) (U.set i (Z (.ow p))) O x/\Jc R U H (iJ R i r) (U.set i (Z (.ow p))) x:=by
 have off:=λj f n d a b l=>s.sep i j t f m d (YN n) a l b;have es:O.set i (Z v)=O:=by
  obtain⟨h,e⟩:=ZZ.mp A;rw[← e];exact Vj h
 have new:∀a∈r,∀j f,j≠i->U[j]?=Z (Z f)->a∉R j:=λa b j f n d l=>by
  rcases g.sub a b with z | z
  ·exact off j f n d a l z
  ·obtain⟨w,_,q⟩:=s.rp j f d;exact Il.xa (q.Iu a l) z
 constructor
 ·have:=s.put (c:=.ow p) (v:=v) ((ZZ.mp m).1) g.rp (λj f n d w q=>q.keep g.kept λa b o C=>g.keep a o (off j f n d a b) C) (λ_ _=>g.nd) (λu y j f n d a b=>new a b j f n d) λj u n d a b l=>new a l j _ n d b;rw[es]at this;exact this
 ·refine⟨λa o h n=>⟨g.keep a o (λz=>n ⟨i,t,m,z⟩) h,λz=>?_⟩,g.Iu,λa h=>?_,λa h=>?_,g.kept⟩
  ·rcases jN z with⟨u,_,b⟩ | z
   ·rcases g.sub a b with z | z
    ·exact n ⟨i,t,m,z⟩
    ·rw[z]at h;cases h
   ·exact n z
  ·rcases jN h with⟨u,_,b⟩ | z
   ·rcases g.sub a b with z | z
    ·exact .inl ⟨i,t,m,z⟩
    ·exact .inr z
   ·exact .inl z
  ·rcases pQ h with⟨u,y,b⟩ | z
   ·cases y
   ·exact .inl z
def Al(G:Gx)(r:V->List V->Hp->VK->Prop)(f:T->Uo->Option (T×Val)):Prop:=∀(R:Iq)(U:VS.Env)(H g:Hp)(v:V)(t b:T)(F:W6)(l:Uo)(a:List V)(h:Xc)(x:Val)(Q:VK),
 Rp G H v t F->F.Nodup->Args G R U H g l a h->f t l=Z (b,x)->(∀u d i,Chg G H v F b d i->Q u d)->r v a g Q
def zR{pos:Pos}{b:Pos}(i:Nat)(pa:PlainAttrs w)(h:Slot w a n)(M4:typeOf (.builtin n)=pure (.type "method_descriptor"))(hm:NU X n r)(ok:Al G r f)(hT:∀H v t F l z,Rp G H v t F->f t l=Z z->tyV G.K w v H)(ha:Jj G X (e :: es) cs)(hK:{`q2,X.K=G.K})(hN:{`q2,X.N[i]?=Z x})(hv:{`q5,KG X.env.scope x})(hd:{`q1,K3 x})(q:{`q1,K4 x})(Im:{`q2,XAB (.Name x j) a X.env (eval (.Name x j) X.env)=eval (.Name x j) X.env})(I0:{`q2,((backTo d (Pv (e :: es) X.env)).all (λx=>!x.1)&&(backToKw d (SL [] X.env)).all (λx=>x.1.isSome)
   && decide ((e :: es).length+([]:List Keyword).length+(if ([]:List Keyword).isEmpty then 0 else 1)<30))=B})(Ik:{`q2,(b.endLine==d.line)=B})(hs:{`q2,K1 e es X})(Ip:{`q2,K2 d es X})(JW:{`q2,swapsWith (.Call (.Attribute (.Name x j) a b) (e :: es) [] d) J pos.line X.env=pure L}) :
  PSV G X (.Expr (.Call (.Attribute (.Name x j) a b) (e :: es) [] d) pos) (sX (mh i [] f cs)) :=
 PS.weak (fY (nq pa h M4 hm (dk hN hv hd q) ha Im I0 Ik hs Ip) JW) λD O H hq=>by
  refine L2.ai λP_ m=>?_;obtain⟨R,U,o,s,e,k⟩:=hq;unfold sX mh at e;obtain⟨⟨E,U'⟩,e1,e2⟩:=Zt.mp e;refine m ?_;split at e1
  ·rename_i t p;refine L2.ai λP_ m=>?_;obtain⟨ks,ek,e3⟩:=Zz.mp e1;cases (ek);obtain⟨l,el,e4⟩:=Zz.mp e3;obtain⟨⟨S,x2⟩,e5,e6⟩:=Zt.mp e4;cases e6;cases e2;obtain⟨v,A,y⟩:=s.rp _ _ p;refine m ?_;have C:=e5;refine⟨v,A,by rw[hK];exact hT H v t _ l _ y C,R,U,l,s,el,λQ H' Fs q1 q2 q3=>?_⟩;refine ok R U H H' v t S (R i) l Q Fs E _ y (s.nd i t p) ⟨q1,q2,q3⟩ C λu H2 F' g=>?_;obtain⟨P,M⟩:=s.mut p A g;exact k _ O H2 P M
  ·cases e1
theorem Chg.upd{H:Hp}(e:aI H d)(n:a∈F)(m:Il (d a))(r:Rp G (upd d a o) v i f)(l:f.Nodup)(g:∀a∈f,a∈F\/H a=J):Chg G H v F i (upd d a o) f :=
 ⟨(Kept.of e).trans (Kept.upd (.inl m)),λb j hb h=>by rw[aw (λz=>hb (by rw[z];exact n))];exact e b j h,
  λb h z=>by
   by_cases q:b=a
   ·subst q;rw[ar]at z;cases z
   ·rw[aw q]at z;exact h (e.free z),r,l,g⟩
def RpL.off(r:RpL G H f g d)(j:Il (H a))(h:a∉d.flatten):RpL G (upd H a o) f g d :=
 r.keep (Kept.upd (.inl j)) λb hb l i=>by rw[aw (λz=>h (by rw[← z];exact hb))];exact i
def mw(h:fit v=Z t):v=(.fr,t):=by
 obtain⟨m,x⟩:=v;cases m<;>first | (cases h;rfl) | cases h
def jB:Al G mQ aC:=by
 intro R U H E v t P F l N S x Q r nd A e k;unfold aC at e;split at e
 ·rename_i O y;obtain⟨z,u,e1⟩:=Zz.mp e;have C:=mw u;subst C;split at e1
  ·rename_i q;cases e1;obtain⟨a,n,M,rfl,rfl,i,g⟩:=r.lst_inv;obtain⟨w,j,rfl,rfl,D⟩:=(A.rp).one;have f:=A.fp.each 0 _ _ Y Y;have d:=A.same a _ i;have h:Il (E a):=by rw[d];exact True.intro
   have na:=(Zc.mp nd).1;have nw:a∉j:=λz=>by rw[f.2 a z]at i;cases i
   refine⟨a,n,w,rfl,rfl,d,by rw[g.len.1];exact q,k _ _ (a :: (M++[j]).flatten) ?_⟩;have off:=λb hb hw=>Il.xa (g.Iu b hb) (f.2 b hw);refine Chg.upd A.same Zy h (.lst ar (((g.same A.same).off h na).append (.cons (D.keep (Kept.upd (.inl h)) λb hb o p=>by rw[aw (λz=>nw (by rw[← z];exact hb))];exact p) .nil))) ?_ ?_
   ·rw[Yt];refine Zc.mpr ⟨λm=>?_,ZC.mpr ⟨(Zc.mp nd).2,by simpa using f.1,λb hb c s z=>?_⟩⟩
    ·rcases Zj.mp m with m | m
     ·exact na m
     ·exact nw (by simpa using m)
    ·subst z;exact off b hb (by simpa using s)
   ·intro b hb;rcases Zh.mp hb with rfl | hb
    ·exact .inl Zy
    ·rw[Yt]at hb;rcases Zj.mp hb with hb | hb
     ·exact .inl (Zw _ hb)
     ·exact .inr (f.2 b (by simpa using hb))
  ·cases e1
 ·cases e
def yO(r:Rp G H v (.lst b) F):tyV G.K "list" v H:=by
 obtain⟨a,f,h,rfl,rfl,d,g⟩:=r.lst_inv;exact .inl ⟨rfl,_,Iv.of d⟩
def gy(r:Rp G H v t F)(h:aC t l=Z z):tyV G.K "list" v H:=by
 unfold aC at h;split at h
 ·exact yO r
 ·cases h
end
structure Mx(G:Gx)(J:It)(l:Ul)(C:W6)(H:Hp):Prop where
 run:∀H2,Kept H H2->(∀a∈C,∀o,H a=some o->H2 a=some o) →
  (∀(i:Nat)(t:T),l[i]?=some t->J.go i H2/\∀x H3,J.Rw i H2 x H3->aI H2 H3/\∃F,Rp G H3 x t F/\∀a∈F,a∈C\/H2 a=none)/\∀(i:Nat),l.length<=i->J.stop i H2
 Iu:∀a∈C,H a≠none
def FpC(R:Iq)(U:VS.Env)(H:Hp)(m:Md)(C:W6):Prop:=∀a∈C,H a=J\/dG R U a\/(m=.bo/\bX R U a)
theorem Fp.c{U:VS.Env}:∀{m:Md},Fp R U H m F->FpC R U H m F
 |.fr,f=>λa b=>.inl (f.2 a b)
 |.pu,f=>λa b=>(f a b).imp id .inl
 |.bo,f=>λa b=>(f a b).imp id λz=>z.imp id λz=>⟨rfl,z⟩
def tI(G:Gx)(c:Ju):TI:=λO H Rq=>∃R U m l,SR G R U O H/\c U=Z (m,l)/\∀J a C,aI H a->Mx G J l C a->FpC R U H m C->Rq J a
def PVI(G:Gx)(X:Cx)(b a:Expr)(c:Ju):Prop:=PI X b a (tI G c)
def PI.weak{X:Cx}(h:PI X b e t)(w:∀O H Q,d O H Q->t O H Q):PI X b e d:=λa s O H Q I q=>h a s O H Q I (w O H Q q)
section
def yL(H:Hp)(d:Int)(n:Nat):Mx G (Sj d n) (rng d n) [] H:=by
 refine⟨λq _ _=>⟨λi t h=>?_,λi h=>(by simpa[rng] using h:n<=i)⟩,λa h=>by simp at h⟩;unfold rng at h;rw[ZL]at h;obtain⟨k,g,e⟩:=Zt.mp h;obtain⟨f,e2⟩:=ZZ.mp g;rw[Yx]at f;have l:i=k:=by simpa using e2
 subst l;refine⟨f,λx o j=>?_⟩;obtain⟨e3,m⟩:=j;subst e3;subst m;rw[← e];exact⟨aI.refl _,[],.int _,λa h=>by simp at h⟩
def ic(u:PV G X a ca)(t:Gl X "range")(r:X.mg "range" = J)(o:{`q2,K1 a [] X})(y:{`q2,Pv [a] X.env=[(L,eval a X.env)]}):PVI G X tg (.Call (.Name "range" p) [a] [] pos) (fj ca) :=
 PI.weak (wj t r (dU u gE o) y) λO H Rq q=>by
  obtain⟨R,U,m,l,s,e,k⟩:=q;obtain⟨⟨n,x⟩,w,e1⟩:=Zz.mp e;obtain⟨j,f,e2⟩:=Zz.mp e1;split at e2
  ·rename_i d;cases e2;refine⟨R,U,n,x,s,w,λv g F e3 i A=>?_⟩;cases x with
   |int z =>
    cases f;refine⟨j,by rw[i.int_inv],?_,?_,k _ g [] e3 (yL g 0 j.toNat) λa h=>by simp at h⟩
    ·have:=d.1;unfold Sl at this;lia
    ·have:=d.2;unfold Sl at this;lia
   |_=>cases f
  ·cases e2
def cM{d:Xc}{i:Nat}{F:W6}(h:d[i]?=Z F){a:KM}(f:a∈F):a∈d.flatten:=(cz h).subset f
def AH{a:KM}(K:Ww)(j:H a=Z (.lst d))(r:RpL G H d g m):Mx G (UW K a) g (a :: m.flatten) H:=by
 refine⟨λy k c=>?_,λb hb=>?_⟩
 ·have f:=c a Zy _ j;refine⟨λi t h=>?_,λi h=>⟨d,Iv.of f,by rw[r.len.1];exact h⟩⟩;obtain⟨v,F,l,u,s⟩:=(r.keep k λb hb o n=>c b (Zw _ hb) o n).get i h;refine⟨⟨d,v,Iv.of f,l⟩,λx w q=>?_⟩;obtain⟨e1,e2⟩:=q;subst e1;have ex:=e2 d (Iv.of f);rw[l]at ex;cases ex;exact⟨aI.refl _,F,s,λb hb=>.inl (Zw _ (cM u hb))⟩
 ·rcases Zh.mp hb with rfl | hb
  ·rw[j];exact λz=>nomatch z
  ·exact Il.xa (r.Iu b hb)
def D9{a:KM}(K:Ww)(n:H a=Z (.tup d))(r:RpL G H d g l):Mx G (UU K a) g l.flatten H:=by
 refine⟨λy k c=>?_,λb hb=>Il.xa (r.Iu b hb)⟩;have f:=k.tup a _ n;refine⟨λi t h=>?_,λi h=>⟨d,Jy.of f,by rw[r.len.1];exact h⟩⟩;obtain⟨v,F,j,u,s⟩:=(r.keep k λb hb o m=>c b hb o m).get i h;refine⟨⟨d,v,Jy.of f,j⟩,λx w q=>?_⟩;obtain⟨e1,e2⟩:=q;subst e1;have ex:=e2 d (Jy.of f);rw[j]at ex;cases ex;exact⟨aI.refl _,F,s,λb hb=>.inl (cM u hb)⟩
def tG(G:Gx)(g:Tg):TG:=λv O H Q=>∃R U t F d,SR G R U O H/\Rp G H v t F/\(∀a∈F,¬bX R U a)/\g t U=Z d ∧
 ∀f h,SR G f d h H->(∀a,bX f d a->bX R U a)->(∀a,dG f d a->dG R U a\/a∈F)->Q h H
def tGs(G:Gx)(l:List Tg):NS:=λj O H Q=>∃R U h g d,SR G R U O H/\RpL G H j h g/\(∀a∈g.flatten,¬bX R U a)/\Bs l h U=Z d ∧
 ∀f i,SR G f d i H->(∀a,bX f d a->bX R U a)->(∀a,dG f d a->dG R U a\/a∈g.flatten)->Q i H
def Pg(G:Gx)(X:Cx)(e:Expr)(g:Tg):Prop:=PG X e (tG G g)
def BI(G:Gx)(X:Cx)(e:List Expr)(g:List Tg):Prop:=Nu X e (tGs G g)
def PG.weak{X:Cx}{e:Expr}{f:TG}(h:PG X e t)(w:∀v O H Q,f v O H Q->t v O H Q):PG X e f:=λd s O H v u Q I r q=>h d s O H v u Q I r (w v O H Q q)
def Nu.weak{X:Cx}{e:List Expr}{f:NS}(h:Nu X e t)(w:∀v O H Q,f v O H Q->t v O H Q):Nu X e f:=λd s O H v u Q I r q=>h d s O H v u Q I r (w v O H Q q)
def aX{X:Cx}(i:Nat)(C:X.N.Nodup)(y:{`q2,X.N[i]?=Z x})(l:{`q6,Loc X.env.scope x})(A:X.fn x=B\/X.env.scope.names.lookup x=Z .local:=by first | exact .inl Y | exact .inr rfl):Pg G X (.Name x pos) (bK i):=PG.weak (uY C y l A) λv O H Q m=>by
 obtain⟨R,U,t,F,M,s,r,no,e,k⟩:=m;unfold bK at e;split at e
 ·rename_i o;cases e;refine k (iJ R i F) (O.set i (Z v)) (s.put o r (λj E n g w q=>q) (λu d=>nomatch d) (λu d=>nomatch d) λj u n g a f D=>no a D ⟨j,u,g,f⟩) (λa h=>?_) λa h=>?_
  ·rcases jN h with⟨u,d,_⟩ | z
   ·cases d
   ·exact z
  ·rcases pQ h with⟨u,d,f⟩ | z
   ·exact .inr f
   ·exact .inl z
 ·cases e
def rR:BI G X [] []:=Nu.weak AJ λv O H Q d=>by
 obtain⟨R,U,f,i,g,s,r,no,e,k⟩:=d;cases r with
 |nil =>
  cases (e);exact⟨rfl,k R O s (λ_ h=>h) λ_ h=>.inl h⟩
 |cons r q=>cases (e)
def jy(y:Pg G X e g)(x:BI G X es i)(u:{`q2,(assignEach (e :: es) X.env).map (·.2)=assign e X.env :: (assignEach es X.env).map (·.2)}):BI G X (e :: es) (g :: i) :=
 Nu.weak (Ag y x u) λv O H Q w=>by
  obtain⟨R,U,M,Fs,A,s,r,no,e,k⟩:=w;cases r with
  |nil=>cases (e)
  |cons r q =>
   rename_i F N F' Y S KU;obtain⟨j,e1,e2⟩:=Zz.mp e;refine⟨_,_,rfl,R,U,_,_,j,s,r,λa d=>no a (by rw[Z1];exact Z8 _ d),e1,λD P m f o=>?_⟩;refine⟨D,j,_,_,A,m,q,λa d z=>no a (by rw[Z1];exact ZQ _ d) (f a z),e2,λC E l t n=>k C E l (λa h=>f a (t a h)) λa h=>?_⟩;rcases n a h with h | h
   ·rcases o a h with h | h
    ·exact .inl h
    ·exact .inr (by rw[Z1];exact Z8 _ h)
   ·exact .inr (by rw[Z1];exact ZQ _ h)
theorem tq:∀{f:List Tg}{d:Ul}{U i:VS.Env},Bs f d U=Z i->d.length=f.length
 |[],[],_,_,_=>rfl
 |[],_ :: _,_,_,h=>nomatch h
 |_ :: _,[],_,_,h=>nomatch h
 |g :: f,t :: d,U,i,h=>by
  obtain⟨j,_,e2⟩:=Zz.mp (h);simp[tq e2]
def uL{X:Cx}(m:X.calm=B)(h:BI G X es d)(j:{`q2,(assignEach es X.env).length=d.length})(u:{`q2,(assignEach es X.env).findIdx? (·.1)=J})(y:{`q2,X.K=G.K}):Pg G X (.Tuple es k pos) (sM d) :=
 PG.weak (D5 m h j u) λv O H Q i=>by
  obtain⟨R,U,t,F,o,s,r,no,e,q⟩:=i;unfold sM at e;split at e
  ·rename_i l;obtain⟨n,g,x,rfl,rfl,w,f⟩:=r.JA;exact⟨n,g,rfl,Jy.of w,by rw[f.len.1];exact tq e,R,U,l,x,o,s,f,no,e,q⟩
  ·cases e
def pj{tgt:Tg}{body:Sx}{l:Ul}{U:VS.Env}(h:l[i]?=Z t):l.drop i=t :: l.drop (i+1):=by
 obtain⟨d,e⟩:=ZZ.mp h;rw[← e];exact YG d
def D2{cb:Sx}(hq:tS G (iI g ci cb) D O H):FL (tI G ci) (tG G g) (tS G cb) D O H:=by
 refine L2.ai λP_ k_=>?_;obtain⟨R,U,o,s,e,k⟩:=hq;obtain⟨⟨m,l⟩,el,e1⟩:=Zz.mp e;refine k_ ?_;dsimp only at e1;split at e1
 ·rename_i hm;refine⟨R,U,m,l,s,el,λJ Q C e2 ok fc=>?_⟩;have cno:∀a∈C,¬bX R U a:=λa y z=>by
   rcases fc a y with q | q | q
   ·exact Il.xa (s.JN z) q
   ·exact s.MW z q
   ·exact(λz=>by rw[z]at hm;cases hm) q.1
  refine⟨λi n O2 P=>n=l.length-i/\∃Y N,SR G Y N O2 P/\Jc R U H Y N P/\Kept Q P/\(∀a∈C,∀o,Q a=Z o->P a=Z o/\¬bX Y N a)/\forL g cb (l.drop i) N=Z o,
   ⟨l.length-0,rfl,R,U,s.same e2,Jc.same e2,Kept.refl _,λa y w A=>⟨A,cno a y⟩,by rw[Wf];exact e1⟩,?_⟩
  rintro i n O2 P ⟨rfl,Y,N,s2,f2,kp,con,e3⟩;obtain⟨go,stop⟩:=ok.run P kp λa y w A=>(con a y w A).1;cases hit:l[i]? with
  |none =>
   have hl:=Yi.mp hit;left;rw[XE hl]at e3;cases (e3);exact⟨stop i hl,k Y O2 P s2 f2⟩
  |some t =>
   have hl:=(ZZ.mp hit).1;right;obtain⟨g1,y1⟩:=go i t hit;rw[pj (tgt:=g) (body:=cb) (U:=N) hit]at e3;obtain⟨U3,e4,e5⟩:=Zz.mp (e3);obtain⟨w,e6,e7⟩:=Zz.mp e5;refine⟨g1,λE j=>∃d f,SR G d f E j/\Jc R U H d f j/\Kept Q j/\(∀a∈C,∀o,Q a=Z o->j a=Z o/\¬bX d f a)/\forL g cb (l.drop (i+1)) f=Z o,λE j ⟨d,f,q⟩=>⟨l.length-(i+1),by omega,rfl,d,f,q⟩,λx H3 yl=>?_⟩;obtain⟨S,F,rF,hF⟩:=y1 x H3 yl;refine⟨Y,N,t,F,U3,(s2.same S),rF,(λa y z=>by
    rcases hF a y with q | q
    ·have Ke:=ok.Iu a q;cases A:Q a with
     |none=>exact Ke A
     |some o''=>exact(con a q o'' A).2 z
    ·exact Il.xa (s2.JN z) q),e4,λR3 O3 s4 o3 p3=>?_⟩
   have f3:Jc R U H R3 U3 H3:=⟨λa w h n=>let ⟨h1,n1⟩:=f2.keep a w h n;⟨S a w h1,λz=>n1 (o3 a z)⟩,λa h z=>f2.Iu a h (S.free z),λa h=>f2.ow a (o3 a h),λa h=>by
    rcases p3 a h with h | h
    ·exact f2.pu a h
    ·rcases hF a h with q | q
     ·rcases fc a q with q | q | q
      ·exact .inr (.inr q)
      ·exact .inl q
      ·exact .inr (.inl q.2)
     ·exact .inr (.inr (f2.none q)),f2.kept.trans (Kept.of S)⟩
   have next:∀{d f j},Jc R3 U3 H3 d f j->Kept Q j/\∀a∈C,∀o,Q a=Z o->j a=Z o/\¬bX d f a:=λr =>
    ⟨(kp.trans (Kept.of S)).trans r.kept,λa y w A=>by
     obtain⟨h1,n1⟩:=con a y w A;exact r.keep a w (S a w h1) λz=>n1 (o3 a z)⟩
   refine⟨R3,U3,w,s4,e6,?_⟩;cases w with
   |nx f=>exact λd E j M r=>⟨d,f,M,f3.trans r,(next r).1,(next r).2,e7⟩
   |ct f=>exact λd E j M r=>⟨d,f,M,f3.trans r,(next r).1,(next r).2,e7⟩
   |bk f =>
    cases (e7);exact λd E j M r=>k d E j M (f3.trans r)
   |rt v f =>
    cases (e7);exact λu j F4 d E M r r5 q5=>k u j F4 d E M (f3.trans r) r5 (q5.back f3)
 ·cases e1
def cY{X:Cx}(m:PassesOwn (KB X.prog X.w) X.A X.env X.xe)(q:X.calm=B)(n:PVI G X tg d h)(o:Pg G X tg g)(r:jh G X f i)(j:{`q3,∀x,XAC d X.env x=pure x}):PSV G X (.For tg d f [] pos) (iI g h i):=PS.weak (Ef m q n o r j) λD O H l=>D2 l
end
noncomputable def HQ(H:Hp)(b:Xc):Md->W6->Prop
 |.fr,F=>F.Nodup/\∀a∈F,H a=J
 |_,F=>∀a∈F,H a=J\/a∈b.flatten
def KI(G:Gx)(g:Fn):Sp:=λe H Q _=>∃b d m r,RpL G H e b d/\g b=Z (m,r)/\∀v a F,aI H a->Rp G a v r F->HQ H d m F->Q v a
section
def call_of(h:tE G (bR g cs) O H Q):C9 (KI G g) [] E (P8 G cs) O H Q:=by
 refine L2.ai λP_ S=>?_;obtain⟨R,U,m,t,s,e,u⟩:=h;obtain⟨l,el,e1⟩:=Zz.mp e;obtain⟨⟨n,r⟩,Y,e2⟩:=Zz.mp e1;refine S ?_;refine⟨R,U,l,s,el,λM y D b P N=>?_⟩;have A:Args G R U H y l M D:=⟨b,P,N⟩
 have i:=N.join A.len;show KI G g (M++[]) y Q E;rw[ZV];refine⟨trees l,D,n,r,P,Y,λv C F q o j=>?_⟩;have wide:(∀a∈F,y a=J\/a∈D.flatten)->Fp R U H ((Md.pu).join (cf l)) F:=λh=>by
  cases w:cf l with
  |fr =>
   rw[w]at i;exact λa d=>.inl ((h a d).elim b.free (i.2 a))
  |pu =>
   rw[w]at i;exact λa d=>(h a d).elim (λz=>.inl (b.free z)) (i a)
  |bo =>
   rw[w]at i;exact λa d=>(h a d).elim (λz=>.inl (b.free z)) (i a)
 cases n with
 |fr =>
  cases e2;exact u v C F (b.trans q) o ⟨j.1,λa d=>b.free (j.2 a d)⟩
 |pu =>
  cases e2;exact u v C F (b.trans q) o (wide j)
 |bo =>
  cases e2;exact u v C F (b.trans q) o (wide j)
def CJ{X:Cx}(F:FnOk X.prog X.w X.K X.mg X.base Jb k f fd ps (KI G g))(b:xh k X.A)(j:Gl X x)(d:X.mg x=Z (.ref f))(i:PySem.W.keepIn X.K (.ref f)=B)(l:Binds X.K fd ps [])(m:Jj G X (e :: es) cs)(n:{`q1,K3 x})(he:{`q2,K1 e es X})(a:{`q2,K2 pos es X}) :
  PV G X (.Call (.Name x p) (e :: es) [] pos) (bR g cs) :=
 PE.weak (Cw F b j d i l .nil lY m n he a) λO H Q h=>call_of h
def yX(r:RpL G H d a s)(n m:Nat)(w:m=d.length):SR G (λi=>s.getD i []) (a.map (λt=>Z (.pu t))++List.replicate (n-a.length) J) (d.map Z++List.replicate (n-m) J) H:=by
 subst w;have A:=r.len;have back:∀{i:Nat}{c:Cell},(a.map (λt=>Z (Cell.pu t))++List.replicate (n-a.length) J)[i]?=Z (Z c)->∃t,a[i]?=Z t/\c=.pu t:=λ{i c} h=>by
  by_cases o:i<a.length
  ·rw[Yw (by rw[Zu];exact o),ZL]at h;obtain⟨t,l,b⟩:=Zt.mp h;exact⟨t,l,(Zg b).symm⟩
  ·rw[Yy (by rw[Zu];exact ZJ o),Xr]at h;split at h<;>cases h
 refine⟨by simp;lia,λi c h=>?_,λi t h=>?_,λi j t c h=>?_⟩
 ·obtain⟨t,l,rfl⟩:=back h;obtain⟨v,F,q,z,y⟩:=r.get i l;refine⟨v,?_,?_⟩
  ·have:=(ZZ.mp q).1;rw[Yw (by rw[Zu];exact this),ZL,q];rfl
  ·rw[Zp,z];exact y
 ·obtain⟨u,_,b⟩:=back h;cases b
 ·obtain⟨u,_,b⟩:=back h;cases b
def iY{b:Ul}:¬bX R (b.map (λt=>Z (Cell.pu t))++List.replicate n J) a:=by
 rintro⟨i,t,h,_⟩;by_cases d:i<b.length
 ·rw[Yw (by rw[Zu];exact d),ZL]at h;obtain⟨l,_,j⟩:=Zt.mp h;cases j
 ·rw[Yy (by rw[Zu];exact ZJ d),Xr]at h;split at h<;>cases h
def si{H:Hp}{vs:List V}{j:Ul}{d:Xc}(h:dG (λi=>d.getD i []) (j.map (λt=>Z (Cell.pu t))++List.replicate n J) a):a∈d.flatten:=by
 obtain⟨i,t,_,b⟩:=h;simp only[Zp]at b;cases e:d[i]? with
 |none=>rw[e]at b;simp at b
 |some F=>rw[e]at b;exact cM e b
end
section
variable{K:Ww}
def DF{d:List Str}(g:d.length=e)(h:KI G (fn e f c) b H Q E):b.length=d.length:=by
 obtain⟨l,n,m,r,j,a,_⟩:=h;unfold fn at a;split at a
 ·rename_i i;rw[j.len.1,i,g]
 ·cases a
def EC{N:List Str}(s:N.length=f)(h:KI G (fn p f c) vs H Q E):tS G c { nx:=λ_ d=>Q .non d,rt:=Q } (L2.start N vs) H:=by
 obtain⟨D,F,m,r,x,g,q⟩:=h;unfold fn at g;split at g
 ·rename_i t;obtain⟨o,e1,e2⟩:=Zz.mp g;have j:=yX x f vs.length Y;rw[t]at j;have e3:L2.start N vs=vs.map Z++List.replicate (f-vs.length) J:=by
   unfold L2.start;rw[s]
  rw[e3];refine⟨_,_,o,j,e1,?_⟩;cases o with
  |nx i =>
   cases e2;intro y A d l fr;exact q .non d [] (λa o h=>(fr.keep a o h iY).1) .non ⟨Xy,λa h=>by simp at h⟩
  |rt v i =>
   cases e2;intro u d C y A l fr n e;refine q u d C (λa o h=>(fr.keep a o h iY).1) n ?_;cases m with
   |fr=>exact⟨e.1,λa b=>(e.2 a b).elim id λz=>absurd z iY⟩
   |pu=>exact λa b=>(e a b).elim .inl λz=>z.elim (λz=>.inr (si (H:=H) (vs:=vs) z)) λz=>absurd z iY
   |bo=>exact λa b=>(e a b).elim .inl λz=>z.elim (λz=>.inr (si (H:=H) (vs:=vs) z)) λz=>absurd z iY
  |bk i=>cases e2
  |ct i=>cases e2
 ·cases g
def T2(F:Ir K x a b f j)(S:p0 N e (ah b))(n:e.length=g)(o:N.length=i)(p:∀(d:On)(A:SB)(outer:List PySem.Env)(s:IR)(H:Hp)(E:XK),xh k (A.deeper (envOfC a (ah b) s.heap.objs.size f d))->jh G (jP Jb P w K mg base N a (ah b) f d A outer s H E).Lz (aY b) c) :
  FnOk P w K mg base Jb (k+1) f j e (KI G (fn g i c)) :=
 F.ok S (λl H Q E h=>DF n h) λd A outer s H l Q E m h=>⟨_,p d A outer s H E m,EC o h⟩
end
end VS
end
section
namespace L2
open PySem PySem.Spec PyProof.Rows
theorem lB(b:Env):∀(l:List (Str×NameKind))(acc:List (Str×KM)),(∀y∈l,y.2=.free->∃c,b.cells.lookup y.1=Z c)->(∀x c,acc.lookup x=Z c->b.cells.lookup x=Z c) →
  ∃cl,(forIn l acc (λx r=>if (x.snd==NameKind.free)=B then (do let a ← cellOf b x.fst;pure (ForInStep.yield ((x.fst,a) :: r))) else pure (ForInStep.yield r)):Sem (List (Str×KM)))=pure cl ∧
   (∀x c,cl.lookup x=Z c->b.cells.lookup x=Z c)/\(∀x c,acc.lookup x=Z c->∃f,cl.lookup x=Z f)/\∀y∈l,y.2=.free->∃c,cl.lookup y.1=Z c
 |[],acc,_,i=>⟨acc,rfl,i,λx c h=>⟨c,h⟩,λy d=>nomatch d⟩
 | (n,k) :: l,acc,o,i=>by
  by_cases m:k=.free
  ·refine L2.ai λw u=>?_;subst m;obtain⟨c,t⟩:=o (n,.free) Zy Y;have v:cellOf b n=pure c:=by unfold cellOf;rw[t]
   obtain⟨cl,s,q,e,p⟩:=lB b l ((n,c) :: acc) (λy d=>o y (Zw _ d)) (λx f h=>by
    rw[YV]at h;split at h
    ·rename_i g;have:x=n:=by simpa using g
     rw[this,← h];exact t
    ·exact i x f h)
   refine u ?_;refine⟨cl,?_,q,λx f h=>?_,λy d j=>?_⟩
   ·rw[List.forIn_cons];rw[Zr (show (NameKind.free==NameKind.free)=B from rfl),v,pure_bind,pure_bind];exact s
   ·by_cases g:x=n
    ·exact e x c (by rw[YV,g];simp)
    ·refine e x f ?_;rw[YV];have:(x==n)=L:=by simpa using g
     rw[this];exact h
   ·rcases Zh.mp d with rfl | d
    ·exact e n c (by rw[YV];simp)
    ·exact p y d j
  ·obtain⟨cl,s,q,e,p⟩:=lB b l acc (λy d=>o y (Zw _ d)) i;refine⟨cl,?_,q,e,λy d j=>?_⟩
   ·rw[List.forIn_cons];rw[Zq (by simpa using m),pure_bind];exact s
   ·rcases Zh.mp d with rfl | d
    ·exact absurd j m
    ·exact p y d j
def Cv{b:Scope}{a:Env}(d:∀y∈b.names,y.2=.free->∃c,a.cells.lookup y.1=Z c) :
  ∃cl,closureFor b a=pure cl/\(∀x c,cl.lookup x=Z c->a.cells.lookup x=Z c)/\∀y∈b.names,y.2=.free->∃c,cl.lookup y.1=Z c:=by
 obtain⟨cl,g,f,_,e⟩:=lB a b.names [] d (λx c h=>nomatch h);refine⟨cl,?_,f,e⟩;simp only[closureFor];rw[g];rfl
def fZ{l:List (Str×NameKind)}(h:l.lookup x=Z k):(x,k)∈l:=by
 induction l with
 |nil=>cases h
 |cons p l a =>
  rw[YV]at h;split at h
  ·rename_i b;have e:x=p.1:=by simpa using b
   cases h;rw[e];exact Zy
  ·exact Zw _ (a h)
theorem cX{a:Env}:∀{l:List (Str×NameKind)},(l.map λ(n,k)=>if (k==NameKind.free&&a.scope.kind == .function&&a.kindOf n==Z .cell) then (n,NameKind.cell) else (n,k)).lookup x=Z k →
  ∃e,l.lookup x=Z e/\(k=e\/(e=.free/\k=.cell))
 |[],h=>nomatch h
 | (n,d) :: l,h=>by
  rw[Zo,YV]at h;by_cases f:(d==NameKind.free&&a.scope.kind == .function&&a.kindOf n==Z .cell)=B
  ·simp only[f,if_true]at h;rw[YV];cases b:x==n with
   |true =>
    rw[b]at h;have:d=.free:=by
     have:=(ZS.mp (ZS.mp f).1).1;simpa using this
    exact⟨d,rfl,.inr ⟨this,(Zg h).symm⟩⟩
   |false=>rw[b]at h;exact cX h
  ·simp only[f,if_false,Y8]at h;rw[YV];cases b:x==n with
   |true=>rw[b]at h;exact⟨d,rfl,.inl (Zg h).symm⟩
   |false=>rw[b]at h;exact cX h
def bS(X:Cx)(N:List Str)(a:Scope)(d:List (Str×KM))(C:KM)(s:IR)(H:Hp)(b:W6):Cx :=
 { X with N:=N,s₀:=s,H₀:=H,env:=compEnvC a d C X.env,outer:=X.stack,ex:=b,fn:=λ_=>false,pn:=[],xe:=λ_ _=>False }
def oM(a:Env)(b:Scope):Bool:=b.kind == .function&&b.names.all λy=>match y.2 with
 |.cell=>L
 |.local=>b.names.lookup y.1==Z .local
 |.free=>a.kindOf y.1==Z .cell||a.kindOf y.1==Z .free
 |_=>B
noncomputable def oJ(d:Scope):List Str->List Str->Bool
 |[],[]=>B
 |a :: e,b :: bs=>((a==b&&d.names.lookup a==Z .free)||d.names.lookup a==J||d.names.lookup a==Z .globalImplicit)&&oJ d e bs
 |_,_=>L
theorem vI:∀{f bs:List Str},oJ d f bs=B->f.length=bs.length/\∀(i:Nat)(x:Str),f[i]?=Z x->(bs[i]?=Z x/\d.names.lookup x=Z .free)\/d.names.lookup x=J\/d.names.lookup x=Z .globalImplicit
 |[],[],_=>⟨rfl,λi x h=>by simp at h⟩
 |a :: f,b :: bs,h=>by
  obtain⟨g,n⟩:=ZS.mp (h);obtain⟨l,r⟩:=vI n;refine⟨by simp[l],λi x e=>?_⟩;cases i with
  |zero =>
   have:a=x:=by simpa using e
   subst this;simp only[Bool.or_eq_true,YI]at g;rcases g with (⟨m,j⟩ | z) | z
   ·exact .inl ⟨by simpa using(by simpa using m:a=b).symm,by simpa using j⟩
   ·exact .inr (.inl (by simpa using z))
   ·exact .inr (.inr (by simpa using z))
  |succ i=>simpa using r i x (by simpa using e)
 |[],_ :: _,h=>nomatch h
 |_ :: _,[],h=>nomatch h
section
variable{H:Hp}
def Inv.block{N:List Str}{U:List (Str×KM)}{k:Nat}{A:UV}{t:Nat}(I:Inv X pins O H s)(KL:oM X.env g=B)(LI:oJ g (N.drop k) X.N=B)(LM:k<=N.length)(j:∀x c,U.lookup x=Z c->X.env.cells.lookup x=Z c)(R6:∀y∈g.names,y.2=.free->∃c,U.lookup y.1=Z c)(F:∀b∈S,jO X pins H b)(w:s.heap.objs.size<=D)(hC:s.heap.objs.size<=C)(R9:D≠C)(R0:C∉S)(a:∀b u,s.heap.get? b=Z u->A.get? b=Z u)(RW:A.Ns C m)(R:A.get? D=Z { cls:=.type "list",data:=.seq ([]:W7).toArray 0 }) :
  Inv (bS X N g U C s H S) [] (List.replicate k J++O) (upd H D (.lst [])) { s with heap:=A,toks:=t }:=by
 unfold oM at KL;rw[YI,Z6]at KL;obtain⟨hk,Jn⟩:=KL;have L8:g.kind=.function:=by simpa using hk
 obtain⟨hlen,ML⟩:=vI LI;have Mb:∀y∈g.names,y.2 ≠ .cell:=λy hy e=>by have:=Jn y hy;rw[e]at this;cases this
 refine⟨⟨I.mod,L8,I.ok.glob,I.ok.blt,hC,λx y c e1 e2=>I.ok.inj x y c (j x c e1) (j y c e2),λx hx=>?_,λx c e=>(nomatch e),I.ok.hd,I.ok.frames,.inl Y,λb hb=>⟨λ(e:b=C)=>R0 (e ▸ hb),λx c e=>(F b hb).2.2.2.2.1 x c (j x c e)⟩,
  I.tb,I.bs,ZU I.ok.Nt I.sz,λb o e hb=>?_,λb hb JE=>?_,I.stack,I.LY⟩,rfl,I.bare,Un.laid a w (I.xt.fresh w),⟨m,RW,λi x v e1 e2 e3=>?_⟩,λx c e=>?_,?_,λx c e=>?_,λp hp=>(nomatch hp),I.xt.laid a w ?_,?_⟩
 ·have h:∃f,(relabel g X.env).names.lookup x=Z f/\(f=.cell\/f=.free):=by
   rcases hx with e | e
   ·exact⟨_,e,.inl Y⟩
   ·exact⟨_,e,.inr Y⟩
  obtain⟨f,E,Mu⟩:=h;exact R6 _ (fZ ((λx f h Mr=>by
  obtain⟨M,d,Q⟩:=cX h;rcases Q with e | ⟨e,_⟩
  ·subst e;rcases Mr with e | e
   ·subst e;exact absurd Y (Mb _ (fZ d))
   ·subst e;exact d
  ·subst e;exact d) x f E Mu)) Y
 ·rcases (F b hb).2.2.2.1 with z | z
  ·exact I.ok.MY b o e z
  ·exact absurd (Zi (ZI e) (ZU I.ok.Nt z)) (YK _)
 ·rcases Zh.mp (I.J4 b JE) with z | z
  ·exact(F b hb).2.1 z
  ·exact(F b hb).2.2.1 z
 ·
  have Og:k<=i:=by
   rcases Vt i k with z | z
   ·rw[Yw (by simpa using z),Xr]at e2;split at e2<;>cases e2
   ·exact z
  rw[Yy (by simpa using Og),X0]at e2;have G:g.names.lookup x=Z .free->∃f,(relabel g X.env).names.lookup x=Z f/\(f=.cell\/f=.free):=λd=>by
   rcases e3 with z | z | z
   ·obtain⟨M,E,Mu⟩:=cX z;rw[d]at E;cases E;rcases Mu with q | ⟨_,q⟩<;>cases q
   ·exact⟨_,z,.inl Y⟩
   ·exact⟨_,z,.inr Y⟩
  rcases ML _ x (by
   rw[List.getElem?_drop,show k+(i-k)=i by exact V0 Og];exact e1) with⟨hX,d⟩ | d | d
  ·obtain⟨f,L9,KP⟩:=G d;have OS:X.env.kindOf x=Z .cell\/X.env.kindOf x=Z .free:=by
    simpa using(Jn _ (fZ d))
   obtain⟨mX,hnX,P⟩:=I.loc;obtain⟨u,r,l⟩:=P _ x v hX e2 (OS.elim (λz=>.inr (.inl z)) λz=>.inr (.inr z));refine⟨u,r,.inr ⟨?_,?_⟩⟩
   ·rcases KP with z | z
    ·subst z;exact .inl L9
    ·subst z;exact .inr L9
   ·obtain⟨c,hc⟩:=R6 _ (fZ d) Y;refine⟨c,hc,?_⟩;rcases l with⟨z,_⟩ | ⟨_,c',JR,OU⟩
    ·rcases OS with q | q<;>(rw[z]at q;cases q)
    ·have:=j x c hc;rw[JR]at this;cases this;exact OU.keeps a
  ·rcases e3 with z | z | z<;>(obtain⟨M,n,_⟩:=cX z;rw[d]at n;cases n)
  ·rcases e3 with z | z | z<;>(obtain⟨M,n,z2⟩:=cX z;rw[d]at n;cases n;rcases z2 with q | ⟨q,_⟩<;>cases q)
 ·obtain⟨v,z⟩:=I.cell x c (j x c e);exact⟨v,z.keeps a⟩
 ·show upd H D (.lst []) C=J;rw[aw (YN R9)];exact(I.xt.fresh hC)
 ·obtain⟨v,z⟩:=I.cell x c (j x c e);rw[aw (ZR (Zi z.lt w))];exact I.Jt x c (j x c e)
 ·exact⟨ZE _,[],0,.nil,R⟩
 ·rw[Zv,X0,I.len,← hlen,Z4];exact V0 LM
def yn(X:Cx)(a:List Expr)(t:TT):Prop :=
 ∀(pins:Xi)(s:IR)(O:St)(H:Hp)(Q:Bool->Hp->Prop),Inv X pins O H s->t O H Q →
  PP (KB X.prog X.w) X.A (forIn a B λc r=>if r=B then (do let ok ← isTrue c X.env (eval c X.env);pure (ForInStep.yield ok)) else pure (ForInStep.yield r)) (TP X pins O Q) X.xe s
def nk:yn X [] (λO H Q=>Q B H):=λpins s O H Q I q=>Zm ⟨H,I,q⟩
def Ae(h:PT X c t):yn X [c] t:=λpins s O H Q I q=>by
 rw[List.forIn_cons,Zr Y];refine Zx (Zx (thn (h pins s O H Q I q) λb d a=>Zm ?_));exact Zm a
section
def rn{s:IR}(I:Nat->IR->Prop)(turn:∀n s,I n s->PP (KB prog w) A (pyNext q) (λr o=>match r with
   |none=>Rq (.ok .next) o
   |some v=>PP (KB prog w) A (letOwnedTupleGo a q v) (λ_ C=>PP (KB prog w) A (assign a d v) (λ_ z =>
     PP (KB prog w) A (forIn g B λc r=>if r=B then (do let ok ← isTrue c d (eval c d);pure (ForInStep.yield ok)) else pure (ForInStep.yield r)) (λok l =>
      if ok=B then PP (KB prog w) A (eval i d) (λx y =>
       PP (KB prog w) A (call (.builtin "list.append") [j,x]) (λ_ u=>∃m,m<n/\I m u) (λ_ _=>False) y) (λ_ _=>False) l
      else ∃m,m<n/\I m l) (λ_ _=>False) z) (λ_ _=>False) C) (λ_ _=>False) o) (λ_ _=>False) s)(n:Nat)(h:I n s) :
  codeAny (KB prog w) A (.compLoop (.ListComp i [⟨a,f,g,0⟩] e p) 0 q j d) Rq s:=by
 refine codeAny_loop Y I (λn s M=>?_) n h;refine wpAny_noted ?_;rw[compTurn_list];refine Zx (wpAny_standAt (Zx (YD (turn n s M) (λr o D=>?_) λ_ _ b=>b.elim)));cases r with
 |none=>exact Zm D
 |some v =>
  refine Zx (YD D (λ_ C h₀=>?_) λ_ _ b=>b.elim);refine Zx (YD h₀ (λ_ z G=>Zx (YD G (λok l t=>?_) λ_ _ b=>b.elim)) λ_ _ b=>b.elim);cases ok with
  |false=>exact Zm ⟨rfl,t⟩
  |true =>
   rw[Zr Y]at t;exact Zx (Zx (YD t (λx y F=>Zx (YD F (λ_ u E=>Zm (Zm ⟨rfl,E⟩)) λ_ _ b=>b.elim)) λ_ _ b=>b.elim))
end
def vc(k:Nat)(p:TI)(g:TG)(r:TT)(q:TE)(O:St)(H:Hp)(Q:VK):Prop:=p O H λJ o=>∀D,o D=none->∃W:Nat->Nat->St->Hp->Prop,
 (∃m,W 0 m (List.replicate k none++O) (upd o D (.lst [])))/\∀i m h d,W i m h d->(J.stop i d/\Q (.ref D) d)\/(J.go i d/\∀x n,J.Rw i d x n->g x h n λe t=>r e t λb l =>
  if b=B then q e l λy j=>∃f,j D=Z (.lst f)/\f.length<KF/\∃a,a<m/\W (i+1) a e (upd j D (.lst (f++[y]))) else ∃a,a<m/\W (i+1) a e l)
def oV{X:Cx}{N:List Str}(IL:X.calm=B)(hi:PI X tg a wi)(KL:oM X.env E=B)(LI:oJ E (N.drop k) X.N=B)(LM:k<=N.length)(KQ:∀cl C s H fp,PG (bS X N E cl C s H fp) tg g/\yn (bS X N E cl C s H fp) G tc/\PE (bS X N E cl C s H fp) R te)(hs:∀x,XAC a X.env x=pure x)(I:Inv X pins O H s)(h:vc k wi g tc te O H Q)(hq:∀s' f D C m,Inv X pins O f s'->Q (.ref D) f->s'.heap.Ns C m->jO X pins f C->compPost (KB X.prog X.w) X.A X.xe F QQ (.ref D) C (.ok .next) s') :
  PP (KB X.prog X.w) X.A (comprehension (.ListComp R [⟨tg,a,G,0⟩] E pos) E X.env pos' (newList []) L (eval a X.env) F) QQ X.xe s:=by
 have OO:=KL;unfold oM at OO;rw[YI,Z6]at OO;obtain⟨hk,Jn⟩:=OO;have L8:E.kind=.function:=by simpa using hk
 obtain⟨cl,hcl,Np,R6⟩:=Cv λy M e=>I.ok.has y.1 (by
  have:=Jn y M;rw[e]at this;simpa using this)
 refine wpAny_comprehension_free rfl hs hcl L8 (λy M e=>by
  have:=Jn y M;rw[e]at this;simpa using this) (thn (hi pins s O H _ I h) λv s1 h1=>thn h1 λTa j h2=>?_)
 refine L2.ai λP_ k_=>?_;obtain⟨it,fp,tn,J,H2,e,I2,T,JM,f2,hW⟩:=h2;subst e;refine k_ ?_;refine Vq (wpAny_newFunctionEnv (λy M e=>by have:=Jn y M;rw[e]at this;cases this) (by intro y M;simp at M) (λh₁ M6 LF=>?_) L8);generalize hP:j.heap.push { cls:=.type "list",dict:=none,data:=.seq ([]).toArray }=P at M6 LF ⊢;have TU:P.objs.size=j.heap.objs.size+1:=by rw[← hP,V5]
 have old:=λb o e =>
  LF.extBut b o (by rw[TU];exact ZR (Yl (ZI e))) (Za _ (hP ▸ Za _ e))
 have R9:j.heap.objs.size≠P.objs.size:=by rw[TU];exact ZR (Y0 _)
 have OY:j.heap.objs.size<=P.objs.size:=by rw[TU];exact Nat.le_succ _
 have Oa:=λb hb=>let ⟨o,ho,_⟩:=T.obj 0 _ JM b hb;ZI ho
 have R0:P.objs.size∉fp:=λhb=>absurd (Zi (Oa _ hb) OY) (YK _);have IY:=I2.block (N:=N) (k:=k) (t:=j.toks+([]:List (Str×On)).length) KL LI LM Np R6 f2 (Zn _) OY R9 R0 old M6 (LF.extBut _ _ R9 (Za _ (hP ▸ ZD _ rfl)));obtain⟨hG,hT,hE⟩:=KQ cl P.objs.size j H2 fp;generalize hY:bS X N E cl P.objs.size j H2 fp=Y at IY hG hT hE;have hYm:Y.prog=X.prog/\Y.w=X.w/\Y.K=X.K/\Y.A=X.A/\Y.env=compEnvC E cl P.objs.size X.env/\Y.calm=X.calm/\(Y.xe=λ_ _=>False):=by rw[← hY];exact⟨rfl,rfl,rfl,rfl,rfl,rfl,rfl⟩
 refine L2.ai λP_ k_=>?_;obtain⟨y1,U,y3,S,y5,y6,y7⟩:=hYm;have Lv:∀{f:Hp},(∀b∈fp,f b=none)->∀b∈fp,jO Y [] f b:=λ{f} hn b hb=>by
  rw[← hY];refine⟨hn b hb,λ(e:b=P.objs.size)=>R0 (e ▸ hb),λJE=>?_,.inl hb,λx c e=>(f2 b hb).2.2.2.2.1 x c (Np x c e),λp hp=>(nomatch hp)⟩;rcases Zh.mp (I2.J4 b JE) with z | z
  ·exact(f2 b hb).2.1 z
  ·exact(f2 b hb).2.2.1 z
 obtain⟨W,⟨m0,w0⟩,turn⟩:=hW j.heap.objs.size (I2.xt.fresh (Zn _));refine k_ ?_;have Lx:=T.keep _ _ _ JM λb _ o e=>old b o e;have loop:codeAny (KB X.prog X.w) X.A (.compLoop (.ListComp R [⟨tg,a,G,0⟩] E pos) 0 (.ref it) (.ref j.heap.objs.size) (compEnvC E cl P.objs.size X.env)) (compPost (KB X.prog X.w) X.A X.xe F QQ (.ref j.heap.objs.size) P.objs.size)
   { j with heap:=h₁,toks:=j.toks+([]:List (Str×On)).length }:=by
  refine rn (λn s'=>∃i O' f,Inv Y [] O' f s'/\tn i s'.heap/\(∀b∈fp,f b=none)/\W i n O' f) ?_ m0 ⟨0,_,_,IY,Lx,(λb hb=>by rw[aw (ZR (Oa b hb))];exact(f2 b hb).1),w0⟩;rintro n s3 ⟨i,O3,H3,I3,Lx,QW,w3⟩;rcases turn i n O3 H3 w3 with⟨stop,qn⟩ | ⟨go,step⟩
  ·have q:=T.done Y y1 U y3 (y6.trans IL) i [] s3 O3 H3 (λ_ _=>False) I3 (Lv QW) Lx stop;rw[S]at q;refine thn q λr s4 l=>?_;obtain⟨hr,I4⟩:=l;subst hr;obtain⟨mC,hmC,_⟩:=I4.loc;have f4:=I4.free;rw[y5]at hmC f4;exact hq s4 H3 _ P.objs.size mC (by
    have b4:=I4.base;have o4:=I4.os;have k4:=I4.xt;rw[← hY]at b4 o4 k4;refine I2.Ri (ch:=fp) o4 b4 k4 I4.bare λb hb=>?_;exact⟨(f2 b hb).2.2.2.1,(f2 b hb).2.1,(f2 b hb).2.2.2.2.1,(f2 b hb).2.2.2.2.2⟩) qn hmC (I2.Li OY f4)
  ·have q:=T.item Y y1 U y3 (y6.trans IL) i [] s3 O3 H3 (λ_ _=>False) I3 (Lv QW) Lx go;rw[S]at q;refine thn q λr s4 l=>?_;obtain⟨u,hr,h4⟩:=l;subst hr;refine thn h4 λ_ s5 l=>?_;obtain⟨x,H5,I5,r5,yl5,Oz,T1⟩:=l;have again:∀{O7:St}{H7:Hp}{s7:IR}{m:Nat},Inv Y ([]++mS fp s5.heap) O7 H7 s7->W (i+1) m O7 H7->∃i O' f,Inv Y [] O' f s7/\tn i s7.heap/\(∀b∈fp,f b=none)/\W i m O' f:=λ{O7 H7 s7 m} I7 w7=>by
    refine⟨i+1,O7,H7,I7.Jz,T.keep _ _ _ Oz λb hb o e=>(I7.pin (b,o) (ZQ _ (ZQ _ (iC hb e)))).1,λb hb=>?_,w7⟩;obtain⟨o,e,d⟩:=T.obj _ _ Oz b hb;exact(I7.pin (b,o) (ZQ _ (ZQ _ (iC hb e)))).2.1
   have qa:=hG _ s5 O3 H5 x u _ (I5.pinned (Lv T1) (T.obj _ _ Oz)) r5 (step x H5 yl5);rw[y1,U,S,y5,y7]at qa;refine thn qa λ_ s6 l=>?_;obtain⟨O6,H6,I6,q6⟩:=l;have qt:=hT _ s6 O6 H6 _ I6 q6;rw[y1,U,S,y5,y7]at qt;refine thn qt λb s7 l=>?_;obtain⟨H7,I7,q7⟩:=l;cases b with
   |false =>
    rw[Zq Zf]at q7 ⊢;obtain⟨m',hm,w7⟩:=q7;exact⟨m',hm,again I7 w7⟩
   |true =>
    rw[Zr rfl]at q7 ⊢;have qe:=hE _ s7 O6 H7 _ I7 q7;rw[y1,U,S,y5,y7]at qe;refine thn qe λyv s8 l=>?_;obtain⟨y,H8,I8,r8,ys,hD8,hl8,m',hm,w8⟩:=l;have qp:=fu (X:=Y) _ s8 O6 H8 (.ref j.heap.objs.size) [y] (.ref j.heap.objs.size) [yv] (λ_ H9=>W (i+1) m' O6 H9) I8 rfl (.cons r8 .nil) ⟨_,ys,y,rfl,rfl,hD8,hl8,w8⟩;rw[y1,U,S,y7]at qp;refine thn qp λ_ s9 l=>?_;obtain⟨_,H9,I9,_,w9⟩:=l;exact⟨m',hm,again I9 w9⟩
 exact codeAny_compStart_list loop (T.self _ 0 _ _ _ Lx loop)
def uP{X:Cx}{N:List Str}(G:X.calm=B)(w:PI X l a p)(E:oM X.env d=B)(z:oJ d (N.drop k) X.N=B)(y:k<=N.length)(A:∀cl C s H fp,PG (bS X N d cl C s H fp) l g/\yn (bS X N d cl C s H fp) i t/\PE (bS X N d cl C s H fp) j r)(u:{`q3,∀x,XAC a X.env x=pure x}):PE X (.ListComp j [⟨l,a,i,0⟩] d n) (vc k p g t r):=by
 intro pins s O H Q I h;rw[eval_ListComp];refine oV G w E z y A u I h λR P D C m M q v f=>⟨m,v,λS F=>?_⟩
 exact⟨.ref D,P,M.turned (λb o hb e=>F.extBut b o hb e) f.1 f.2.1 f.2.2.2.1 f.2.2.2.2.1 f.2.2.2.2.2,rfl,q⟩
def om{X:Cx}{E:Pos}{N:List Str}{k:Nat}(hN:X.N.Nodup)(Tt:X.N[i]?=Z x)(G:Loc X.env.scope x)(IL:X.calm=B)(R:PI X t d w)(KL:oM X.env l=B)(LI:oJ l (N.drop k) X.N=B)(LM:k<=N.length)(KQ:∀cl C s H fp,PG (bS X N l cl C s H fp) t g/\yn (bS X N l cl C s H fp) n A/\PE (bS X N l cl C s H fp) p y)(JW:swapsWith (.ListComp p [⟨t,d,n,0⟩] l r) (Z (.Name x j)) E.line X.env=pure B)(S:X.fn x=B\/X.env.scope.names.lookup x=Z .local)(M:{`q3,∀x,XAC d X.env x=pure x}) :
  PS X (.Assign [.Name x j] (.ListComp p [⟨t,d,n,0⟩] l r) E) (λD O H=>vc k w g A y O H λv H1=>D.nx (O.set i (Z v)) H1):=by
 intro pins s O H D I h;rw[exec_Assign_Name_used _ _ _ _ JW];refine Zx (wpAny_standAt (Zx ?_));refine Zx (YD (oV IL R KL LI LM KQ M I h λF H' D' C m I' q Q f=>?_) (λ_ F P=>Zm (Zm P)) λ_ _ e=>e);refine wpAny_assign_Name (pG I' hN Tt G (v:=.ref D') Y (λs2 I2 h_=>?_) S);obtain⟨a,u,U⟩:=h_;refine⟨m,Q.sameBut u (λe=>by
  rcases U with z | z
  ·exact f.2.1 (e.trans z)
  ·exact f.2.2.2.2.1 x a z e.symm),λh' Jx=>⟨_,H',?_,q⟩⟩
 exact I2.turned (λb o hb e=>Jx.extBut b o hb e) f.1 f.2.1 f.2.2.2.1 f.2.2.2.2.1 f.2.2.2.2.2
end
end L2
end
section
namespace VS
open PySem PySem.Spec PyProof.Rows L2
noncomputable def xX(k:Nat)(g:Tg):Prop:=∀t U a,g t U=Z a->a.length=U.length/\∀i,k<=i->a[i]?=U[i]?
def jz(h:{`q1,i<k}):xX k (bK i):=λt U b e=>by
 unfold bK at e;split at e
 ·cases e;exact⟨by simp,λj a=>by rw[XX (by lia)]⟩
 ·cases e
theorem vq:∀(l:Ul){i:Nat}{t:T},fU l=B->l[i]?=Z t->Iw t=B
 |[],_,_,_,h=>by simp at h
 |x :: l,0,t,h,e=>by
  simp at e;rw[← e];exact(ZS.mp h).1
 |x :: l,i+1,t,h,e=>by
  exact vq l (ZS.mp h).2 (by simpa using e)
def tC(G:Gx):Option Ex->TT
 |none=>λO H Q=>Q B H
 |some c=>tT G c
section
variable{H:Hp}
def kI:(List.replicate k J++U)[i]?=Z (Z c)↔k<=i/\U[i-k]?=Z (Z c):=by
 rcases Vt i k with h | h
 ·rw[Yw (by simpa using h),Xr];constructor
  ·intro e;split at e<;>cases e
  ·intro ⟨e,_⟩;lia
 ·rw[Yy (by simpa using h),X0];exact⟨λe=>⟨h,e⟩,λe=>e.2⟩
def Ak:bX (λi=>R (i-k)) (List.replicate k J++U) a↔bX R U a:=by
 constructor
 ·rintro⟨j,t,d,b⟩;exact⟨j-k,t,(kI.mp d).2,b⟩
 ·rintro⟨j,t,d,b⟩;refine⟨j+k,t,kI.mpr ⟨YB _ _,by rw[Wo];exact d⟩,?_⟩;show a∈R (j+k-k);rw[Wo];exact b
def yU:dG (λi=>R (i-k)) (List.replicate k J++U) a↔dG R U a:=by
 constructor
 ·rintro⟨j,t,d,b⟩;exact⟨j-k,t,(kI.mp d).2,b⟩
 ·rintro⟨j,t,d,b⟩;refine⟨j+k,t,kI.mpr ⟨YB _ _,by rw[Wo];exact d⟩,?_⟩;show a∈R (j+k-k);rw[Wo];exact b
def SR.sh(s:SR G R U O H):SR G (λi=>R (i-k)) (List.replicate k J++U) (List.replicate k J++O) H:=by
 refine⟨by simp[s.len],λi c h=>?_,λi t h=>?_,λi j t c b a n=>?_⟩
 ·obtain⟨b,a⟩:=kI.mp h;obtain⟨v,e,d⟩:=s.rp _ c a;refine⟨v,?_,d⟩;rw[Yy (by simpa using b),X0];exact e
 ·exact s.nd _ t (kI.mp h).2
 ·obtain⟨m,g⟩:=kI.mp b;obtain⟨l,f⟩:=kI.mp a;exact s.sep _ _ t c g f (by lia)
def SR.less{U:VS.Env}(s:SR G R a O H)(b:U.length=a.length)(h:∀(i:Nat) c,U[i]?=Z (Z c)->a[i]?=Z (Z c)):SR G R U O H :=
 ⟨b.trans s.len,λi c e=>s.rp i c (h i c e),λi t e=>s.nd i t (h i _ e),λi j t c e1 e2 n=>s.sep i j t c (h i _ e1) (h j _ e2) n⟩
def SR.off(s:SR G R U O H)(m:Il (H D)\/H D=J)(d:¬dG R U D)(a:¬bX R U D):SR G R U O (upd H D o):=by
 refine⟨s.len,λi c e=>?_,s.nd,s.sep⟩;obtain⟨v,h,g⟩:=s.rp i c e;refine⟨v,h,g.keep (Kept.upd m) λb hb j f=>?_⟩;rw[aw λz=>?_]
 ·exact f
 ·subst z;cases c with
  |pu t=>exact d ⟨i,t,e,hb⟩
  |ow t=>exact a ⟨i,t,e,hb⟩
theorem oB:∀(l:Uo)(v:Val),cf (l++[v])=(cf l).join v.1
 |[],(m,t)=>by cases m<;>rfl
 | (m,t) :: l,v=>by
  show m.join (cf (l++[v]))=(m.join (cf l)).join v.1;rw[oB l v];generalize cf l=q;generalize v.1=r;cases m<;>cases q<;>cases r<;>rfl
def Fp.QB(f:Fp R U H m F)(g:Fp R U H n j)(d:n=.fr->∀a∈F,a∉j):Fp R U H (m.join n) (F++j):=by
 have both:∀{P:KM->Prop},(∀a∈F,P a)->(∀a∈j,P a)->∀a∈F++j,P a:=λp q a h=>(Zj.mp h).elim (p a) (q a);cases m<;>cases n
 ·exact⟨ZC.mpr ⟨f.1,g.1,λa i b hb e=>d Y a i (e ▸ hb)⟩,both f.2 g.2⟩
 ·exact both (λa i=>.inl (f.2 a i)) g
 ·exact both (λa i=>.inl (f.2 a i)) g
 ·exact both f λa i=>.inl (g.2 a i)
 ·exact both f g
 ·exact both (λa i=>(f a i).imp id .inl) g
 ·exact both f λa i=>.inl (g.2 a i)
 ·exact both f λa i=>(g a i).imp id .inl
 ·exact both f g
def Fp.Rg(f:Fp R U H m F)(h:H D=J)(d:D∉F):Fp R U H m (D :: F):=by
 have all:∀{P:KM->Prop},P D->(∀a∈F,P a)->∀a∈D :: F,P a:=λp q a b=>(Zh.mp b).elim (λe=>e ▸ p) (q a);cases m
 ·exact⟨Zc.mpr ⟨d,f.1⟩,all h f.2⟩
 ·exact all (.inl h) f
 ·exact all (.inl h) f
end
section
def CI(G:Gx)(R:Iq)(U b:VS.Env)(H p:Hp)(D:KM)(l:Ul)(h:Uo)(q:Tg)(d:Option Ex)(r:Ex)(i n:Nat)(s:L2.St)(f:Hp):Prop:=n=l.length-i/\∃e g j m rest,SR G e b s f/\(∀a,bX e b a->bX R U a)/\(∀a,dG e b a->H a=J\/dG R U a)/\¬dG e b D/\¬bX e b D/\Kept p f ∧
     (∀a o,a≠D->p a=Z o->f a=Z o)/\f D=Z (.lst m)/\RpL G f m (trees g) j/\D∉j.flatten/\Fp R U H (cf g) j.flatten/\jH q d r b (l.drop i)=Z rest/\g++rest=h
def pI{G:Gx}{k:Nat}{tg:Tg}{ci:Ju}{cond:Option Ex}{ce:Ex}{O:L2.St}{H:Hp}{Q:VK}(KQ:xX k tg)(h:tE G (eQ k tg ci cond ce) O H Q):vc k (tI G ci) (tG G tg) (tC G cond) (tE G ce) O H Q:=by
 refine L2.ai λP_ A=>?_;obtain⟨R,U,m,r,s,e,kq⟩:=h;obtain⟨⟨mi,l⟩,el,e1⟩:=Zz.mp e;dsimp only at e1;split at e1
 ·rename_i xt;obtain⟨all,ea,e2⟩:=Zz.mp e1;unfold Lm at e2;split at e2
  ·rename_i hlen;cases e2;refine A ?_;refine⟨R,U,mi,l,s,el,λJ H1 C e3 ok fc D hD=>?_⟩;have OX:=e3.free hD;let M:VS.Env:=List.replicate k none++U
   have good:∀{t:T}{i:Nat}{p H2:Hp}{v:V}{F:W6},l[i]?=Z t->Rp G H2 v t F->(∀a,H1 a≠none->p a≠none)->(∀a∈F,a∈C\/p a=none)->∀a∈F,(H a=none\/dG R U a)/\¬bX R U a:=λ{t i p H2 v F} hi rF keep hF a d=>by
    have Iu:∀{b},H b≠none->p b≠none:=λ{b} hb=>keep b λz=>hb (e3.free z);rcases hF a d with z | z
    ·rcases fc a z with q | q | ⟨q,w⟩
     ·exact⟨.inl q,λw=>Il.xa (s.JN w) q⟩
     ·exact⟨.inr q,λw=>s.MW w q⟩
     ·subst q;have:Iw t=B:=by
       exact vq l xt hi
      rw[rF.Iw this]at d;simp at d
    ·have hz:=Classical.byContradiction λq=>Iu q z;exact⟨.inl hz,λw=>Il.xa (s.JN w) hz⟩
   refine⟨CI G R U M H H1 D l all tg cond ce,?_,?_⟩
   ·refine⟨l.length-0,rfl,λi=>R (i-k),[],[],[],all,?_,λa h=>Ak.mp h,λa h=>.inr (yU.mp h),λh=>?_,λh=>?_,Kept.upd (.inr hD),λa o n h=>by rw[aw n];exact h,ar,.nil,by simp,Fp.nil,by rw[Wf];exact ea,rfl⟩
    ·exact((s.same e3).sh).off (.inr hD) (λh=>Il.xa (s.MV (yU.mp h)) OX) λh=>Il.xa (s.JN (Ak.mp h)) OX
    ·exact Il.xa (s.MV (yU.mp h)) OX
    ·exact Il.xa (s.JN (Ak.mp h)) OX
   ·intro i n O' p hh_;refine L2.ai λP_ A=>?_;obtain⟨rfl,R1,X,Fs,xs,rest,s1,ow1,pu1,np1,no1,kp,old,Px,rp,nD,fp,er,ev⟩:=hh_;refine A ?_;have L6:∀a,H1 a≠none->p a≠none:=λa d z=>by
     by_cases q:a=D
     ·subst q;rw[Px]at z;cases z
     ·cases e:H1 a with
      |none=>exact d e
      |some o=>rw[old a o q e]at z;cases z
    refine L2.ai λP_ A=>?_;obtain⟨go,stop⟩:=ok.run p kp λa d o ho=>old a o (λz=>ok.Iu a d (z ▸ hD)) ho;cases hit:l[i]? with
    |none =>
     have hl:=Yi.mp hit;refine A ?_;left;refine⟨stop i hl,?_⟩;rw[XE hl]at er;cases (er);rw[ZV]at ev;subst ev;refine kq (.ref D) p (D :: Fs.flatten) (λa o h=>old a o (λz=>by rw[z,OX]at h;cases h) (e3 a o h)) (.lst Px rp) ?_;by_cases hi:fU (trees X)=B
     ·rw[Zr hi,rp.Iw hi];exact⟨by simp,λa d=>by rw[Zl.mp d];exact OX⟩
     ·rw[Zq hi];exact fp.Rg OX nD
    |some t =>
     have hl:=(ZZ.mp hit).1;obtain⟨g1,y1⟩:=go i t hit;refine A ?_;right;refine⟨g1,λx H2 yl=>?_⟩;refine L2.ai λP_ A=>?_;obtain⟨g,F,rF,hF⟩:=y1 x H2 yl;rw[pj (tgt:=tg) (body:=eX) (U:=U) hit]at er;rw[jH]at er;obtain⟨U3,e4,e5⟩:=Zz.mp er;obtain⟨b,eb,e6⟩:=Zz.mp e5;have gd:=good hit rF L6 hF;refine A ?_;refine⟨R1,M,t,F,U3,(s1.same g),rF,λa d z=>(gd a d).2 (ow1 a z),e4,λN O3 s3 o3 p3=>?_⟩;obtain⟨tl,P5⟩:=KQ t M U3 e4;have low:∀j c,M[j]?=Z (Z c)->U3[j]?=Z (Z c):=λj c h=>by rw[P5 j (kI.mp h).1];exact h
     have RH:=λa h=>(p3 a h).elim (pu1 a) λh=>(gd a h).1;have SD:=λa h=>ow1 a (o3 a h);have Qq:=λh=>(p3 D h).elim np1 (λh=>by
      rcases hF D h with z | z
      ·exact ok.Iu D z hD
      ·rw[Px]at z;cases z)
     have RO:=λh=>no1 (o3 D h);have RG:∀a,dG N M a->dG N U3 a:=λa ⟨j,u,h1,h2⟩=>⟨j,u,low j _ h1,h2⟩
     have RJ:∀a,bX N M a->bX N U3 a:=λa ⟨j,u,h1,h2⟩=>⟨j,u,low j _ h1,h2⟩
     have N3:∀S,aI H2 S->(if b=B then tE G ce O3 S λy P=>∃ys,P D=Z (.lst ys)/\ys.length<KF/\∃m',m'<l.length-i/\CI G R U M H H1 D l all tg cond ce (i+1) m' O3 (upd P D (.lst (ys++[y]))) else ∃m',m'<l.length-i/\CI G R U M H H1 D l all tg cond ce (i+1) m' O3 S):=λS f=>by
      have eo:∀{P},aI S P->∀a o,p a=Z o->P a=Z o:=λ{P} PF a o h=>PF a o (f a o (g a o h));cases b with
      |false =>
       rw[Zq Zf]at e6 ⊢;have same:=eo (aI.refl S);exact⟨_,by lia,rfl,N,X,Fs,xs,rest,(s3.same f).less (by rw[tl]) low,λa h=>SD a (RJ a h),λa h=>RH a (RG a h),λh=>Qq (RG D h),λh=>RO (RJ D h),kp.trans ((Kept.of g).trans (Kept.of f)),λa o n h=>same a o (old a o n h),same D _ Px,rp.same (aI.trans g f),nD,fp,e6,ev⟩
      |true =>
       rw[Zr Y]at e6 ⊢;obtain⟨⟨mv,tv⟩,ece,e7⟩:=Zz.mp e6;obtain⟨Qm,er1,e7'⟩:=Zt.mp e7;refine⟨N,U3,mv,tv,s3.same f,ece,λy P Fy PF ry E=>?_⟩;have same:=eo PF;have hD5:=same D _ Px;have RT:Il (P D):=by rw[hD5];exact True.intro
       have TR:=f D _ (g D _ Px);have MX:=λa h=>Classical.byContradiction λq=>L6 a (λz=>q (e3.free z)) (g.free (f.free h));have DFy:=λh=>by
        cases mv with
        |fr=>have:=E.2 D h;rw[TR]at this;cases this
        |pu=>exact(E D h).elim (λz=>by rw[TR]at z;cases z) Qq
        |bo=>exact(E D h).elim (λz=>by rw[TR]at z;cases z) λz=>z.elim Qq RO
       have lenx:xs.length=X.length:=by rw[rp.len.1];simp
       have lenv:X.length<all.length:=by rw[← ev,← e7'];simp
       refine⟨xs,hD5,?_,_,by lia,rfl,N,X++[(mv,tv)],Fs++[Fy],xs++[y],Qm,(((s3.same f).same PF).off (.inl RT) Qq RO).less (by rw[tl]) low,λa h=>SD a (RJ a h),λa h=>RH a (RG a h),λh=>Qq (RG D h),λh=>RO (RJ D h),?_,λa o n h=>?_,ar,?_,?_,?_,er1,?_⟩
       ·have hlen':all.length<=d4:=by simpa using hlen
        have:KF=d4:=rfl;lia
       ·exact(kp.trans ((Kept.of g).trans ((Kept.of f).trans (Kept.of PF)))).trans (Kept.upd (.inl RT))
       ·rw[aw n];exact same a o (old a o n h)
       ·have:trees (X++[(mv,tv)])=trees X++[tv]:=by simp
        rw[this];exact((rp.same ((g.trans f).trans PF)).off RT nD).append (.cons (ry.keep (Kept.upd (.inl RT)) λb hb o ho=>by rw[aw (λz=>DFy (by rw[← z];exact hb))];exact ho) .nil)
       ·rw[Yt];intro h;rcases Zj.mp h with z | z
        ·exact nD z
        ·exact DFy (by simpa using z)
       ·rw[Yt,oB];have:([Fy]).flatten=Fy:=by simp
        rw[this];refine fp.QB (by
        cases mv with
        |fr=>exact⟨E.1,λa d=>MX a (E.2 a d)⟩
        |pu=>exact λa d=>(E a d).elim (λz=>.inl (MX a z)) (RH a)
        |bo=>exact λa d=>(E a d).elim (λz=>.inl (MX a z)) λz=>z.elim (λz=>(RH a z).imp id .inl) λz=>.inr (.inr (SD a z))) λhm a d hb=>?_
        subst hm;have:=(rp.same (g.trans f)).Iu a d;rw[(E.2 a hb)]at this;exact this
       ·rw[Ze,← ev,← e7'];rfl
     cases cond with
     |none =>
      cases (eb);exact N3 H2 (aI.refl H2)
     |some c =>
      obtain⟨⟨mc,xc⟩,ec1,O5⟩:=Zz.mp eb;exact⟨N,U3,mc,xc,b,s3,ec1,O5,λS f=>N3 S f⟩
  ·cases e2
 ·cases e1
end
section
def mH{X:Cx}(k:Nat)(N:List Str)(m:X.calm=B)(b:PVI G X tg iter ci)(j:xX k g)(d:∀cl C s H fp,Pg G (bS X N sc cl C s H fp) tg g)(he:∀cl C s H fp,PV G (bS X N sc cl C s H fp) elt ce)(l:{`q2,oM X.env sc=B})(f:{`q2,oJ sc (N.drop k) X.N=B})(e:{`q1,k<=N.length})(a:{`q3,∀x,XAC iter X.env x=pure x}) :
  PV G X (.ListComp elt [⟨tg,iter,[],0⟩] sc pos) (eQ k g ci J ce) :=
 PE.weak (uP m b l f e (λcl C s H fp=>⟨d cl C s H fp,nk,he cl C s H fp⟩) a) λO H Q h=>pI j h
def BZ(h:tS G (aT i a) D O H):tE G a O H λv r=>D.nx (O.set i (Z v)) r:=by
 refine L2.ai λw j=>?_;obtain⟨R,U,o,s,e,k⟩:=h;obtain⟨⟨m,t⟩,q,e1⟩:=Zz.mp e;refine j ?_;split at e1
 ·cases e1
 ·rename_i l;split at e1
  ·rename_i n;cases e1;refine⟨R,U,m,t,s,q,λv u F e3 b p=>?_⟩;obtain⟨f,d⟩:=s.val n e3 b p (.inl ⟨rfl,l⟩);exact k _ _ u f d
  ·cases e1
def ug{X:Cx}{Ks:Pos}(k:Nat)(N:List Str)(m:∀D O H,tS G a D O H->tE G (eQ k g ci (Z cc) ce) O H λv y=>D.nx (O.set i (Z v)) y)(w:X.calm=B)(e:PVI G X tg iter ci)(r:xX k g)(f:∀cl C s H fp,Pg G (bS X N sc cl C s H fp) tg g)(l:∀cl C s H fp,Lk G (bS X N sc cl C s H fp) c cc)(he:∀cl C s H fp,PV G (bS X N sc cl C s H fp) elt ce)(n:X.N.Nodup)(o:{`q2,X.N[i]?=Z x})(b:{`q6,Loc X.env.scope x})(t:{`q2,oM X.env sc=B})(q:{`q2,oJ sc (N.drop k) X.N=B})(p:{`q1,k<=N.length})(u:{`q2,swapsWith (.ListComp elt [⟨tg,iter,[c],0⟩] sc pos) (Z (.Name x pos')) Ks.line X.env=pure B})(j:{`q7,X.fn x=B\/X.env.scope.names.lookup x=Z .local})(d:{`q3,∀x,XAC iter X.env x=pure x}) :
  PSV G X (.Assign [.Name x pos'] (.ListComp elt [⟨tg,iter,[c],0⟩] sc pos) Ks) a :=
 PS.weak (om n o b w e t q p (λcl C s H fp=>⟨f cl C s H fp,Ae (l cl C s H fp),he cl C s H fp⟩) u j d) λD O H h=>pI r (m D O H h)
end
end VS
end
section
namespace L2
open PySem PySem.Spec PyProof.Rows
def UY(K:Ww)(a:KM):It :=
 ⟨λi H=>∃b x,Iv K H a b/\b[i]?=Z x,λi H v d=>∃p x,H p=J/\v=.ref p/\d=upd H p (.tup [.int i,x])/\∀b,Iv K H a b->b[i]?=Z x,λi H=>∃b,Iv K H a b/\b.length<=i⟩
def vT{K:Ww}(a e f:KM)(Ke:e≠f):Turn P w K (.Tuple M n S) (UY K a) [e,f] e (λi h=>(∃old,IsEnum h e f i old)/\h.IsListIter f a i) where
 mem:=by simp
 obj:=λi h st b hb=>by
  obtain⟨⟨old,he⟩,o,ho,c,d⟩:=st;rcases Zh.mp hb with rfl | hb
  ·exact⟨_,he,λv z=>by cases (z)⟩
  ·rw[Zl.mp hb];exact⟨o,ho,λv z=>by rw[d]at z;cases z⟩
 keep:=λi h h' st k=>⟨let ⟨old,he⟩:=st.1;⟨old,k e (by simp) _ he⟩,st.2.at λo x=>k f (by simp) o x⟩
 item:=by
  intro X hP hw hK hc i g s O H E I l st hg;refine L2.ai λP_ k_=>?_;subst hP hw hK;obtain⟨xs,x,Q,U⟩:=hg;obtain⟨xb,R,p,hz⟩:=I.list Q;obtain⟨u,hu,ru⟩:=R.get U;obtain⟨⟨old,he⟩,hit⟩:=st;refine k_ ?_;refine wpAny_pyNext_enum_item he hit p.isList (x:=u) (by simpa using hu) Ke λh1 ho Tr hT hsz hk=>⟨_,rfl,?_⟩
  refine wpAny_letOwnedTupleGo_enum ho λh2 he2 N=>?_;have N:=N;have A:=ZI he;have F:=I.xt.fresh (Zn _);have C:∀b o,b∉[e,f]->s.heap.get? b=Z o->h2.get? b=Z o:=λb o hb q=>by
   have G:b≠e:=λz=>hb (by simp[z]);exact(N.2 b G).trans (hk b o G (λz=>hb (by simp[z])) q)
  have D:=(N.2 _ (Vu A)).trans hT;have t:∀b o,H b=Z o->b∉[e,f]:=λb o q hb=>by rw[(l b hb).1]at q;cases q
  have up:∀b o,H b=Z o->upd H s.heap.objs.size (.tup [.int i,x]) b=Z o:=λb o q=>by rw[aw (bD q F)];exact q
  refine⟨.ref s.heap.objs.size,upd H s.heap.objs.size (.tup [.int i,x]),?_,rfl,⟨_,x,F,rfl,rfl,λys hy=>by rw[I.Lb hy Q];exact U⟩,⟨⟨u,by simpa using he2⟩,Tr.at λo y=>(N.2 f Ke.symm).trans y⟩,λb hb=>?_⟩
  ·show Inv X g O _ { s with heap:=h2,gens:=s.gens,drawn:=s.drawn,toks:=s.toks+1 };refine I.step (λb hb=>?_) (λb o _ _ j q _=>C b o j q) (λb o _ _ j q _=>⟨o.slots,C b o j q⟩) (λb o _ q r=>by rw[aw ((λb o q=>ZR (ZI q)) b o q)];exact r) (λb o j q=>⟨o,C b o j q⟩)
    (λb ys q=>up b _ q) (λb o v q=>up b _ q) (λb _ q=>up b _ q) (λm hm=>?_) (λb ob q=>by
   by_cases hb:b=s.heap.objs.size
   ·subst hb;rw[ar]at q;cases q;exact⟨by show 2<=KF;decide,[.int i s.toks,u],.cons ⟨_,rfl⟩ (.cons ru .nil),NT.of D Y,⟨_,D,rfl,_,rfl⟩⟩
   ·rw[aw hb]at q;refine(I.xt b ob q).Lu (λc v j r=>C c v ?_ r) (λc r=>up c _ r) (λc ys r=>up c _ r) λc _ _ r=>up c _ r;rcases j with z | z
    ·rw[z];exact t b ob q
    ·exact t c _ z) I.bare
   ·obtain⟨f0,f1,f2,f3,f4,f5⟩:=l b hb;exact⟨f3,f1,f4,f5⟩
   ·obtain⟨o,es,ep,LH,r⟩:=hm;refine⟨o,es,ep,C _ o (λz=>?_) LH,r⟩;exact(l _ z).2.1 Y
  ·have:b≠s.heap.objs.size:=by
    rcases Zh.mp hb with rfl | hb
    ·exact ZR A
    ·rw[Zl.mp hb];exact ZR (let ⟨_,z,_⟩:=hit;ZI z)
   rw[aw this];exact(l b hb).1
 done:=by
  intro X hP hw hK hc i g s O H E I l st hg;subst hP hw hK;obtain⟨xs,Q,U⟩:=hg;obtain⟨xb,R,p,hz⟩:=I.list Q;obtain⟨⟨old,he⟩,hit⟩:=st;obtain⟨f0,f1,f2,f3,f4,f5⟩:=l f (by simp);have hl:=R.length;exact wpAny_pyNext_enum_end (I.ok.hd hc) he hit p.isList (by simp;lia) λh' eb=>⟨rfl,I.turned (λb o hb q=>eb b o hb q) f0 f1 f3 f4 f5⟩
 self:=λ_ _ _ _ _ st h=>let ⟨_,he⟩:=st.1;wpAny_pyIter_enum he h
section
def Hu(K:Ww)(ta:TA):TI:=λO H Rq=>ta O H λe b=>∃l,e=[.ref l]/\(∃d,Iv K b l d)/\Rq (UY K l) b
def Bt(z:Gl X "enumerate")(x:X.mg "enumerate" = J)(A:PA X [a] ta)(v:{`q2,Pv [a] X.env=[(L,eval a X.env)]}):PI X (.Tuple f n D) (.Call (.Name "enumerate" p) [a] [] pos) (Hu X.K ta):=by
 intro d s O H Rq I h;refine Call_ (lr I z x boot_enumerate (WI (thn (A pos d s O H _ I h) λN i C=>?_) v Y));obtain⟨M,E,g,r1,o⟩:=C;obtain⟨l,e,⟨F,w⟩,q⟩:=o;subst e;cases r1 with
 |cons r m =>
  cases m;cases r;obtain⟨G,P,t,Q⟩:=g.list w;refine call_enumerate_list t.isList λR he hit u y=>?_;refine wpAny_pyIter_enum he ?_;refine⟨_,_,_,_,E,rfl,g.kept y,vT l (i.heap.objs.size+1) i.heap.objs.size (Nat.succ_ne_self _),⟨⟨_,he⟩,hit⟩,λb hb=>?_,q⟩;have j:i.heap.objs.size<=b:=by
   rcases Zh.mp hb with rfl | hb
   ·exact Zd _ _
   ·rw[Zl.mp hb];exact Zn _
  exact g.Li j (g.xt.fresh j)
end
end L2
namespace VS
open PySem PySem.Spec PyProof.Rows L2
section
theorem sD:∀(l:Ul)(k i:Nat){t:T},(gP k l)[i]?=Z t->∃x,l[i]?=Z x/\t=.tup [.int ((k+i:Nat):Int),x]
 |[],_,_,_,h=>by simp[gP]at h
 |x :: l,k,0,t,h=>by
  simp[gP]at h;exact⟨x,rfl,by rw[← h];rfl⟩
 |x :: l,k,i+1,t,h=>by
  obtain⟨y,d,b⟩:=sD l (k+1) i (by simpa[gP] using h);refine⟨y,by simpa using d,?_⟩;rw[b,show k+1+i=k+(i+1) by lia]
theorem oP:∀(l:Ul)(k:Nat),(gP k l).length=l.length
 |[],_=>rfl
 |x :: l,k=>by simp[gP,oP l (k+1)]
def B4{a:KM}(K:Ww)(j:H a=Z (.lst d))(r:RpL G H d e u):Mx G (UY K a) (gP 0 e) (a :: u.flatten) H:=by
 refine⟨λs k c=>?_,λb hb=>?_⟩
 ·have f:=c a Zy _ j;refine⟨λi t h=>?_,λi h=>⟨d,Iv.of f,by rw[oP]at h;rw[r.len.1];exact h⟩⟩;refine L2.ai λO w=>?_;obtain⟨y,A,m⟩:=sD e 0 i h;rw[XH]at m;obtain⟨v,F,l,N,M⟩:=(r.keep k λb hb o D=>c b (Zw _ hb) o D).get i A;refine w ?_;refine⟨⟨d,v,Iv.of f,l⟩,λx P E=>?_⟩;obtain⟨p,z,C,e1,e2,e3⟩:=E;subst e1 e2;have ex:=e3 d (Iv.of f);rw[l]at ex;cases ex;have g:aI s (upd s p (.tup [.int i,v])):=λb o q=>by rw[aw (bD q C)];exact q
  refine⟨g,F,?_,λb hb=>.inl (Zw _ (cM N hb))⟩;rw[m];have:F=([[],F]).flatten:=by simp
  rw[this];exact .tup ar (.cons (.int _) (.cons (M.same g) .nil))
 ·rcases Zh.mp hb with rfl | hb
  ·rw[j];exact λz=>nomatch z
  ·exact Il.xa (r.Iu b hb)
def sF(t:PV G X a ca)(r:Gl X "enumerate")(q:X.mg "enumerate" = J)(j:{`q2,K1 a [] X})(z:{`q2,Pv [a] X.env=[(L,eval a X.env)]}) :
  PVI G X (.Tuple elts n NC) (.Call (.Name "enumerate" p) [a] [] pos) (zY ca) :=
 PI.weak (Bt r q (dU t gE j) z) λO H Rq o=>by
  obtain⟨R,U,m,l,s,e,k⟩:=o;obtain⟨⟨h,x⟩,w,e1⟩:=Zz.mp e;refine⟨R,U,h,x,s,w,λv A F e3 g u=>?_⟩;cases x with
  |lst C =>
   refine L2.ai λD i=>?_;cases e1;obtain⟨y,d,E,rfl,rfl,b,f⟩:=g.lst_inv;refine i ?_;exact⟨y,rfl,⟨d,Iv.of b⟩,k _ A _ e3 (B4 X.K b f) u.c⟩
  |_=>cases e1
end
noncomputable instance {s:Tx}:Decidable (j5 s):=inferInstanceAs (Decidable (_/\_))
section
def w_add(f:PV G X a ca)(d:PV G X b cb):PV G X (.BinOp a .Add b pos) (e2 dH ca cb):=iQ AG Dg f d
def ir(f:PV G X a ca)(d:PV G X b cb):PV G X (.BinOp a .FloorDiv b pos) (e2 cA ca cb):=iQ AV As f d
def w_mod(f:PV G X a ca)(d:PV G X b cb):PV G X (.BinOp a .Mod b pos) (e2 oMod ca cb):=iQ Fl Fq f d
def tf{X:Cx}(d:xh k X.A)(g:PV G X a ca)(f:PV G X b cb):Lk G X (.Compare a [.Eq] [b] pos) (e2 oEq ca cb):=fX (qE d.units) uV tells_eq g f (ig _)
def rP{X:Cx}(d:xh k X.A)(g:PV G X a ca)(f:PV G X b cb):Lk G X (.Compare a [.NotEq] [b] pos) (e2 Ly ca cb):=fX (DZ d.units) G0 zi g f (ig _)
def bh(g:PV G X a ca)(f:PV G X b cb)(d:jt b:=by intro _ _;rfl)(i:{`q2,X.K=G.K}):PV G X (.Subscript a b pos) (e2 aH ca cb) :=
 PE.weak (tD qK g f d) λO H Q h=>by rw[i];exact lh yE h
def fh{X:Cx}(d:X.mg "len" = J)(g:Jj G X [e] cs)(f:{`q2,Gl X "len"})(h:{`q2,X.K=G.K})(he:{`q2,K1 e [] X}):PV G X (.Call (.Name "len" p) [e] [] pos) (eN dY cs) :=
 i8 (h ▸ wg) Dl f d PySem.boot_len g (he:=he)
def E8:bootBuiltins ("max" : Str)=Z (.builtin "max"):=by decide +kernel
def DK:bootBuiltins ("min" : Str)=Z (.builtin "min"):=by decide +kernel
def Bk:bootBuiltins ("list" : Str)=Z (.type "list"):=by decide +kernel
def Fz{X:Cx}(d:X.mg "max" = J)(h:Jj G X [a,b] cs)(g:{`q2,X.calm=B})(f:{`q2,Gl X "max"})(he:{`q2,Pv [a,b] X.env=(L,eval a X.env) :: Pv [b] X.env})(hpl:{`q2,(backTo pos (Pv [b] X.env)).any (·.1)=L}):PV G X (.Call (.Name "max" p) [a,b] [] pos) (eN uQ cs) :=
 i8 (vO g) AC f d E8 h (he:=he) (hpl:=hpl)
def DA{X:Cx}(d:X.mg "min" = J)(h:Jj G X [a,b] cs)(g:{`q2,X.calm=B})(f:{`q2,Gl X "min"})(he:{`q2,Pv [a,b] X.env=(L,eval a X.env) :: Pv [b] X.env})(hpl:{`q2,(backTo pos (Pv [b] X.env)).any (·.1)=L}):PV G X (.Call (.Name "min" p) [a,b] [] pos) (eN qV cs) :=
 i8 (wY g) AX f d DK h (he:=he) (hpl:=hpl)
noncomputable def NZ:Ty->Str
 |.int => "int" |.str => "str" |.bool => "bool" |.list => "list" |.tuple => "tuple" |.dict => "dict"
def Ga(t:Ty):bootBuiltins (NZ t)=Z (.type (MA t)):=by cases t<;>decide +kernel
def w_is{X:Cx}(t:Ty)(f:X.mg "isinstance" = J)(l:X.mg (NZ t)=J)(h:PV G X a ca)(g:{`q2,Gl X "isinstance"})(j:{`q2,Gl X (NZ t)})(i:{`q2,X.K=G.K})(d:{`q2,Pv [a,.Name (NZ t) p2] X.env=(L,eval a X.env) :: Pv [.Name (NZ t) p2] X.env}):PV G X (.Call (.Name "isinstance" p1) [a,.Name (NZ t) p2] [] pos) (MM t ca) :=
 FM t h g f j l (Ga t) i (by cases t<;>decide) (by cases t<;>decide) d Y Y
def gT{apos:Pos}(i:Nat)(m:Jj G X [e] cs)(o:{`q2,X.K=G.K})(n:{`q2,X.N[i]?=Z x})(f:{`q5,KG X.env.scope x})(j:{`q1,K3 x})(d:{`q1,K4 x})(s:{`q2,((backTo pe (Pv [e] X.env)).all (λx=>!x.1)&&(backToKw pe (SL [] X.env)).all (λx=>x.1.isSome)
   && decide ([e].length+([]:List Keyword).length+(if ([]:List Keyword).isEmpty then 0 else 1)<30))=B})(q:{`q2,(apos.endLine==pe.line)=B})(g:{`q2,K1 e [] X}) :
  PSV G X (.Expr (.Call (.Attribute (.Name x p1) "append" apos) [e] [] pe) pos) (sX (mh i [] aC cs)) :=
 zR i Xv XU XW fu jB (λH v t F l z r h=>gy r h) m o n f j d Y s q g Y Y
end
structure FnAt(P:Re)(w:XAA)(K:Ww)(mg:Wp)(base:UV)(k:Nat)(x:Str)(ps:List Str)(G:Gx)(g:Fn):Prop where
 ex:∃f fd,FnOk P w K mg base Jb k f fd ps (KI G g)/\mg x=some (.ref f)/\PySem.W.keepIn K (.ref f)=true/\Binds K fd ps []
section
def dj{X:Cx}(F:FnAt X.prog X.w X.K X.mg X.base k x ps G g)(b:xh k' X.A)(i:Jj G X (e :: es) cs)(d:{`q1,k<=k'})(h:{`q2,Gl X x})(o:{`q1,K3 x})(he:{`q2,K1 e es X})(a:{`q2,K2 pos es X}) :
  PV G X (.Call (.Name x p) (e :: es) [] pos) (bR g cs):=by
 obtain⟨f,fd,n,m,l,j⟩:=F.ex;exact CJ n (b.mono d) h m l j i o he a
end
section
variable{K:Ww}
def iH(F:Ir K x x a f i)(m:mg x=Z (.ref f))(S:p0 N b (ah a))(j:b.length=g)(l:N.length=h)(o:∀(kV doc pm:On)(an:Option KM)(d ct:On)(e:W7),e.length=b.length->bindArgs (PySem.W.fnOf x x (cK a) (aY a) (ah a) .none kV doc pm an d ct) ⟨e,[]⟩=pure (b.zip e))(n:∀(d:On)(A:SB)(outer:List PySem.Env)(s:IR)(H:Hp)(E:XK),xh k (A.deeper (envOfC x (ah a) s.heap.objs.size f d))->jh G (jP Jb P w K mg base N x (ah a) f d A outer s H E).Lz (aY a) c) :
  FnAt P w K mg base (k+1) x b G (fn g h c) :=
 ⟨f,i,T2 F S j l n,m,F.kp,F.binds o⟩
end
end VS
end
section
namespace L2
open PySem PySem.Spec PyProof.Rows
noncomputable def Ju(x:Str):It:=⟨λi _=>i<x.cps.size,λi H v a=>a=H/\∃c,x.cps[i]?=Z c/\v=.str ⟨#[c]⟩,λi _=>x.cps.size<=i⟩
def oN{K:Ww}(x:Str)(t:Tok)(a:KM)(f:String)(S:["enumerate", "zip", "dict_itemiterator", "dict_reverseitemiterator", "odict_iterator", "itertools.zip_longest", "itertools.pairwise"].contains f=L)(W:∀A:SB,A.handled=J->Walks P w A a [a] [a] x.cps.size (λi v=>∃c u,x.cps[i]?=Z c/\v=.str ⟨#[c]⟩ u) (λi h=>h.IsStrIter a f x t i))(TJ:∀(A:SB),A.handled=J->∀(i:Nat)(s:IR)(Q:Ut->IR->Prop)(E:Z9),s.heap.IsStrIter a f x t i->x.cps[i]?=J->(∀j,Heap.ExtBut a s.heap j->Q J { s with heap:=j })->PP (KB P w) A (pyNext (.ref a)) Q E s)(QG:∀(A:SB)(i:Nat)(s:IR)(Q:Z9)(E:Z9),s.heap.IsStrIter a f x t i->Q (.ref a) s->PP (KB P w) A (pyIter (.ref a)) Q E s) :
  Turn P w K G (Ju x) [a] a (λi h=>h.IsStrIter a f x t i) where
 mem:=by simp
 obj:=λi h st b hb=>by
  rw[Zl.mp hb];obtain⟨o,e,c,d⟩:=st;exact⟨o,e,λv z=>by rw[d]at z;cases z⟩
 keep:=λi h j st k=>let ⟨o,e,r⟩:=st;⟨o,k a (by simp) o e,r⟩
 item:=by
  intro X n hw p m i g s O H E I l st hg;subst n hw p;obtain⟨D,f1,f2,C,y,q⟩:=l a (by simp);refine(W X.A (I.ok.hd m)).item i s _ _ hg st λv j tk R F M=>?_;obtain⟨c,u,JR,rfl⟩:=R;obtain⟨o,e,Y,d⟩:=id F;exact⟨_,rfl,pE e Y d S ⟨.str ⟨#[c]⟩,H,(I.turned (λb o hb e=>M b o (by simpa using hb) e) D f1 C y q),⟨u,rfl⟩,⟨rfl,c,JR,rfl⟩,F,λb hb=>(l b hb).1⟩⟩
 done:=by
  intro X n hw p m i g s O H E I l st hg;subst n hw p;obtain⟨D,f1,f2,C,y,q⟩:=l a (by simp);have N:x.cps.size<=i:=hg;exact TJ X.A (I.ok.hd m) i s _ _ st (by simp[N]) λj U=>⟨rfl,I.turned (λb o hb e=>U b o hb e) D f1 C y q⟩
 self:=λA i s Q E st h=>QG A i s Q E st h
def Af{K:Ww}(x:Str)(t:Tok)(a:KM):Turn P w K g (Ju x) [a] a (λi h=>h.IsStrIter a (strIterType x) x t i):=by
 cases f:x.cps.all (· < 128)
 ·have e:strIterType x = "str_iterator" := by simp[strIterType,f]
  rw[e];exact oN x t a "str_iterator" rfl (λA b=>Walks.strWide b a x t) (λA b i s Q E st d q=>wpAny_pyNext_wide_end b st d q) λA i s Q E st q=>wpAny_pyIter_striter_wide st q
 ·have e:strIterType x = "str_ascii_iterator" := by simp[strIterType,f]
  rw[e];exact oN x t a "str_ascii_iterator" rfl (λA b=>Walks.strAscii b a x t) (λA b i s Q E st d q=>wpAny_pyNext_ascii_end b st d q) λA i s Q E st q=>wpAny_pyIter_striter_ascii st q
section
def GU(K:Ww)(f:TE):TI:=λO H Rq=>f O H λx d=>(∃a,x=.ref a/\(∃e,Iv K d a e)/\Rq (UW K a) d)\/(∃a,x=.ref a/\(∃e,Jy K d a e)/\Rq (UU K a) d)\/∃z,x=.str z/\Rq (Ju z) d
def CL(C:PE X l tl):PI X tg l (GU X.K tl):=by
 intro d s O H Rq I h;refine thn (C d s O H _ I h) λv f D=>?_;obtain⟨x,i,g,r1,w⟩:=D;have m:∀b∈[f.heap.objs.size],jO X d i b:=λb hb=>by
  rw[Zl.mp hb];exact g.Li (Zn _) (g.xt.fresh (Zn _))
 rcases w with⟨a,e,⟨n,j⟩,q⟩ | ⟨a,e,⟨n,j⟩,q⟩ | ⟨z,e,q⟩
 ·subst e;cases r1;obtain⟨r,u,p,A⟩:=g.list j;exact wpAny_pyIter_list p.isList ⟨f.heap.objs.size,[f.heap.objs.size],_,_,i,rfl,g.kept λb o e=>Za _ e,xg a _,⟨_,ZD _ Y,rfl,rfl⟩,m,q⟩
 ·subst e;cases r1;obtain⟨r,u,p,A⟩:=g.tuple j;exact wpAny_pyIter_tuple (p) ⟨f.heap.objs.size,[f.heap.objs.size],_,_,i,rfl,g.kept λb o e=>Za _ e,uv a _,⟨_,ZD _ Y,rfl,rfl⟩,m,q⟩
 ·refine L2.ai λE y=>?_;subst e;obtain⟨t,rfl⟩:=r1;refine y ?_;exact wpAny_pyIter_strU ⟨f.heap.objs.size,[f.heap.objs.size],_,_,i,rfl,g.kept λb o e=>Za _ e,Af z t _,⟨_,ZD _ Y,rfl,rfl⟩,m,q⟩
def A9{s:IR}{d:UV}(g:∀b x,b∉[s.heap.objs.size]->(s.heap.push o).get? b=Z x->d.get? b=Z x)(b:KM)(x:Obj)(e:s.heap.get? b=Z x):d.get? b=Z x :=
 g b x (λf=>YK _ (by have:=ZI e;rw[Zl.mp f]at this;exact this)) (Za _ e)
def yP{X:Cx}(G:X.calm=B):dD X (.builtin "sum") (λr H Q=>∃p,∃ns:Ur,r=[.ref p]/\Iv X.K H p (ns.map V.int)/\Q (.int ns.sum) H):=by
 intro w s O H r N Q I z h;refine L2.ai λU C=>?_;obtain⟨p,ns,rfl,F,q⟩:=h;obtain⟨u,rfl,j⟩:=z.one;cases j;obtain⟨d,g,m,R⟩:=I.list F;refine C ?_;have x:p<s.heap.objs.size:=by obtain⟨_,e,_⟩:=m.isList;exact ZI e
 refine call_sum_walkG (wpAny_pyIter_list m.isList ⟨s.heap.objs.size,[s.heap.objs.size,p],[s.heap.objs.size],d.toArray.size,_,_,λi=>(ns[i]?).getD 0,rfl,Walks.list (A:=X.A.in1) (I.ok.hd G) _ p (ZR x) d.toArray,
  ⟨⟨_,ZD _ Y,rfl,rfl⟩,m.isList.push _⟩,λb hb=>?_,λi v M=>?_,λS P y o=>⟨.int ns.sum,H,I.kept (A9 o),⟨y,?_⟩,q⟩⟩)
 ·rw[V5];rcases Zh.mp hb with rfl | hb
  ·exact Y0 _
  ·rw[Zl.mp hb];exact Yl x
 ·have f:d[i]?=Z v:=by simpa using M
  cases e:ns[i]? with
  |none =>
   have:=g.none_of (i:=i) (by rw[ZL,e];rfl);rw[this]at f;cases f
  |some n =>
   obtain⟨u,E,j⟩:=g.get (i:=i) (by rw[ZL,e];rfl);rw[E]at f;cases f;obtain⟨t,rfl⟩:=j;exact⟨t,by simp[e]⟩
 ·have hlen:d.toArray.size=ns.length:=by have:=g.length;simp at this ⊢;exact Eq.symm this
  have:∀k,k<=ns.length->preSum (λi=>(ns[i]?).getD 0) k=(ns.take k).sum:=λk=>by
   induction k with
   |zero=>intro _;simp[preSum]
   |succ k D =>
    intro o;rw[List.take_succ,List.sum_append,preSum,D (by exact Nat.le_of_succ_le o)];cases e:ns[k]? <;> simp
  rw[hlen,this _ (Zn _),List.take_length]
def vU:OpR X (UF .Gt) (λx y H Q=>∃i j,x=.str i/\y=.str j/\Q (.bl (decide (j.cps.toList<i.cps.toList))) H):=by
 intro d s O H x y v u Q I f e h;obtain⟨i,j,rfl,rfl,q⟩:=h;obtain⟨t,rfl⟩:=f;obtain⟨g,rfl⟩:=e;exact PySem.P.gt_str ⟨.bl _,H,I,rfl,q⟩
def vP:OpR X (UF .GtE) (λx y H Q=>∃i j,x=.str i/\y=.str j/\Q (.bl (!decide (i.cps.toList<j.cps.toList))) H):=by
 intro d s O H x y v u Q I f e h;obtain⟨i,j,rfl,rfl,q⟩:=h;obtain⟨t,rfl⟩:=f;obtain⟨g,rfl⟩:=e;exact PySem.P.ge_str ⟨.bl _,H,I,rfl,q⟩
end
end L2
end
section
namespace VS
open PySem PySem.Spec PyProof.Rows L2
section
def Ek(H:Hp)(s:Tx)(l:j5 s):Mx G (L2.Ju (sx s)) (s.map λc=>T.str [c]) [] H:=by
 have sz:(sx s).cps.size=s.length:=rfl;refine⟨λo _ _=>⟨λi t h=>?_,λi h=>(by rw[Zu]at h;show (sx s).cps.size<=i;lia)⟩,λa h=>by simp at h⟩;rw[ZL]at h;obtain⟨c,f,rfl⟩:=Zt.mp h;refine⟨(by show i<(sx s).cps.size;have:=(ZZ.mp f).1;lia),λx n ⟨e1,g,j,e2⟩=>?_⟩;subst e1;have:g=c:=by
  have m:(sx s).cps[i]?=Z c:=by simp[sx,f]
  rw[m]at j;exact(Zg j).symm
 subst this;rw[e2];exact⟨aI.refl _,[],.str [g] ⟨(by show 1<=d4;decide),λd hd=>by rw[Zl.mp hd];exact l.2 g (Yb f)⟩,λa h=>by simp at h⟩
def dA(u:PV G X a ca)(A:{`q2,X.K=G.K}):PVI G X tg a (h9 ca) :=
 PI.weak (CL u) λO H Rq t=>by
  obtain⟨R,U,m,l,s,e,k⟩:=t;obtain⟨⟨r,x⟩,w,e1⟩:=Zz.mp e;refine⟨R,U,r,x,s,w,λv f F e3 j o=>?_⟩;cases x with
  |lst q =>
   cases e1;obtain⟨n,g,y,rfl,rfl,d,i⟩:=j.lst_inv;exact .inl ⟨n,rfl,⟨g,Iv.of d⟩,k _ f _ e3 (AH X.K d i) o.c⟩
  |tup q =>
   cases e1;obtain⟨n,g,y,rfl,rfl,d,i⟩:=j.JA;exact .inr (.inl ⟨n,rfl,⟨g,Jy.of d⟩,k _ f _ e3 (D9 X.K d i) o.c⟩)
  |str z =>
   cases e1;obtain⟨rfl,ok⟩:=j.str_inv;exact .inr (.inr ⟨_,rfl,k _ f [] e3 (Ek f z ok) λa h=>by simp at h⟩)
  |_=>cases e1
theorem vB:∀{d:List V}{l:Ul}{g:Xc}{f:Ur},RpL G H d l g->sI l=Z f->d=f.map V.int
 |_,_,_,_,.nil,e=>by cases e;rfl
 |_,_,_,_,.cons (t:=t) r q,e=>by
  cases t with
  |int s =>
   obtain⟨h,e1,e2⟩:=Zt.mp e;subst e2;rw[vB q e1,r.int_inv];rfl
  |_=>cases e
def Fc:eZ G (λd H Q=>∃p,∃ns:Ur,d=[.ref p]/\Iv G.K H p (ns.map V.int)/\Q (.int ns.sum) H) BJ:=by
 intro R U r H l n u m t Q A e k;unfold BJ at e;split at e
 ·rename_i o x;refine L2.ai λq h=>?_;obtain⟨is,e1,e2⟩:=Zz.mp e;cases e2;obtain⟨v,F,rfl,rfl,f⟩:=(A.rp).one;obtain⟨a,j,s,rfl,rfl,i,g⟩:=f.lst_inv;refine h ?_;exact⟨a,is,rfl,by rw[← vB g e1];exact Iv.of i,bz k (.int _)⟩
 ·cases e
def DE:bootBuiltins ("sum" : Str)=Z (.builtin "sum"):=by decide +kernel
def xk:bootBuiltins ("tuple" : Str)=Z (.type "tuple"):=by decide +kernel
def w_sum{X:Cx}(d:X.mg "sum" = J)(h:Jj G X [e] cs)(f:{`q2,Gl X "sum"})(i:{`q2,X.K=G.K})(g:{`q2,X.calm=B})(he:{`q2,K1 e [] X}):PV G X (.Call (.Name "sum" p) [e] [] pos) (eN BJ cs) :=
 i8 (yP g) (i ▸ Fc) f d DE h (he:=he)
def Ad:eZ G (λg H Q=>∃p d,g=[.ref p]/\((Iv G.K H p d/\∀l,H l=J->Q (.ref l) (upd H l (.tup d)))\/(Jy G.K H p d/\Q (.ref p) H))) iy:=by
 intro R U C H l u D m t Q A e k;unfold iy at e;split at e
 ·rename_i w x;split at e
  ·rename_i y;refine L2.ai λz j=>?_;cases e;obtain⟨v,F,rfl,rfl,h⟩:=(A.rp).one;obtain⟨a,d,s,rfl,rfl,o,i⟩:=h.lst_inv;refine j ?_;refine⟨a,d,rfl,.inl ⟨Iv.of o,λq n=>?_⟩⟩;have f:aI H (upd H q (.tup d)):=bZ n;have r:Rp G (upd H q (.tup d)) (.ref q) (.tup x) s.flatten:=.tup ar (i.same f);exact k _ _ _ f r (((A.fp.each 0 _ _ Y Y).sub (YY _ _)).up r)
  ·cases e
 ·cases e
def qb{X:Cx}(d:X.mg "tuple" = J)(g:Jj G X [e] cs)(f:{`q2,Gl X "tuple"})(h:{`q2,X.K=G.K})(he:{`q2,K1 e [] X}):PV G X (.Call (.Name "tuple" p) [e] [] pos) (eN iy cs) :=
 lu oK (h ▸ Ad) f d xk g (he:=he)
def rGt:Ja:=λx y H Q=>LZ (λi j=>.bl (decide (j<i))) x y H Q\/(∃i j,x=.str i/\y=.str j/\Q (.bl (decide (j.cps.toList<i.cps.toList))) H)
def rGe:Ja:=λx y H Q=>LZ (λi j=>.bl (decide (j<=i))) x y H Q\/(∃i j,x=.str i/\y=.str j/\Q (.bl (!decide (i.cps.toList<j.cps.toList))) H)
def zN(s t:Tx):decide ((sx s).cps.toList<(sx t).cps.toList)=Mp s t:=by rw[ly];exact decide_eq_decide.mpr (by simp[sx])
def FP:fT G rGt RL:=by
 intro R U i H x y u w l j m t Q d e k;obtain⟨h,x⟩:=x;obtain⟨g,y⟩:=y;obtain⟨same,r1,r2,f1,f2,nd⟩:=d;unfold RL oLt at e;split at e
 ·rename_i e1 e2;cases e1;cases e2;cases e;exact .inl ⟨_,_,r1.int_inv,r2.int_inv,bz k (.bl _)⟩
 ·rename_i s _ f e1 e2;cases e1;cases e2;cases e;refine .inr ⟨_,_,r1.str_inv.1,r2.str_inv.1,?_⟩;rw[zN];exact bz k (.bl _)
 ·cases e
def GC:fT G rGe RM:=by
 intro R U i H x y u w l j m t Q d e k;obtain⟨h,x⟩:=x;obtain⟨g,y⟩:=y;obtain⟨same,r1,r2,f1,f2,nd⟩:=d;unfold RM oLe at e;split at e
 ·rename_i e1 e2;cases e1;cases e2;cases e;exact .inl ⟨_,_,r1.int_inv,r2.int_inv,bz k (.bl _)⟩
 ·rename_i s _ f e1 e2;cases e1;cases e2;cases e;refine .inr ⟨_,_,r1.str_inv.1,r2.str_inv.1,?_⟩;rw[zN];exact bz k (.bl _)
 ·cases e
def yy:Tells RL:=λx y m t e=>kA y x m t e
def xH:Tells RM:=λx y m t e=>y9 y x m t e
def Ai(P:fT G r f)(n:fT G A g)(h:tE G (pK f g ca cb cc) O H Q):yi r A (tE G ca) (tE G cb) (tE G cc) O H Q:=by
 refine L2.ai λP_ k_=>?_;obtain⟨R,U,m,t,s,e,k⟩:=h;obtain⟨x,ea,e⟩:=Zz.mp e;obtain⟨y,eb,e⟩:=Zz.mp e;obtain⟨⟨S,z⟩,ez,e⟩:=Zz.mp e;refine k_ ?_;refine yr s ea eb λu w H2 F1 C d=>P R U H H2 x y u w F1 C S z _ d ez λv H3 F e1 r1 f1=>?_;cases z with
 |bl q =>
  refine⟨q,r1.Jw,?_⟩;cases q with
  |false =>
   cases e;rw[Zq Zf];exact k _ H3 [] (d.same.trans e1) (.bl L) Fp.nil
  |true =>
   rw[Zr Y];obtain⟨l,ec,e⟩:=Zz.mp (e);have i:=d.same.trans e1;refine⟨R,U,l.1,l.2,s.same i,ec,λD H4 F4 o N j=>?_⟩;refine n R U H H4 y l w D C F4 m t Q ⟨i.trans o,(d.r2.same e1).same o,N,d.f2,j.back i,λhx hy=>?_⟩ e λE H5 F5 e5 M f5=>k E H5 F5 ((i.trans o).trans e5) M f5;have f2:=d.f2;rw[hx]at f2;rw[hy]at j;refine ZC.mpr ⟨f2.1,j.1,λa ha b hb z=>?_⟩;subst z;exact Il.xa ((d.r2.same e1).Iu a ha) (j.2 a hb)
 |_=>cases e
def vb{X:Cx}{i:Int}(h:∃t,X.mg x=Z (.int i t))(f:{`q2,Gl X x})(g:{`q1,K3 x}):PV G X (.Name x pos) (Q3 i):=by
 obtain⟨t,d⟩:=h;exact A8 (v:=.int i) f d ⟨t,rfl⟩ (λH=>.int i) g
end
end VS
end
section
namespace VS
open PySem PySem.Spec PyProof.Rows L2
section
def tY:PV G X (.Dict [] [] pos) (l9 0 []):=PE.weak zQ λO H Q d=>by
 obtain⟨R,U,m,t,s,e,k⟩:=d;cases (e);intro q d;have:Rp G (upd H q (.dK [])) (.ref q) (.dct 0 ((([]).map aE).zip [])) (q :: ([]).flatten):=.dct ar Y .nil;exact k _ _ [q] (bZ d) this ⟨by simp,λb hb=>by rw[Zl.mp hb];exact d⟩
end
section
def lA{X:Cx}(hp:PassesOwn (KB X.prog X.w) X.A X.env X.xe)(hc:Lk G X c cc)(hb:jh G X h E):PSV G X (.While c h [] pos) (nz cc E) :=
 PS.weak (zu hp hc hb) λD O H hq=>by
  obtain⟨R,U,o,s,e,k⟩:=hq;refine⟨λn F M=>∃y r,SR G y r F M/\Jc R U H y r M/\eY cc E n r=Z o,⟨xD,R,U,s,Jc.refl R U H,e⟩,?_⟩;rintro n F M ⟨y,r,Q,f2,e2⟩;cases n with
  |zero=>cases (e2)
  |succ n =>
   rw[eY]at e2;obtain⟨⟨mx,x⟩,ex,e3⟩:=Zz.mp e2;obtain⟨t,et,C⟩:=Zz.mp e3;refine⟨y,r,mx,x,t,Q,ex,et,λH3 N=>?_⟩;have P:=Q.same N;have m:=f2.trans (Jc.same N);cases t with
   |false =>
    rw[Zq Zf]at C;cases C;show if L=B then _ else _
    rw[Zq Zf];exact k y F H3 P m
   |true =>
    rw[Zr Y]at C;show if B=B then _ else _
    rw[Zr Y];obtain⟨S,e5,z⟩:=Zz.mp C;refine⟨λi g=>∃d f,SR G d f i g/\Jc R U H d f g/\eY cc E n f=Z o,λi g q=>⟨n,Y0 n,q⟩,y,r,S,P,e5,?_⟩;cases S with
    |nx f=>exact λd i g j l=>⟨d,f,j,m.trans l,z⟩
    |ct f=>exact λd i g j l=>⟨d,f,j,m.trans l,z⟩
    |bk f =>
     cases (z);exact λd i g j l=>k d i g j (m.trans l)
    |rt v f =>
     cases (z);exact λu g F4 d i j l r5 q5=>k u g F4 d i j (m.trans l) r5 (q5.back m)
noncomputable def RE:Sx:=λ_=>J
def uh:PSV G X f RE:=λd s O H D I ⟨_,_,_,_,e,_⟩=>nomatch (e)
def cW(r:Rp G H v (.dct 0 l) F):∃(a:KM)(ks:List Key)(d:List V)(f:Ul)(g:Xc),v=.ref a/\F=a :: g.flatten/\H a=Z (.dK (ks.zip d))/\ks.length=d.length/\l=(ks.map aE).zip f/\RpL G H d f g:=r.inv
def dh(r:Rp G H v t F)(h:iw t=B):∃k:Key,v=kV k/\t=aE k:=by
 cases t with
 |int i=>exact⟨.inl i,r.int_inv,rfl⟩
 |str s=>exact⟨.inr (sx s),r.str_inv.1,by simp[aE,sx]⟩
 |_=>cases h
theorem jx{k:Key}:∀{ks:List Key}{d:List V}{ts:Ul}{l:Xc},ks.length=d.length->RpL G H d ts l →
  (cH ((ks.map aE).zip ts) (aE k)=J/\cF (ks.zip d) k=J)\/∃(i:Nat)(v:V)(t:T)(F:W6),cH ((ks.map aE).zip ts) (aE k)=Z t/\cF (ks.zip d) k=Z v/\d[i]?=Z v/\l[i]?=Z F/\Rp G H v t F
 |[],[],_,_,_,.nil=>.inl ⟨rfl,rfl⟩
 |k' :: ks,v :: d,_,_,o,.cons (t:=t) (F:=F) (ts:=ts) r q=>by
  have e:eqT (aE k') (aE k)=decide (k'=k):=by
   rw[Xo,decide_eq_true_eq];cases k with
   |inl i=>cases k'<;>simp[aE]
   |inr x =>
    obtain⟨⟨x⟩⟩:=x;cases k' with
    |inl j=>simp[aE]
    |inr y=>obtain⟨⟨y⟩⟩:=y;simp[aE]
  by_cases f:k'=k
  ·refine .inr ⟨0,v,t,F,?_,b8 f,rfl,rfl,r⟩;have g:eqT (aE k') (aE k)=B:=by rw[e];exact decide_eq_true f
   simp only[cH,Zo,ZM,Z3,g];rfl
  ·have u:cH (((k' :: ks).map aE).zip (t :: ts)) (aE k)=cH ((ks.map aE).zip ts) (aE k):=by
    have g:eqT (aE k') (aE k)=L:=by rw[e];exact ZK f
    simp only[cH,Zo,ZM,Z3,g]
   have s:cF ((k' :: ks).zip (v :: d)) k=cF (ks.zip d) k:=by simp[cF,f]
   rw[u,s];rcases jx (k:=k) (by simpa using o) q with h | ⟨i,m,n,E,D,C,A,z,w⟩
   ·exact .inl h
   ·exact .inr ⟨i+1,m,n,E,D,C,by simpa using A,by simpa using z,w⟩
def qy{X:Cx}(m:X.A.units+1<cLine):Mh X (λx y H Q=>∃a v,x=.ref a/\gU H a y (Z v)/\Q v H):=by
 intro value slice d s O H x y v u Q I l j h n;obtain⟨a,w,rfl,g,q⟩:=h;cases l;have f:=rK I g;refine Zx ?_;rw[getitemInPython_of_ne f.not_modules];refine Zx (Y2 f PySem.F.slot_dict_getitem.lookup ?_);have fin:PP (KB X.prog X.w) X.A (subscripted slice L (.ref a) u) (λr i=>PP (KB X.prog X.w) X.A (letTemporaryGo value (.ref a) r >>= λ_=>pure r) (EP X d O Q) X.xe i) X.xe s:=by
  rw[n];exact wpAny_operating (we m I g j λz C t o=>Zx (wpAny_letTemporaryGo (Zm ⟨w,H,t,o,q⟩)))
 first
  |exact Zm (Zx fin)
  |exact Zx (Zm (Zx fin))
  |exact Zx fin
def FK(K:Ww):Ja:=λx y H Q=>Sv K x y H Q\/∃a v,x=.ref a/\gU H a y (Z v)/\Q v H
def GN:fT G (FK G.K) J9:=by
 intro R U C H x y u w E D m t Q d e k;obtain⟨g,x⟩:=x;by_cases hd:∃l,x=.dct 0 l
 ·obtain⟨l,rfl⟩:=hd;simp only[J9]at e;split at e
  ·rename_i j;obtain⟨O,e1,e2⟩:=Zt.mp e;obtain⟨a,ks,M,N,Fs,rfl,rfl,n,h,rfl,q⟩:=cW d.r1;obtain⟨P,rfl,r⟩:=dh d.r2 j;rw[r]at e1;rcases jx h q with⟨o,_⟩ | ⟨i,v,t2,F,A,z,Y,s,f⟩
   ·rw[o]at e1;cases e1
   ·rw[A]at e1;cases e1;cases e2;refine .inr ⟨a,v,rfl,by rw[← z];exact gU.k n,?_⟩;exact k v H F (aI.refl _) f (((d.f1.sub (YY _ _)).sub (cz s)).up f)
  ·cases e
 ·exact .inl (yE R U C H (g,x) y u w E D m t Q d (by
   simp only[J9]at e;split at e
   ·rename_i l S;exact absurd ⟨_,rfl⟩ hd
   ·exact e) k)
def sA{X:Cx}(f:xh k X.A)(i:PV G X a ca)(g:PV G X b cb)(d:jt b:=by intro _ _;rfl)(j:{`q2,X.K=G.K}):PV G X (.Subscript a b pos) (e2 J9 ca cb) :=
 PE.weak (tD (Mh.or qK (qy (kM f))) i g d) λO H Q h=>by rw[j];exact lh GN h
def fV:T->V
 |.bl b=>.bl b
 |.int i=>.int i
 |.str s=>.str (sx s)
 |_=>.non
def CY(r:Rp G H v t F)(h:flat t=B):v=fV t/\fW v=B:=by
 cases r with
 |non=>exact⟨rfl,rfl⟩
 |bl b=>exact⟨rfl,rfl⟩
 |int i=>exact⟨rfl,rfl⟩
 |str s d=>exact⟨rfl,rfl⟩
 |_=>cases h
theorem GE:∀{t u:T},flat t=B->flat u=B->Nr (fV t) (fV u)=eqT t u
 |.non,.non,_,_=>rfl
 |.non,.bl _,_,_=>rfl
 |.non,.int _,_,_=>rfl
 |.non,.str _,_,_=>rfl
 |.bl _,.non,_,_=>rfl
 |.bl _,.bl _,_,_=>rfl
 |.bl _,.int _,_,_=>rfl
 |.bl _,.str _,_,_=>rfl
 |.int _,.non,_,_=>rfl
 |.int _,.bl _,_,_=>rfl
 |.int _,.int _,_,_=>rfl
 |.int _,.str _,_,_=>rfl
 |.str _,.non,_,_=>rfl
 |.str _,.bl _,_,_=>rfl
 |.str _,.int _,_,_=>rfl
 |.str _,.str _,_,_=>yW
def yB(r:Rp G H v t F)(g:Rp G H w u h)(f:flat t=B)(d:flat u=B):Nr v w=eqT t u/\fW v=B/\fW w=B:=by
 obtain⟨e1,f1⟩:=CY r f;obtain⟨e2,f2⟩:=CY g d;refine⟨?_,f1,f2⟩;rw[e1,e2];exact GE f d
theorem p8(r:Rp G H x t F)(g:flat t=B):∀{d:List V}{f:Ul}{m:Xc},RpL G H d f m->f.all flat=B->d.all fW=B/\QC x d=f.any λy=>eqT y t
 |_,_,_,.nil,_=>⟨rfl,rfl⟩
 |_,_,_,.cons j q,h=>by
  rw[W4,YI]at h;obtain⟨l,i⟩:=p8 r g q h.2;obtain⟨e1,e2,e3⟩:=yB j r h.1 g;refine⟨by rw[W4,e2,l];rfl,?_⟩;unfold QC at i ⊢;rw[Xz,Xz,i,e1]
def HB(K:Ww):Ja:=λx y H Q=>RF K L x y H Q\/∃a o,y=.ref a/\gU H a x o/\Q (.bl o.isSome) H
def Cg(K:Ww):Ja:=λx y H Q=>RF K B x y H Q\/∃a o,y=.ref a/\gU H a x o/\Q (.bl (!o.isSome)) H
def AL{X:Cx}(j:X.A.units+1<cLine):OpR X (UF .In) (λx y H Q=>∃a o,y=.ref a/\gU H a x o/\Q (.bl o.isSome) H):=by
 intro d s O H x y v u Q I i f h;obtain⟨a,o,rfl,g,q⟩:=h;cases f;exact Hz j I g i λm l=>⟨.bl o.isSome,H,l,rfl,q⟩
def Ab{X:Cx}(j:X.A.units+1<cLine):OpR X (UF .NotIn) (λx y H Q=>∃a o,y=.ref a/\gU H a x o/\Q (.bl (!o.isSome)) H):=by
 intro d s O H x y v u Q I i f h;obtain⟨a,o,rfl,g,q⟩:=h;cases f;exact BO j I g i λm l=>⟨.bl (!o.isSome),H,l,rfl,q⟩
def rD(f:Rt G R U M H x y u w O N)(e:ma x y=Z (m,t)) :
  ∃b,m=.fr/\t=.bl b/\((∃p n,w=.ref p/\(Iv G.K H p n\/Jy G.K H p n)/\fW u=B/\n.all fW=B/\QC u n=b)\/∃a o,w=.ref a/\gU H a u o/\o.isSome=b):=by
 obtain⟨Q,y⟩:=y;simp only[ma]at e;split at e
 ·split at e
  ·rename_i d;cases e;obtain⟨a,ks,g,P,s,rfl,rfl,h,A,rfl,q⟩:=cW f.r2;obtain⟨z,rfl,C⟩:=dh f.r1 d;refine⟨_,rfl,rfl,.inr ⟨a,cF (ks.zip g) z,rfl,gU.k h,?_⟩⟩;rw[C];rcases jx A q with⟨l,j⟩ | ⟨i,v,t2,F,E,D,_⟩
   ·rw[l,j];rfl
   ·rw[E,D];rfl
  ·cases e
 ·split at e
  ·rename_i d;cases e;rw[YI]at d;obtain⟨a,g,s,rfl,rfl,h,r⟩:=f.r2.lst_inv;obtain⟨l,j⟩:=p8 f.r1 d.1 r d.2;exact⟨_,rfl,rfl,.inl ⟨a,g,rfl,.inl (Iv.of h),((yB f.r1 f.r1 d.1 d.1).2.1),l,j⟩⟩
  ·cases e
 ·split at e
  ·rename_i d;cases e;rw[YI]at d;obtain⟨a,g,s,rfl,rfl,h,r⟩:=f.r2.JA;obtain⟨l,j⟩:=p8 f.r1 d.1 r d.2;exact⟨_,rfl,rfl,.inl ⟨a,g,rfl,.inr (Jy.of h),((yB f.r1 f.r1 d.1 d.1).2.1),l,j⟩⟩
  ·cases e
 ·cases e
def GJ:fT G (HB G.K) ma:=by
 intro R U j H x y u w n l m t Q f e k;obtain⟨b,rfl,rfl,h⟩:=rD f e;rcases h with⟨p,d,rfl,i,f1,f2,hb⟩ | ⟨a,o,rfl,g,hb⟩
 ·refine .inl ⟨p,d,rfl,i,f1,f2,?_⟩;rw[hb];exact bz k (.bl b)
 ·refine .inr ⟨a,o,rfl,g,?_⟩;rw[hb];exact bz k (.bl b)
def El:fT G (Cg G.K) dy:=by
 intro R U r H x y u w v s m t Q i e k;unfold dy at e;split at e
 ·rename_i q d l;cases e;obtain⟨b,rfl,n,h⟩:=rD i l;cases n;rcases h with⟨p,f,rfl,j,f1,f2,hb⟩ | ⟨a,o,rfl,g,hb⟩
  ·refine .inl ⟨p,f,rfl,j,f1,f2,?_⟩;rw[hb];exact bz k (.bl (!d))
  ·refine .inr ⟨a,o,rfl,g,?_⟩;rw[hb];exact bz k (.bl (!d))
 ·cases e
def zX:Tells ma:=by
 intro x y m t e;simp only[ma]at e;split at e
 all_goals first | (split at e<;>first | (cases e;exact⟨_,rfl⟩) | cases e) | cases e
def wJ:Tells dy:=by
 intro x y m t e;unfold dy at e;split at e
 ·cases e;exact⟨_,rfl⟩
 ·cases e
def CT{X:Cx}(d:xh k X.A)(h:PV G X a ca)(g:PV G X b cb)(f:{`q4,behindInMarks .In b=L})(i:{`q2,X.K=G.K}):Lk G X (.Compare a [.In] [b] pos) (e2 ma ca cb):=fX (vS.or (AL (kM d))) (i ▸ GJ) zX h g f
def xW{X:Cx}(d:xh k X.A)(h:PV G X a ca)(g:PV G X b cb)(f:{`q4,behindInMarks .NotIn b=L})(i:{`q2,X.K=G.K}):Lk G X (.Compare a [.NotIn] [b] pos) (e2 dy ca cb):=fX (qN.or (Ab (kM d))) (i ▸ El) wJ h g f
end
end VS
end
section
open PySem PyProof.Rows
namespace TS
noncomputable def uM:Bool->Pi->Array Pi->Nat->Nat->Nat->StateT SC Sem (Option Nat):=sortPriv% PySem.Builtin.gallop
noncomputable def zI:Array Pi->Array Pi->StateT SC Sem (Array Pi):=sortPriv% PySem.Builtin.mergeLo
noncomputable def yM:Array Pi->Array Pi->StateT SC Sem (Array Pi):=sortPriv% PySem.Builtin.mergeHi
def all2{e d:Type}{P:e×d->Prop}(h:∀b a,P (b,a)):∀x,P x:=λ(b,a)=>h b a
def jW{g f e:Type}{P:g×f×e->Prop}(h:∀d b a,P (d,b,a)):∀x,P x:=λ(d,b,a)=>h d b a
def wR{m l j i g:Type}{P:m×l×j×i×g->Prop}(h:∀f e d b a,P (f,e,d,b,a)):∀x,P x:=λ(f,e,d,b,a)=>h f e d b a
def rH{o n m l j i:Type}{P:o×n×m×l×j×i->Prop}(h:∀g f e d b a,P (g,f,e,d,b,a)):∀x,P x:=λ(g,f,e,d,b,a)=>h g f e d b a
def Bn{q p o n m l j:Type}{P:q×p×o×n×m×l×j->Prop}(h:∀i g f e d b a,P (i,g,f,e,d,b,a)):∀x,P x:=λ(i,g,f,e,d,b,a)=>h i g f e d b a
structure JL(prog:Re)(w:XAA)(A:SB)(E:Z9)(s:IR)(κ:SortKind)(G:Pi->Prop)(r:Pi->Pi->Bool):Prop where
 run:∀(st:SC)(x y:Pi)(Q:Option Bool->SC->Prop),kindOf st=κ->G x->G y->Q (some (r x y)) st->wpS (KB prog w) A E s (lt' x y) Q st
 Ro:∀x y,G x->G y->r x y=true->r y x=false
 trans:∀x y z,G x->G y->G z->r y x=false->r z y=false->r z x=false
variable{κ:SortKind}
noncomputable def le(r:Pi->Pi->Bool)(x y:Pi):Prop:=r y x=L
def dP{a:Array Pi}(d:i<a.size)(h:Q a[i] b):wpS (KB prog w) A E s (elem' a i) Q b:=by
 rw[elem'_eq,getElem?_pos a i d];exact ZX h
noncomputable def Mf(r:Pi->Pi->Bool)(left:Bool)(a x:Pi):Bool:=if left then r x a else !(r a x)
noncomputable def bf(left:Bool)(a:Pi)(b:Array Pi)(i:Nat):StateT SC Sem (Option Bool):=do
 let x ← elem' b i
 if left=B then lt' x a else do
  let l ← lt' a x
  pure (Option.map (λx=>!x) l)
def mG(C:JL prog w A E s κ G r)(e:kindOf d=κ)(j:G b)(l:∀x∈a,G x)(f:i<a.size)(h:Q (Z (Mf r left b a[i])) d) :
  wpS (KB prog w) A E s (bf left b a i) Q d:=by
 refine ZW (dP f ?_);have g:=l _ (ZY f);cases left with
 |true=>exact C.run d _ _ _ e g j h
 |false=>exact ZW (C.run d _ _ _ e j g (ZX h))
def mid(h:a<b):a+(b-a)/2<b:=by omega
def sea(left:Bool)(e:Pi)(f:Array Pi)(a n d g:Nat):StateT SC Sem (Option Nat):=do
 let mut lo:=d
 let mut b:=g
 for _ in [0:n] do
  if lo ≥ b then break
  let m:=lo+(b-lo)/2
  let Z more ← bf left e f (a+m) | return J
  if more then lo:=m+1 else b:=m
 return Z b
section
variable{st:SC}
def zd{prog:Re}{w:XAA}{A:SB}{E:Z9}{s:IR}{G:Pi->Prop}{r:Pi->Pi->Bool}{left:Bool}{key:Pi}{base n:Nat}{Q:Option Nat->SC->Prop}{f:Nat->Bool}(C:JL prog w A E s κ G r){u a:Nat}(X:kindOf st=κ)(gk:G key)(M:∀x∈arr,G x)(z:∀i,i<n->base+i<arr.size)(N:∀i (a:base+i<arr.size),f i=Mf r left key arr[base+i])(y:∀i j,i<=j->j<n->f j=B->f i=B)(fin:∀k,k<=n->(∀i,i<k->f i=B)->(∀i,k<=i->i<n->f i=L)->Q (Z k) st)(H:u<=a)(v:a<=n)(F:∀i,i<u->f i=B)(D:∀i,a<=i->i<n->f i=L):wpS (KB prog w) A E s (sea left key arr base n u a) Q st:=by
 refine ZW (XJ (YO
  (I:=λx c l=>st=l/\c.1=J/\c.2.1<=c.2.2/\c.2.2<=n/\(∀i,i<c.2.1->f i=B)/\(∀i,c.2.2<=i->i<n->f i=L)/\c.2.2+x<=n+c.2.1)
  (Q:=λc l=>st=l/\c.1=J/\c.2.1=c.2.2/\c.2.2<=n/\(∀i,i<c.2.1->f i=B)/\(∀i,c.2.2<=i->i<n->f i=L)) ?step ?fin ?init) ?post)
 case init=>exact⟨rfl,rfl,H,v,F,D,ZU v (Zd n u)⟩
 case fin =>
  refine jW λS h t=>?_;rintro l ⟨rfl,e1,p,b,g,d,R⟩;exact⟨rfl,e1,YJ p (Nat.le_of_add_le_add_left (by rw[Nat.add_comm];exact R)),b,g,d⟩
 case step =>
  intro x;refine jW λS h t=>?_;rintro l _ hx ⟨rfl,e1,p,b,g,d,R⟩
  try dsimp only at *
  split
  ·rename_i q;exact ZX ⟨rfl,rfl,YJ p q,b,g,d⟩
  ·rename_i q;have o:=mid (Nat.lt_of_not_ge q);have O:h<=h+(t-h)/2:=Zd _ _;generalize h+(t-h)/2=m at o O ⊢;have P:=z m (Zi o b);refine ZW (mG C X gk M P ?_)
   try dsimp only
   rw[← N _ P];cases e:f m with
   |true =>
    rw[Zr Y];exact ZX ⟨rfl,rfl,o,b,λi a=>y i _ (YF a) (Zi o b) e,d,by(try dsimp only);clear g d y N fin z M H v F D;omega⟩
   |false =>
    rw[Zq Zf];refine ZX ⟨rfl,rfl,O,ZO (Zi o b),g,λi a U=>?_,by(try dsimp only);clear g d y N fin z M H v F D;omega⟩;cases e2:f i with
    |false=>rfl
    |true=>rw[y _ i a U e2]at e;cases e
 case post =>
  refine jW λS h t=>?_;rintro l ⟨rfl,e1,p,b,g,d⟩
  try dsimp only at *
  subst e1;exact ZX (fin t b (λi a=>g i (p ▸ a)) d)
def ar1{n:Nat}(h:b<c)(g:a+b<n):a+b+1<=a+min c (n-a):=by omega
def ar2{n:Nat}(h:a<n):a+min c (n-a)<=n:=by omega
def ar3{n:Nat}(h:a+min c (n-a)<=i)(g:i<n):a+c<=i:=by omega
def ar4(h:b<c)(g:b<=a):a+1-min c (a+1)<=a-b:=by omega
def ar5(h:i<a+1-min c (a+1)):c<=a/\i<=a-c:=by omega
def ar6{n:Nat}(h:¬c ≥ n-a):a+c<n:=by omega
def ar7{n:Nat}(h:c ≥ n-a):¬a+c<n:=by omega
def ar8(h:x<c):x+1<2*c+1:=by omega
def ar9:c<2*c+1:=by omega
def tM(C:JL prog w A E s κ G r)(H:kindOf st=κ)(M:G key)(N:∀x∈arr,G x)(S:base+n<=arr.size)(v:a<n)(t:∀i j (b:base+i<arr.size) (R:base+j<arr.size),i<=j->j<n->Mf r left key arr[base+j]=B->Mf r left key arr[base+i]=B)(h:∀k,k<=n->(∀i (b:base+i<arr.size),i<k->Mf r left key arr[base+i]=B)->(∀i (b:base+i<arr.size),k<=i->i<n->Mf r left key arr[base+i]=L)->Q (Z k) st) :
  wpS (KB prog w) A E s (uM left key arr base n a) Q st:=by
 obtain⟨f,p⟩:∃f:Nat->Bool,∀i (b:base+i<arr.size),f i=Mf r left key arr[base+i]:=⟨λi=>if b:base+i<arr.size then Mf r left key arr[base+i] else L,λi b=>dif_pos b⟩
 have lt:∀i,i<n->base+i<arr.size:=λi b=>Zi (Ye b base) S;have y:∀i j,i<=j->j<n->f j=B->f i=B:=λi j Lo R e=>by
  have b2:=lt j R;have b1:=lt i (ZF Lo R);rw[p j b2]at e;rw[p i b1];exact t i j b1 b2 Lo R e
 have fin:∀k,k<=n->(∀i,i<k->f i=B)->(∀i,k<=i->i<n->f i=L)->Q (Z k) st:=λk h1 h2 h3 =>
  h k h1 (λi b Og=>by rw[← p i b];exact h2 i Og) λi b h4 h5=>by rw[← p i b];exact h3 i h4 h5
 clear h t S;change wpS (KB prog w) A E s (_>>=_) Q st;have U:=lt a v;refine ZW (mG C H M N U ?_);dsimp only;rw[← p _ U];cases X:f a with
 |true =>
  rw[Zr Y];refine ZW (XJ (YO
   (I:=λx c g=>st=g/\c.1=J/\f (a+c.2.1)=B/\c.2.1<c.2.2/\a+c.2.1<n/\x<c.2.2)
   (Q:=λc g=>st=g/\c.1=J/\f (a+c.2.1)=B/\c.2.1<c.2.2/\a+c.2.1<n/\(a+c.2.2<n->f (a+c.2.2)=L)) ?step1 ?fin1 ?init1) ?post1)
  case init1=>exact⟨rfl,rfl,X,Vp,v,Vp⟩
  case fin1 =>
   refine jW λP O u=>?_;rintro g ⟨rfl,e1,m,l,d,o⟩;exact⟨rfl,e1,m,l,d,λz=>absurd (ZF (YB _ _) z) (Nat.lt_asymm o)⟩
  case step1 =>
   intro x;refine jW λP O u=>?_;rintro g _ hx ⟨rfl,e1,m,l,d,o⟩;split
   ·rename_i q;exact ZX ⟨rfl,rfl,m,l,d,λz=>absurd z (ar7 q)⟩
   ·rename_i q;have F:=lt _ (ar6 q);refine ZW (mG C H M N F ?_);rw[← p _ F];cases e:f (a+u) with
    |true=>exact ZX ⟨rfl,rfl,e,ar9,ar6 q,ar8 o⟩
    |false=>exact ZX ⟨rfl,rfl,m,l,d,λ_=>e⟩
  case post1 =>
   refine jW λP O u=>?_;rintro g ⟨rfl,e1,m,l,d,o⟩;subst e1;refine zd C H M N lt p y fin (ar1 l d) (ar2 v) (λi b=>y i _ (YF b) d m) λi b D=>?_;cases e2:f i with
   |false=>rfl
   |true =>
    have q:=ar3 b D;rw[← o (ZF q D),y _ i q D e2]
 |false =>
  rw[Zq Zf];refine ZW (XJ (YO
   (I:=λx c g=>st=g/\c.1=J/\f (a-c.2.1)=L/\c.2.1<c.2.2/\c.2.1<=a/\x<c.2.2)
   (Q:=λc g=>st=g/\c.1=J/\f (a-c.2.1)=L/\c.2.1<c.2.2/\c.2.1<=a/\(c.2.2<=a->f (a-c.2.2)=B)) ?step1 ?fin1 ?init1) ?post1)
  case init1=>exact⟨rfl,rfl,X,Vp,ZE _,Vp⟩
  case fin1 =>
   refine jW λP O u=>?_;rintro g ⟨rfl,e1,m,l,d,o⟩;exact⟨rfl,e1,m,l,d,λz=>absurd (ZF z v) (Nat.lt_asymm o)⟩
  case step1 =>
   intro x;refine jW λP O u=>?_;rintro g _ hx ⟨rfl,e1,m,l,d,o⟩;split
   ·rename_i q;exact ZX ⟨rfl,rfl,m,l,d,λz=>absurd z (Nat.not_le_of_gt q)⟩
   ·rename_i q;have F:=lt _ (ZF (Yc a u) v);refine ZW (mG C H M N F ?_);rw[← p _ F];cases e:f (a-u) with
    |true=>exact ZX ⟨rfl,rfl,m,l,d,λ_=>e⟩
    |false=>exact ZX ⟨rfl,rfl,e,ar9,YF (Nat.lt_of_not_ge q),ar8 o⟩
  case post1 =>
   refine jW λP O u=>?_;rintro g ⟨rfl,e1,m,l,d,o⟩;subst e1;refine zd C H M N lt p y fin (ar4 l d) (ZU (Yc _ _) (ZO v)) (λi b=>?_) λi b D=>?_
   ·have q:=ar5 b;exact y i _ q.2 (ZF (Yc _ _) v) (o q.1)
   ·cases e2:f i with
    |false=>rfl
    |true=>rw[← m,y _ i b D e2]
end
end TS
end
section
open PySem PyProof.Rows
namespace TS
variable{κ:SortKind}
def JL.refl(C:JL prog w A E s κ G r)(h:G x):le r x x:=by
 unfold le;cases e:r x x with
 |false=>rfl
 |true=>exact absurd (C.Ro x x h h e) (by rw[e];exact λz=>nomatch z)
def JL.tr(C:JL prog w A E s κ G r)(d:G x)(b:G y)(a:G z)(f:le r x y)(e:le r y z):le r x z:=C.trans x y z d b a f e
def JL.J5(C:JL prog w A E s κ G r)(b:G x)(a:G y)(h:r x y=B):le r x y:=C.Ro x y b a h
def Seg(r:Pi->Pi->Bool)(a:Array Pi)(b d:Nat):Prop:=∀i j (f:i<a.size) (e:j<a.size),b<=i->i<=j->j<d->le r a[i] a[j]
def jA(C:JL prog w A E s κ G r)(y:kindOf o=κ)(m:G d)(u:∀x∈b,G x)(F:a+n<=b.size)(D:l<n)(v:Seg r b a (a+n))(h:∀k,k<=n->(∀i (f:i<b.size),a<=i->i<a+k->le r b[i] d)->(∀i (f:i<b.size),a+k<=i->i<a+n->le r d b[i])->Q (Z k) o) :
  wpS (KB prog w) A E s (uM left d b a n l) Q o:=by
 have g:∀i (f:i<b.size),G b[i]:=λi f=>u _ (ZY f);refine tM C y m u F D (λi j f p S z e=>?_) λk O N M=>h k O (λi f t H=>?_) λi f t H=>?_
 ·have q:=v (a+i) (a+j) f p (by exact Zd _ _) (by lia) (by lia);cases left with
  |true =>
   unfold Mf at e ⊢;rw[Zr Y]at e ⊢;cases e2:r b[a+i] d with
   |true=>rfl
   |false=>rw[C.tr m (g _ f) (g _ p) e2 q]at e;cases e
  |false =>
   unfold Mf at e ⊢;rw[Zq Zf]at e ⊢;have R:r d b[a+j]=L:=by simpa using e
   have:=C.tr (g _ f) (g _ p) m q R;rw[this];rfl
 ·have e:=N (i-a) (by lia) (by lia);simp only[(by exact V0 t)]at e;cases left with
  |true =>
   unfold Mf at e;rw[Zr Y]at e;exact C.J5 (g _ f) m e
  |false =>
   unfold Mf at e;rw[Zq Zf]at e;show r d b[i]=L;simpa using e
 ·have e:=M (i-a) (by lia) (by lia) (by omega);have P:a+(i-a)=i:=by lia
  simp only[P]at e;cases left with
  |true =>
   unfold Mf at e;rw[Zr Y]at e;exact e
  |false =>
   unfold Mf at e;rw[Zq Zf]at e;exact C.J5 m (g _ f) (by simpa using e)
def r9{a:Array Pi}(h:x∈a.toList.drop i):∃j,∃(d:j<a.size),i<=j/\a[j]=x:=by
 obtain⟨k,b,e⟩:=Yj h;rw[Z4]at b;rw[X4]at e;have:i+k<a.size:=by simpa using(by omega:i+k<a.toList.length)
 exact⟨i+k,this,by exact Zd _ _,by simpa using e⟩
def kR{a:Array Pi}(h:x∈(a.toList.drop i).take k):∃j,∃(d:j<a.size),i<=j/\j<i+k/\a[j]=x:=by
 obtain⟨m,b,e⟩:=Yj h;rw[Yp,Z4]at b;rw[X3,X4]at e;have:i+m<a.size:=by simpa using(by omega:i+m<a.toList.length)
 exact⟨i+m,this,by exact Zd _ _,by lia,by simpa using e⟩
def uO{a:Array Pi}(h:i<a.size):a.toList.drop i=a[i] :: a.toList.drop (i+1):=by
 have:i<a.toList.length:=by simpa using h
 rw[YG this];simp
def jo(h:Seg r a 0 a.size):a.toList.Pairwise (le r):=by
 rw[YH];intro i j d b e;simpa using h i j (by simpa using d) (by simpa using b) (ZE _) (by exact ZO e) (by simpa using b)
def xT(C:JL prog w A E s κ G r)(f:∀x∈a,G x)(h:a.toList.Pairwise (le r)):Seg r a 0 a.size:=by
 intro i j d e _ g _;rcases Vt i j with l | b
 ·have:=YH.mp h i j (by simpa using d) (by simpa using e) l;simpa using this
 ·have:i=j:=by exact YJ g b
  subst this;exact C.refl (f _ (ZY d))
structure MI(r:Pi->Pi->Bool)(a b out:Array Pi)(ia ib:Nat):Prop where
 pm:(out.toList++(a.toList.drop ia++b.toList.drop ib)).Perm (a.toList++b.toList)
 so:out.toList.Pairwise (le r)
 la:∀x∈out.toList,∀y∈a.toList.drop ia,le r x y
 lb:∀x∈out.toList,∀y∈b.toList.drop ib,le r x y
def MR(r:Pi->Pi->Bool)(a b d:Array Pi):Prop:=d.toList.Perm (a.toList++b.toList)/\d.toList.Pairwise (le r)
theorem MI.size{f:Nat}(m:MI r a b d f e)(h:f<=a.size)(g:e<=b.size):d.size+(a.size-f)+(b.size-e)=a.size+b.size:=by
 have:=m.pm.length_eq;simp at this;lia
def MI.LU{k:Nat}(m:MI r a b f d l)(p:Seg r a 0 a.size)(q:∀i (o:i<a.size),d<=i->i<d+k->∀j (n:j<b.size),l<=j->le r a[i] b[j]) :
  MI r a b (f++a.extract d (d+k)) (d+k) l:=by
 have e1:(f++a.extract d (d+k)).toList=f.toList++(a.toList.drop d).take k:=by
  simp[List.extract_eq_drop_take]
 have e2:a.toList.drop d=(a.toList.drop d).take k++a.toList.drop (d+k):=by
  rw[← List.drop_drop];exact(YR _ _).symm
 have h:(a.toList.drop d).Pairwise (le r):=(jo p).drop;rw[e2,ZG]at h;refine⟨?_,?_,?_,?_⟩
 ·rw[e1];have:=m.pm;rw[e2]at this;simpa[Ze] using this
 ·rw[e1,ZG];refine⟨m.so,h.1,λx e y g=>m.la x e y ?_⟩;exact Xa g
 ·rw[e1];intro x e y g;rcases Zj.mp e with e | e
  ·exact m.la x e y (by rw[e2];exact ZQ _ g)
  ·exact h.2.2 x e y g
 ·rw[e1];intro x e y g;rcases Zj.mp e with e | e
  ·exact m.lb x e y g
  ·obtain⟨i,o,v,u,rfl⟩:=kR e;obtain⟨j,n,t,rfl⟩:=r9 g;exact q i o v u j n t
def MI.swap(m:MI r a b d f e):MI r b a d e f :=
 ⟨((Y7.append_left _).trans m.pm).trans Y7,m.so,m.lb,m.la⟩
def MI.Pe(m:MI r a b e f d)(g:Seg r b 0 b.size)(h:∀i (n:i<b.size),d<=i->i<d+k->∀j (l:j<a.size),f<=j->le r b[i] a[j]) :
  MI r a b (e++b.extract d (d+k)) f (d+k):=(m.swap.LU g h).swap
def yG{a b:Array Pi}(h:i<a.size):b.push a[i]=b++a.extract i (i+1):=by
 apply Array.ext';have:(a.extract i (i+1)).toList=[a[i]]:=by
  have e:i<a.toList.length:=by simpa using h
  simp[List.extract_eq_drop_take,YG e]
 rw[YT,this,V7]
def MI.JV(m:MI r a b e d f)(l:Seg r a 0 a.size)(h:d<a.size)(n:∀j (g:j<b.size),f<=j->le r a[d] b[j]):MI r a b (e.push a[d]) (d+1) f:=by
 rw[yG h];refine m.LU l λi p t q j g o=>?_;have:i=d:=by lia
 subst this;exact n j g o
def MI.Kh(m:MI r a b d f e)(g:Seg r b 0 b.size)(h:e<b.size)(i:∀j (l:j<a.size),f<=j->le r b[e] a[j]):MI r a b (d.push b[e]) f (e+1):=(m.swap.JV g h i).swap
def mB{a:Array Pi}:(a.extract i a.size).toList=a.toList.drop i:=by
 rw[WR,List.extract_eq_drop_take,Yq (by simp)]
def MI.fin(m:MI r a b d g f)(n:Seg r a 0 a.size)(l:Seg r b 0 b.size)(h:g=a.size\/f=b.size):MR r a b (d++a.extract g a.size++b.extract f b.size):=by
 have e:(d++a.extract g a.size++b.extract f b.size).toList=d.toList++(a.toList.drop g++b.toList.drop f):=by
  rw[YT,YT,mB,mB,Ze]
 refine⟨by rw[e];exact m.pm,?_⟩;rw[e,ZG];refine⟨m.so,?_,λx j y i=>?_⟩
 ·rcases h with h | h
  ·rw[Y5 (by simp[h]),YA];exact(jo l).drop
  ·rw[Y5 (as:=b.toList) (by simp[h]),ZV];exact(jo n).drop
 ·rcases Zj.mp i with i | i
  ·exact m.la x j y i
  ·exact m.lb x j y i
def MI.last(m:MI r a b d f i)(o:Seg r b 0 b.size)(h:f+1=a.size)(p:∀j (n:j<b.size),le r b[j] a[f]):MR r a b (d++b.extract i b.size++a.extract f a.size):=by
 have e:(d++b.extract i b.size++a.extract f a.size).toList=d.toList++(b.toList.drop i++a.toList.drop f):=by
  rw[YT,YT,mB,mB,Ze]
 have e2:a.toList.drop f=[a[f]]:=by rw[uO (by omega),Y5 (by simp;lia)]
 refine⟨by rw[e];exact(Y7.append_left _).trans m.pm,?_⟩;rw[e,ZG];refine⟨m.so,?_,λx l y g=>?_⟩
 ·rw[ZG];refine⟨(jo o).drop,by rw[e2];exact Xs _ _,λx l y g=>?_⟩;rw[e2]at g;obtain⟨j,n,_,rfl⟩:=r9 l;rw[Zl.mp g];exact p j n
 ·rcases Zj.mp g with g | g
  ·exact m.lb x l y g
  ·exact m.la x l y g
end TS
end
section
open PySem PyProof.Rows
namespace TS
variable{κ:SortKind}
noncomputable def iN(a b:SC):Prop:=kindOf b=kindOf a/\arrOf b=arrOf a/\SZ b=SZ a/\failedOf b=failedOf a
noncomputable def oG:Nat->StateT SC Sem Unit:=sortPriv% PySem.Builtin.setMinGallop
def hV(e:iN d a)(h:∀b,iN d b->Q () b):wpS (KB prog w) A E s (oG g) Q a:=by
 exact WM (h _ e)
def gL(h:Q () a):wpS (KB prog w) A E s (liftM (rule t)) Q a:=wpS_lift (Wc ⟨rfl,h⟩)
def aN{α:Type}{c:Prop}[Decidable c]{x y:StateT SC Sem α}{Q:α->SC->Prop}(d:c->wpS (KB prog w) A E s x Q b)(e:¬c->wpS (KB prog w) A E s y Q b) :
  wpS (KB prog w) A E s (if c then x else y) Q b:=by
 by_cases a:c
 ·rw[Zr a];exact d a
 ·rw[Zq a];exact e a
def vk{prog:Re}{w:XAA}{A:SB}{E:Z9}{s:IR}{α:Type}{c:Nat->Prop}[∀n,Decidable (c n)]{d a:Nat->StateT SC Sem α}{Q:α->SC->Prop}{b:SC}(e:∀n,d n=a (n-1))(h:∀n,wpS (KB prog w) A E s (a n) Q b):∀n,wpS (KB prog w) A E s (if c n then d n else a n) Q b :=
 λn=>aN (λ_=>by rw[e];exact h _) λ_=>h n
def dm{prog:Re}{w:XAA}{A:SB}{E:Z9}{s:IR}{α:Type}{a:Array Pi}{i:Nat}{c:Pi->Prop}[∀v,Decidable (c v)]{x y:Pi->StateT SC Sem α}{Q:α->SC->Prop}{b:SC}(e:i<a.size)(d:c a[i]->wpS (KB prog w) A E s (x a[i]) Q b)(f:¬c a[i]->wpS (KB prog w) A E s (y a[i]) Q b) :
  wpS (KB prog w) A E s (elem' a i >>= λv=>if c v then x v else y v) Q b:=ZW (dP e (aN d f))
def z9{α:Type}{c d:Prop}[Decidable c][Decidable d]{x y z:StateT SC Sem α}{Q:α->SC->Prop}(g:c->wpS (KB prog w) A E s x Q a)(f:¬c->d->wpS (KB prog w) A E s y Q a)(b:¬c->¬d->wpS (KB prog w) A E s z Q a) :
  wpS (KB prog w) A E s (if c then x else if d then y else z) Q a:=aN g λe=>aN (f e) (b e)
def lF{α β:Type}{a:Array Pi}{m:Pi->StateT SC Sem β}{f:Pi->β->StateT SC Sem α}{Q:α->SC->Prop}(e:i<a.size)(h:wpS (KB prog w) A E s (m a[i]) (λv d=>wpS (KB prog w) A E s (f a[i] v) Q d) b) :
  wpS (KB prog w) A E s (elem' a i >>= λu=>m u >>= λv=>f u v) Q b:=ZW (dP e (ZW h))
structure MC(G:Pi->Prop)(r:Pi->Pi->Bool)(a b:Array Pi):Prop where
 ga:∀x∈a,G x
 gb:∀x∈b,G x
 sa:Seg r a 0 a.size
 sb:Seg r b 0 b.size
 na:0<a.size
 nb:0<b.size
 first:le r b[0] a[0]
 last:∀j (hj:j<b.size),le r b[j] a[a.size-1]
def MC.L5(M:MC G r a b)(f:i<a.size)(h:i+1=a.size):∀j (d:j<b.size),le r b[j] a[i]:=by
 intro j d;have:=M.last j d;have e:a.size-1=i:=by lia
 simpa[e] using this
def MC.bA(C:JL prog w A E s κ G r)(M:MC G r a b)(e:i<a.size)(f:j<b.size)(h:le r b[j] a[i]):∀k (d:k<a.size),i<=k->le r b[j] a[k]:=λk d g =>
 C.tr (M.gb _ (ZY f)) (M.ga _ (ZY e)) (M.ga _ (ZY d)) h (M.sa i k e d (ZE _) g d)
def MC.aB(C:JL prog w A E s κ G r)(M:MC G r a b)(f:i<a.size)(e:j<b.size)(h:le r a[i] b[j]):∀k (d:k<b.size),j<=k->le r a[i] b[k]:=λk d g =>
 C.tr (M.ga _ (ZY f)) (M.gb _ (ZY e)) (M.gb _ (ZY d)) h (M.sb j k e d (ZE _) g d)
def mq(h:Seg r a 0 a.size)(d e:Nat):Seg r a d e:=λi j g b m f l=>h i j g b (ZE _) f b
noncomputable abbrev LO(r:Pi->Pi->Bool)(a b:Array Pi)(x:Nat)(o:Array Pi)(i j:Nat):Prop:=MI r a b o i j/\i+1<a.size/\j<b.size/\x<o.size
abbrev LQ(d:SC)(r:Pi->Pi->Bool)(a b:Array Pi)(x:Nat)(c:Option (Array Pi))(o:Array Pi)(i j:Nat)(e:SC):Prop:=iN d e/\((∃res,c=Z res/\MR r a b res)\/(c=J/\LO r a b x o i j))
def mI{α β γ:Type}{c:α->β->Prop}{_:∀o i,Decidable (c o i)}{x F:α->β->StateT SC Sem γ}{Q:γ->SC->Prop}{b Ja d g e f:α->β->Prop}(P:α->β->Prop)(j:∀o i,P o i->wpS (KB prog w) A E s (F o i) Q a)(v:(∀o i,P o i->wpS (KB prog w) A E s (F o i) Q a)->∀o i,b o i->Ja o i->d o i->g o i->e o i->f o i->c o i->wpS (KB prog w) A E s (x o i) Q a)(h:∀o i,b o i->Ja o i->d o i->g o i->e o i->f o i->¬c o i->P o i) :
  ∀o i,b o i->Ja o i->d o i->g o i->e o i->f o i->wpS (KB prog w) A E s (if c o i then x o i else F o i) Q a :=
 λo i u t q p m l=>aN (v j o i u t q p m l) λn=>j o i (h o i u t q p m l n)
def FN(C:JL prog w A E s κ G r)(hk:kindOf z=κ)(M:MC G r a b)(h:∀res l,iN z l->MR r a b res->Q res l) :
  wpS (KB prog w) A E s (zI a b) Q z:=by
 have hna:=M.na;have hnb:=M.nb;change wpS (KB prog w) A E s (_>>=_) Q z;refine ZW (gL ?_);have m0:MI r a b #[] 0 0:=⟨by simp,by simp,by simp,by simp⟩
 have m1:=m0.Kh M.sb M.nb λj t _=>M.bA C M.na M.nb M.first j t (ZE _);have OH:iN z z:=⟨rfl,rfl,rfl,rfl⟩
 refine dm M.nb (λe=>?_) λe1=>?_
 ·exact ZX (h _ _ OH (m1.fin M.sa M.sb (.inr (by simpa using e))))
 refine aN (λe=>?_) λe2=>?_
 ·exact ZX (h _ _ OH (m1.last M.sb (by simpa using e) (M.L5 M.na (by simpa using e))))
 refine ZW (Vg ?_);refine ZW (XJ (YO
  (I:=λx c l=>iN z l/\c.1=J/\LO r a b x c.2.1 c.2.2.1 c.2.2.2.1)
  (Q:=λc l=>iN z l/\∃res,c.1=Z res/\MR r a b res) ?step ?fin ?init) ?post)
 case init=>exact⟨OH,rfl,m1,(by simp at e2;lia),(by simp at e1;lia),by simp⟩
 case fin =>
  refine wR λO out n q mg l d=>?_;have m:=d.2.2.1;have g:=d.2.2.2.1;have f:=d.2.2.2.2.1;have p:=d.2.2.2.2.2;clear d;have:=m.size (by lia) (by exact ZO f);lia
 case post =>
  refine wR λO out n q mg=>?_;rintro l ⟨kp,res,u,g⟩;subst u;exact ZX (h _ _ kp g)
 case step =>
  intro x;refine wR λO out n q mg l _ hx d=>?_;have kp:=d.1;have u:=d.2.1;have m:=d.2.2.1;have g:=d.2.2.2.1;have f:=d.2.2.2.2.1;have p:=d.2.2.2.2.2;clear d;refine ZW (XJ (YO
   (I:=λy c l=>iN z l/\c.1=J/\LO r a b (x+y) c.2.1 c.2.2.1 c.2.2.2.1)
   (Q:=λc l=>LQ z r a b (x+1) c.1 c.2.1 c.2.2.1 c.2.2.2.1 l) ?step2 ?fin2 ?init2) ?post2)
  case init2=>exact⟨kp,rfl,m,g,f,by simpa using p⟩
  case fin2 =>
   refine rH λO out n q ac bc l d=>?_;have kp:=d.1;have u:=d.2.1;have m:=d.2.2.1;have g:=d.2.2.2.1;have f:=d.2.2.2.2.1;have p:=d.2.2.2.2.2;clear d;exact⟨kp,.inr ⟨u,m,g,f,by(try dsimp only);lia⟩⟩
  case step2 =>
   intro y;refine rH λO out n q ac bc l _ hy d=>?_;have kp:=d.1;have m:=d.2.2.1;have g:=d.2.2.2.1;have f:=d.2.2.2.2.1;have p:=d.2.2.2.2.2;clear d;have U:n<a.size:=by exact Yg g
   have gA:=M.ga _ (ZY U);have gB:=M.gb _ (ZY f);refine lF f (dP U ?_);refine ZW (C.run _ _ _ _ (kp.1.trans hk) gB gA ?_);dsimp only;cases e:r b[q] a[n] with
   |true =>
    rw[Zr Y];have D:=m.Kh M.sb f (M.bA C U f (C.J5 gB gA e));refine dm f (λe3=>?_) λe3=>?_
    ·exact ZX ⟨kp,.inl ⟨_,rfl,D.fin M.sa M.sb (.inr (by simpa using e3))⟩⟩
    ·have Nc:q+1<b.size:=by lia
     refine aN (λ_=>?_) λ_=>?_
     ·exact ZX ⟨kp,.inr ⟨rfl,D,g,Nc,by simp;lia⟩⟩
     ·exact ZX ⟨kp,rfl,D,g,Nc,by simp;lia⟩
   |false =>
    rw[Zq Zf];have D:=m.JV M.sa U (M.aB C U f e);refine dm U (λe3=>?_) λe3=>?_
    ·exact ZX ⟨kp,.inl ⟨_,rfl,D.last M.sb (by simpa using e3) (M.L5 (by omega) (by simpa using e3))⟩⟩
    ·have Nc:n+1+1<a.size:=by lia
     refine aN (λ_=>?_) λ_=>?_
     ·exact ZX ⟨kp,.inr ⟨rfl,D,Nc,f,by simp;lia⟩⟩
     ·exact ZX ⟨kp,rfl,D,Nc,f,by simp;lia⟩
  case post2 =>
   refine rH λO out n q ac bc=>?_;rintro l ⟨kp,⟨res,u,g⟩ | ⟨u,m,g,f,p⟩⟩
   ·subst u;exact ZX ⟨kp,res,rfl,g⟩
   ·subst u;refine ZW (gL ?_);refine ZW (XJ (YO
     (I:=λy c l=>iN z l/\c.1=J/\LO r a b (x+1) c.2.1 c.2.2.1 c.2.2.2.1)
     (Q:=λc l=>LQ z r a b (x+1) c.1 c.2.1 c.2.2.1 c.2.2.2.1 l) ?step3 ?fin3 ?init3) ?post3)
    case init3=>exact⟨kp,rfl,m,g,f,p⟩
    case fin3 =>
     refine rH λO out n q ac bc l d=>?_;have kp:=d.1;have u:=d.2.1;have m:=d.2.2.1;have g:=d.2.2.2.1;have f:=d.2.2.2.2.1;have p:=d.2.2.2.2.2;clear d;exact⟨kp,.inr ⟨u,m,g,f,p⟩⟩
    case post3 =>
     refine Bn λO out n q mg ac bc=>?_;rintro l ⟨kp,⟨res,u,g⟩ | ⟨u,m,g,f,p⟩⟩
     ·subst u;exact ZX ⟨kp,res,rfl,g⟩
     ·subst u;exact ZW (hV kp λJM v=>ZX ⟨v,rfl,m,g,f,p⟩)
    case step3 =>
     intro y;refine Bn λO out n q mg ac bc l _ hy d=>?_;have kp:=d.1;have m:=d.2.2.1;have g:=d.2.2.2.1;have f:=d.2.2.2.2.1;have p:=d.2.2.2.2.2;clear d;dsimp only at *;revert mg;refine vk (λ_=>rfl) λmg2=>?_;refine(λhF=>ZW (hV kp λJM v=>hF JM v)) λJM v=>?_;have gB:=M.gb _ (ZY f);refine lF f (jA C (v.1.trans hk) gB M.ga (by lia) (by exact WB (by exact Yg g)) (mq M.sa _ _) λk L9 KP X=>?_);revert out n;refine mI (λo i=>MI r a b o i q/\i+1<a.size/\x+1<o.size/\∀j t,i<=j->le r b[q] (a[j]'t)) (λout n d=>?_) (λtail out n m g p L9 KP X e5=>?_) λout n m g p L9 KP X e5=>⟨m,g,p,λj t h=>X j t (by lia) (by lia)⟩
     ·refine L2.ai λP_ k_=>?_;obtain⟨m,g,p,X⟩:=d;refine k_ ?_;have JI:n<a.size:=Yg g;have P:=m.Kh M.sb f X;refine dm f (λe4=>?_) λe4=>?_
      ·exact ZX ⟨v,.inl ⟨_,rfl,P.fin M.sa M.sb (.inr (by simpa using e4))⟩⟩
      have MN:q+1<b.size:=by lia
      have S:x+1<(out.push b[q]).size/\q+1<=q+1:=by rw[Vl];exact⟨Yl p,Zn _⟩
      refine lF JI (jA C (v.1.trans hk) (M.ga _ (ZY JI)) M.gb (by lia) (by exact WB MN) (mq M.sb _ _) λk2 M8 Jk R=>?_);generalize out.push b[q]=o1 at P S ⊢;generalize q+1=j1 at S P MN M8 Jk R ⊢;revert o1 j1;refine mI (λo j=>MI r a b o n j/\j<b.size/\x+1<o.size/\∀i F,j<=i->le r a[n] (b[i]'F)) (λout q d=>?_) (λtail o1 j1 S P MN M8 Jk R e5=>?_) λo1 j1 S P MN M8 Jk R e5=>⟨P,MN,S.1,λi F h=>R i F (by lia) (by lia)⟩
      ·refine L2.ai λP_ k_=>?_;obtain⟨m,f,p,R⟩:=d;refine k_ ?_;have m5:=m.JV M.sa JI R;refine dm JI (λN=>?_) λN=>?_
       ·exact ZX ⟨v,.inl ⟨_,rfl,m5.last M.sb (by simpa using N) (M.L5 (by omega) (by simpa using N))⟩⟩
       have e8:n+1+1<a.size:=by simp at N;lia
       have q6:x+1<(out.push a[n]).size:=by rw[Vl];exact Yl p
       exact aN (λ_=>ZX ⟨v,.inr ⟨rfl,m5,e8,f,q6⟩⟩) λ_=>ZX ⟨v,rfl,m5,e8,f,q6⟩
      ·have m4:=P.Pe M.sb (λi F h1 h2 j t h3=>C.tr (M.gb _ (ZY F)) (M.ga _ (ZY JI)) (M.ga _ (ZY t)) (Jk i F h1 h2) (M.sa _ j JI t (ZE _) h3 t));refine aN (λH=>?_) λH=>?_
       ·exact ZX ⟨v,.inl ⟨_,rfl,m4.fin M.sa M.sb (.inr (by simpa using H))⟩⟩
       ·exact tail _ _ ⟨m4,by simp at H;lia,by rw[W3];exact Zi S.1 (Zd _ _),λi F h=>R i F h (by lia)⟩
     ·have D:=m.LU (k:=k) M.sa (λi F h1 h2 j t h3=>C.tr (M.ga _ (ZY F)) gB (M.gb _ (ZY t)) (KP i F h1 h2) (M.sb _ j f t (ZE _) h3 t));refine z9 (λH=>?_) (λH N=>?_) λH N=>?_
      ·exact ZX ⟨v,.inl ⟨_,rfl,D.last M.sb (by simpa using H) (M.L5 (by lia) (by simpa using H))⟩⟩
      ·exact ZX ⟨v,.inl ⟨_,rfl,D.fin M.sa M.sb (.inl (by simpa using N))⟩⟩
      ·exact tail _ _ ⟨D,by simp at H N;lia,by rw[W3];exact Zi p (Zd _ _),λj t h=>X j t h (by lia)⟩
end TS
end
section
open PySem PyProof.Rows
namespace TS
variable{κ:SortKind}
def xF{a:Array Pi}(h:x∈a.toList.take n):∃j,∃(d:j<a.size),j<n/\a[j]=x:=by
 obtain⟨m,b,e⟩:=Yj h;rw[Yp]at b;rw[X3]at e;have:m<a.size:=by simpa using(by lia:m<a.toList.length)
 exact⟨m,this,by lia,by simpa using e⟩
structure HI(r:Pi->Pi->Bool)(a b out:Array Pi)(na nb:Nat):Prop where
 pm:(a.toList.take na++(b.toList.take nb++out.toList.reverse)).Perm (a.toList++b.toList)
 so:out.toList.reverse.Pairwise (le r)
 la:∀x∈out.toList,∀y∈a.toList.take na,le r y x
 lb:∀x∈out.toList,∀y∈b.toList.take nb,le r y x
theorem HI.size{f:Nat}(m:HI r a b d f e)(h:f<=a.size)(g:e<=b.size):d.size+f+e=a.size+b.size:=by
 have:=m.pm.length_eq;simp at this;lia
def HI.LU{k:Nat}(m:HI r a b e f n)(q:Seg r a 0 a.size)(u:k<=f)(t:∀i (p:i<a.size),k<=i->i<f->∀j (o:j<b.size),j<n->le r b[j] a[i]) :
  HI r a b (e++(a.extract k f).reverse) k n:=by
 have e1:(e++(a.extract k f).reverse).toList.reverse=(a.toList.drop k).take (f-k)++e.toList.reverse:=by
  simp[List.extract_eq_drop_take]
 have e2:a.toList.take f=a.toList.take k++(a.toList.drop k).take (f-k):=by
  rw[← YR k (a.toList.take f),List.take_take,List.drop_take,Yd u]
 have l:(a.toList.take f).Pairwise (le r):=(jo q).take;rw[e2,ZG]at l;have mem:∀x,x∈(e++(a.extract k f).reverse).toList->x∈e.toList\/x∈(a.toList.drop k).take (f-k):=λx d=>by
  have:=XR.mpr d;rw[e1]at this;rcases Zj.mp this with h | h
  ·exact .inr h
  ·exact .inl (XR.mp h)
 refine⟨?_,?_,?_,?_⟩
 ·rw[e1];have:=m.pm;rw[e2]at this;refine List.Perm.trans ?_ this;rw[Ze];refine List.Perm.append_left _ ?_;rw[← Ze,← Ze];exact List.Perm.append_right _ Y7
 ·rw[e1,ZG];refine⟨l.2.1,m.so,λx d y g=>m.la y (XR.mp g) x ?_⟩;rw[e2];exact ZQ _ d
 ·intro x d y g;rcases mem x d with d | d
  ·exact m.la x d y (by rw[e2];exact Z8 _ g)
  ·exact l.2.2 y g x d
 ·intro x d y g;rcases mem x d with d | d
  ·exact m.lb x d y g
  ·obtain⟨i,p,z,C,rfl⟩:=kR d;obtain⟨j,o,v,rfl⟩:=xF g;exact t i p z (by lia) j o v
def HI.swap(m:HI r a b d f e):HI r b a d e f:=by
 refine⟨?_,m.so,m.lb,m.la⟩;refine List.Perm.trans ?_ (m.pm.trans Y7);rw[← Ze,← Ze];exact List.Perm.append_right _ Y7
def HI.Pe(m:HI r a b d f e)(g:Seg r b 0 b.size)(l:k<=e)(h:∀i (o:i<b.size),k<=i->i<e->∀j (n:j<a.size),j<f->le r a[j] b[i]) :
  HI r a b (d++(b.extract k e).reverse) f k:=(m.swap.LU g l h).swap
def xx{a b:Array Pi}(h:i<a.size):b.push a[i]=b++(a.extract i (i+1)).reverse:=by
 apply Array.ext';have:(a.extract i (i+1)).toList=[a[i]]:=by
  have e:i<a.toList.length:=by simpa using h
  simp[List.extract_eq_drop_take,YG e]
 rw[YT,Va,this,V7];rfl
def HI.JV(m:HI r a b f d g)(n:Seg r a 0 a.size)(v:0<d)(h:d-1<a.size)(o:∀j (l:j<b.size),j<g->le r b[j] a[d-1]):HI r a b (f.push a[d-1]) (d-1) g:=by
 rw[xx h];have e:d-1+1=d:=by lia
 rw[e];refine m.LU n (by exact Yc _ _) λi q u t j l p=>?_;have:i=d-1:=by lia
 subst this;exact o j l p
def HI.Kh(m:HI r a b e f d)(g:Seg r b 0 b.size)(l:0<d)(h:d-1<b.size)(i:∀j (n:j<a.size),j<f->le r a[j] b[d-1]):HI r a b (e.push b[d-1]) f (d-1):=(m.swap.JV g l h i).swap
def Bb{a:Array Pi}:(a.extract 0 n).toList=a.toList.take n:=by
 rw[WR,List.extract_eq_drop_take,Wf,Nat.sub_zero]
def HI.fin(m:HI r a b d g f)(n:Seg r a 0 a.size)(l:Seg r b 0 b.size)(h:g=0\/f=0):MR r a b (a.extract 0 g++b.extract 0 f++d.reverse):=by
 have e:(a.extract 0 g++b.extract 0 f++d.reverse).toList=a.toList.take g++(b.toList.take f++d.toList.reverse):=by
  rw[YT,YT,Bb,Bb,Ze,Va]
 refine⟨by rw[e];exact m.pm,?_⟩;rw[e,← Ze,ZG];refine⟨?_,m.so,λx i y j=>?_⟩
 ·rcases h with h | h
  ·subst h;rw[Ve,YA];exact(jo l).take
  ·subst h;rw[Ve,ZV];exact(jo n).take
 ·rcases Zj.mp i with i | i
  ·exact m.la y (XR.mp j) x i
  ·exact m.lb y (XR.mp j) x i
def HI.first(m:HI r a b d i g)(o:Seg r a 0 a.size)(h:g=1)(q:0<b.size)(p:∀j (n:j<a.size),le r b[0] a[j]):MR r a b (b.extract 0 g++a.extract 0 i++d.reverse):=by
 have e:(b.extract 0 g++a.extract 0 i++d.reverse).toList=b.toList.take g++(a.toList.take i++d.toList.reverse):=by
  rw[YT,YT,Bb,Bb,Ze,Va]
 have e2:b.toList.take g=[b[0]]:=by
  subst h;have:=uO q;rw[Wf]at this;rw[this];rfl
 refine⟨?_,?_⟩
 ·rw[e];exact m.swap.pm.trans Y7
 rw[e,← Ze,ZG];refine⟨?_,m.so,λx f y l=>?_⟩
 ·rw[ZG];refine⟨by rw[e2];exact Xs _ _,(jo o).take,λx f y l=>?_⟩;rw[e2]at f;obtain⟨j,n,_,rfl⟩:=xF l;rw[Zl.mp f];exact p j n
 ·rcases Zj.mp f with f | f
  ·exact m.lb y (XR.mp l) x f
  ·exact m.la y (XR.mp l) x f
def MC.Kw(C:JL prog w A E s κ G r)(M:MC G r a b):∀j (d:j<a.size),le r (b[0]'M.nb) a[j]:=λj d=>M.bA C M.na M.nb M.first j d (ZE _)
def FY(C:JL prog w A E s κ G r)(hk:kindOf H=κ)(M:MC G r a b)(h:∀res l,iN H l->MR r a b res->Q res l) :
  wpS (KB prog w) A E s (yM a b) Q H:=by
 have hna:=M.na;have hnb:=M.nb;change wpS (KB prog w) A E s (_>>=_) Q H;have X:a.size-1<a.size:=by omega
 refine ZW (gL ?_);have m0:HI r a b #[] a.size b.size:=⟨by simp[Yq],by simp,by simp,by simp⟩
 have m1:=m0.JV M.sa hna X λj g _=>M.last j g;have OH:iN H H:=⟨rfl,rfl,rfl,rfl⟩
 refine dm X (λe=>?_) λe1=>?_
 ·exact ZX (h _ _ OH (m1.fin M.sa M.sb (.inl (by simpa using e))))
 refine aN (λe=>?_) λe2=>?_
 ·exact ZX (h _ _ OH (m1.first M.sa (by simpa using e) M.nb (M.Kw C)))
 refine ZW (Vg ?_);refine ZW (XJ (YO
  (I:=λx c l=>iN H l/\c.1=J/\HI r a b c.2.2.2.1 c.2.1 c.2.2.1/\0<c.2.1/\c.2.1<=a.size/\1<c.2.2.1/\c.2.2.1<=b.size/\x<c.2.2.2.1.size)
  (Q:=λc l=>iN H l/\∃res,c.1=Z res/\MR r a b res) ?step ?fin ?init) ?post)
 case init=>exact⟨OH,rfl,m1,(by simp at e1;exact YZ e1),by(try dsimp only);exact Yc _ _,(by simp at e2;lia),Zn _,by simp⟩
 case fin =>
  refine wR λP na nb out mg l d=>?_;have m:=d.2.2.1;have v:=d.2.2.2.2.1;have u:=d.2.2.2.2.2.2.1;have q:=d.2.2.2.2.2.2.2;clear d;have:=m.size (by omega) (by omega);lia
 case post =>
  refine wR λP na nb out mg=>?_;rintro l ⟨kp,res,D,p⟩;subst D;exact ZX (h _ _ kp p)
 case step =>
  intro x;refine wR λP na nb out mg l _ hx d=>?_;have kp:=d.1;have D:=d.2.1;have m:=d.2.2.1;have p:=d.2.2.2.1;have v:=d.2.2.2.2.1;have f:=d.2.2.2.2.2.1;have u:=d.2.2.2.2.2.2.1;have q:=d.2.2.2.2.2.2.2;clear d;refine ZW (XJ (YO
   (I:=λy c l=>iN H l/\c.1=J/\HI r a b c.2.2.2.1 c.2.1 c.2.2.1/\0<c.2.1/\c.2.1<=a.size/\1<c.2.2.1/\c.2.2.1<=b.size/\x+y<c.2.2.2.1.size)
   (Q:=λc l=>iN H l/\((∃res,c.1=Z res/\MR r a b res)\/(c.1=J/\HI r a b c.2.2.2.1 c.2.1 c.2.2.1/\0<c.2.1/\c.2.1<=a.size/\1<c.2.2.1/\c.2.2.1<=b.size/\x+1<c.2.2.2.1.size))) ?step2 ?fin2 ?init2) ?post2)
  case init2=>exact⟨kp,rfl,m,p,v,f,u,by simpa using q⟩
  case fin2 =>
   refine rH λP na nb out ac bc l d=>?_;have kp:=d.1;have D:=d.2.1;have m:=d.2.2.1;have p:=d.2.2.2.1;have v:=d.2.2.2.2.1;have f:=d.2.2.2.2.2.1;have u:=d.2.2.2.2.2.2.1;have q:=d.2.2.2.2.2.2.2;clear d;exact⟨kp,.inr ⟨D,m,p,v,f,u,by(try dsimp only);lia⟩⟩
  case step2 =>
   intro y;refine rH λP na nb out ac bc l _ hy d=>?_;have kp:=d.1;have m:=d.2.2.1;have p:=d.2.2.2.1;have v:=d.2.2.2.2.1;have f:=d.2.2.2.2.2.1;have u:=d.2.2.2.2.2.2.1;have q:=d.2.2.2.2.2.2.2;clear d;have t:na-1<a.size:=by lia
   have z:nb-1<b.size:=by lia
   have gA:=M.ga _ (ZY t);have S:=M.gb _ (ZY z);refine lF z (dP t ?_);refine ZW (C.run _ _ _ _ (kp.1.trans hk) S gA ?_);dsimp only;cases e:r b[nb-1] a[na-1] with
   |true =>
    rw[Zr Y];have N:=m.JV M.sa p t (λj g hjn=>C.tr (M.gb _ (ZY g)) S gA (M.sb j _ g z (ZE _) (by lia) z) (C.J5 S gA e));refine dm t (λe3=>?_) λe3=>?_
    ·exact ZX ⟨kp,.inl ⟨_,rfl,N.fin M.sa M.sb (.inl (by simpa using e3))⟩⟩
    ·have Nc:0<na-1:=by simp at e3;exact YZ e3
     refine aN (λ_=>?_) λ_=>?_
     ·exact ZX ⟨kp,.inr ⟨rfl,N,Nc,by(try dsimp only);exact ZO t,f,u,by simp;lia⟩⟩
     ·exact ZX ⟨kp,rfl,N,Nc,by(try dsimp only);exact ZO t,f,u,by simp;lia⟩
   |false =>
    rw[Zq Zf];have N:=m.Kh M.sb (by exact Yg f) z (λj g hjn=>C.tr (M.ga _ (ZY g)) gA S (M.sa j _ g t (ZE _) (by lia) t) e);refine dm z (λe3=>?_) λe3=>?_
    ·exact ZX ⟨kp,.inl ⟨_,rfl,N.first M.sa (by simpa using e3) M.nb (M.Kw C)⟩⟩
    ·have Nc:1<nb-1:=by lia
     refine aN (λ_=>?_) λ_=>?_
     ·exact ZX ⟨kp,.inr ⟨rfl,N,p,v,Nc,by(try dsimp only);exact ZO z,by simp;lia⟩⟩
     ·exact ZX ⟨kp,rfl,N,p,v,Nc,by(try dsimp only);exact ZO z,by simp;lia⟩
  case post2 =>
   refine rH λP na nb out ac bc=>?_;rintro l ⟨kp,⟨res,D,p⟩ | ⟨D,m,p,v,f,u,q⟩⟩
   ·subst D;exact ZX ⟨kp,res,rfl,p⟩
   ·subst D;refine ZW (gL ?_);refine ZW (XJ (YO
     (I:=λy c l=>iN H l/\c.1=J/\HI r a b c.2.2.2.1 c.2.1 c.2.2.1/\0<c.2.1/\c.2.1<=a.size/\1<c.2.2.1/\c.2.2.1<=b.size/\x+1<c.2.2.2.1.size)
     (Q:=λc l=>iN H l/\((∃res,c.1=Z res/\MR r a b res)\/(c.1=J/\HI r a b c.2.2.2.1 c.2.1 c.2.2.1/\0<c.2.1/\c.2.1<=a.size/\1<c.2.2.1/\c.2.2.1<=b.size/\x+1<c.2.2.2.1.size))) ?step3 ?fin3 ?init3) ?post3)
    case init3=>exact⟨kp,rfl,m,p,v,f,u,q⟩
    case fin3 =>
     refine rH λP na nb out ac bc l d=>?_;have kp:=d.1;have D:=d.2.1;have m:=d.2.2.1;have p:=d.2.2.2.1;have v:=d.2.2.2.2.1;have f:=d.2.2.2.2.2.1;have u:=d.2.2.2.2.2.2.1;have q:=d.2.2.2.2.2.2.2;clear d;exact⟨kp,.inr ⟨D,m,p,v,f,u,q⟩⟩
    case post3 =>
     refine Bn λP na nb out mg ac bc=>?_;rintro l ⟨kp,⟨res,D,p⟩ | ⟨D,m,p,v,f,u,q⟩⟩
     ·subst D;exact ZX ⟨kp,res,rfl,p⟩
     ·subst D;exact ZW (hV kp λJM F=>ZX ⟨F,rfl,m,p,v,f,u,q⟩)
    case step3 =>
     intro y;refine Bn λP na nb out mg ac bc l _ hy d=>?_;have kp:=d.1;have m:=d.2.2.1;have p:=d.2.2.2.1;have v:=d.2.2.2.2.1;have f:=d.2.2.2.2.2.1;have u:=d.2.2.2.2.2.2.1;have q:=d.2.2.2.2.2.2.2;clear d;dsimp only at *;revert mg;refine vk (λ_=>rfl) λmg2=>?_;refine(λhF=>ZW (hV kp λJM F=>hF JM F)) λJM F=>?_;have hB0:0<nb:=by exact Yg f
     have z:nb-1<b.size:=by lia
     have S:=M.gb _ (ZY z);refine lF z (jA C (F.1.trans hk) S M.ga (by lia) (by lia) (mq M.sa _ _) λk L9 KP MJ=>?_);have hw:=And.intro p v;clear p v;dsimp only;generalize Pw:na-k=a1;revert na out;refine mI (λna out=>HI r a b out na nb/\(0<na/\na<=a.size)/\x+1<out.size/\∀j g,j<na->le r (a[j]'g) b[nb-1]) (λna out d=>?_) (λtail na out m q L9 MJ hw Pw e5=>?_) λna out m q L9 MJ hw Pw e5=>⟨m,hw,q,λj g h=>KP j g (ZE _) (by lia)⟩
     ·refine L2.ai λP_ k_=>?_;obtain⟨m,⟨hA0,v⟩,q,KP⟩:=d;refine k_ ?_;have t:na-1<a.size:=by lia
      have R:=m.Kh M.sb hB0 z KP;refine dm z (λe4=>?_) λe4=>?_
      ·exact ZX ⟨F,.inl ⟨_,rfl,R.first M.sa (by simpa using e4) M.nb (M.Kw C)⟩⟩
      have MN:1<nb-1/\nb-1<=b.size:=by lia
      have f:x+1<(out.push b[nb-1]).size/\nb-1<=nb-1:=by rw[Vl];exact⟨Yl q,Zn _⟩
      refine lF t (jA C (F.1.trans hk) (M.ga _ (ZY t)) M.gb (by lia) (by lia) (mq M.sb _ _) λk2 M8 Jk JH=>?_);dsimp only;generalize out.push b[nb-1]=o1 at R f ⊢;generalize nb-1=n1 at f R MN M8 JH ⊢;generalize QR:n1-k2=b1;revert o1 n1;refine mI (λo n=>HI r a b o na n/\(1<n/\n<=b.size)/\x+1<o.size/\∀j g,j<n->le r (b[j]'g) a[na-1]) (λout nb d=>?_) (λtail o1 n1 f R MN M8 JH QR e5=>?_) λo1 n1 f R MN M8 JH QR e5=>⟨R,MN,f.1,λj g h=>Jk j g (ZE _) (by lia)⟩
      ·refine L2.ai λP_ k_=>?_;obtain⟨m,⟨f,u⟩,q,Jk⟩:=d;refine k_ ?_;have m5:=m.JV M.sa hA0 t Jk;refine dm t (λO=>?_) λO=>?_
       ·exact ZX ⟨F,.inl ⟨_,rfl,m5.fin M.sa M.sb (.inl (by simpa using O))⟩⟩
       have U:0<na-1:=by simp at O;exact YZ O
       have q7:x+1<(out.push a[na-1]).size:=by rw[Vl];exact Yl q
       exact aN (λ_=>ZX ⟨F,.inr ⟨rfl,m5,U,ZO t,f,u,q7⟩⟩) λ_=>ZX ⟨F,rfl,m5,U,ZO t,f,u,q7⟩
      ·have m4:=R.Pe M.sb (by omega) (λi hi h1 h2 j g h3=>C.tr (M.ga _ (ZY g)) (M.ga _ (ZY t)) (M.gb _ (ZY hi)) (M.sa j _ g t (ZE _) (by lia) t) (JH i hi (by lia) (by lia)));refine aN (λe6=>?_) λe6=>?_
       ·exact ZX ⟨F,.inl ⟨_,rfl,m4.first M.sa (by simpa using e6) M.nb (M.Kw C)⟩⟩
       refine aN (λU=>?_) λU=>?_
       ·exact ZX ⟨F,.inl ⟨_,rfl,m4.fin M.sa M.sb (.inr (by simpa using U))⟩⟩
       ·exact tail _ _ ⟨m4,by simp at e6 U;lia,by rw[W3];exact Zi f.1 (Zd _ _),λj g h=>Jk j g (ZE _) (by lia)⟩
     ·have N:=m.LU (k:=k) M.sa (by omega) (λi hi h1 h2 j g h3=>C.tr (M.gb _ (ZY g)) S (M.ga _ (ZY hi)) (M.sb j _ g z (ZE _) (by lia) z) (MJ i hi (by lia) (by lia)));refine aN (λO=>?_) λO=>?_
      ·exact ZX ⟨F,.inl ⟨_,rfl,N.fin M.sa M.sb (.inl (by simpa using O))⟩⟩
      ·exact tail _ _ ⟨N,by simp at O;lia,by rw[W3];exact Zi q (Zd _ _),λj g h=>KP j g (ZE _) (by lia)⟩
end TS
end
section
open PySem PyProof.Rows
namespace TS
variable{κ:SortKind}
noncomputable def K(a:Array Pi)(i:Nat):Keyed:=(a[i]?).getD (.none,.none)
def xq{a:Array Pi}(h:i<a.size):K a i=a[i]:=by unfold K;rw[getElem?_pos a i h];rfl
def Sg(r:Pi->Pi->Bool)(a:Array Pi)(b d:Nat):Prop:=∀i j,b<=i->i<=j->j<d->le r (K a i) (K a j)
def Ds(r:Pi->Pi->Bool)(a:Array Pi)(b d:Nat):Prop:=∀i j,b<=i->i<=j->j<d->le r (K a j) (K a i)
def lT{a:Array Pi}(b:j<=a.size)(k:Nat):K (mirror a i j ((j-i)/2)) k=if i<=k/\k<j then K a (i+j-1-k) else K a k:=by
 unfold K;rw[getElem?_mirror_all b];split<;>rfl
def CZ{b:Array Pi}(e:a<b.size)(f:d<=a)(k:Nat):K (bubble b a d) k=if k=a-d then K b a else if a-d<k/\k<=a then K b (k-1) else K b k:=by
 unfold K;rw[getElem?_bubble e d f];split
 ·rfl
 ·split<;>rfl
structure Lc(lo:Nat)(Jq st:SC):Prop where
 kind:kindOf st=kindOf Jq
 pend:SZ st=SZ Jq
 fail:failedOf st=failedOf Jq
 perm:(arrOf st).Perm (arrOf Jq)
 pre:∀j,j<lo->(arrOf st)[j]?=(arrOf Jq)[j]?
theorem Lc.refl(b:Nat)(a:SC):Lc b a a:=⟨rfl,rfl,rfl,Array.Perm.refl _,λ_ _=>rfl⟩
theorem Lc.size(L:Lc d b a):(arrOf a).size=(arrOf b).size:=L.perm.size_eq
def Lc.good{G:Pi->Prop}{e:Nat}{b a:SC}(L:Lc e b a)(g:∀x∈arrOf b,G x){i:Nat}(d:i<(arrOf b).size):G (K (arrOf a) i):=by
 rw[xq (by rw[L.size];exact d)];refine g _ ?_;have:(arrOf a)[i]'(by rw[L.size];exact d)∈(arrOf a).toList:=by simp
 have:=(Xg.mp L.perm).mem_iff.mp this;simpa using this
def Lc.arr(L:Lc d f a){b:Array Pi}(h:b.Perm (arrOf a))(g:∀j,j<d->b[j]?=(arrOf a)[j]?):Lc d f (setArr a b) :=
 ⟨L.kind,L.pend,L.fail,h.trans L.perm,λj e=>(g j e).trans (L.pre j e)⟩
def Lc.N9(L:Lc b d a){i j:Nat}(g:b<=i)(e:j<=(arrOf d).size):Lc b d (setArr a (mirror (arrOf a) i j ((j-i)/2))) :=
 L.arr (mirror_perm _ _ _ _) λk f=>by rw[getElem?_mirror_all (by rw[L.size];exact e),Zq (by lia)]
def kX(C:JL prog w A E s κ G r)(p:kindOf b=κ)(g:∀x∈arrOf b,G x)(L:Lc o b a)(e:i<(arrOf b).size)(d:j<(arrOf b).size)(h:Q (Z (r (K (arrOf a) i) (K (arrOf a) j))) a):wpS (KB prog w) A E s (ltAt' i j) Q a:=by
 have l:=L.good g e;have f:=L.good g d;have m:i<(arrOf a).size:=by rw[L.size];exact e
 have n:j<(arrOf a).size:=by rw[L.size];exact d
 rw[ltAt'_eq];refine ZW (Vg ?_);refine ZW (dP m (ZW (dP n ?_)));rw[xq m]at l h;rw[xq n]at f h;exact C.run a _ _ _ (L.kind.trans p) l f h
def Ds.N9(C:JL prog w A E s κ G r){i:Nat}(D:Ds r f g e)(h:∀k,k<e->G (K f k))(o:g<=i)(l:e<=f.size)(n:∀k,i<=k->k<e->le r (K f k) (K f (e-1))) :
  Ds r (mirror f i e ((e-i)/2)) g e:=λp q j t m=>by
 rw[lT l,lT l];split
 ·split
  ·exact(λu v a b c d=>C.tr (h u b) (h _ (by lia)) (h v d) (n u a b) (D v (e-1) (by exact ZU o c) (by lia) (by lia))) _ _ (by omega) (by omega) (by lia) (by omega)
  ·exact D p _ j (by lia) (by omega)
 ·split
  ·lia
  ·exact D p q j t m
def mi1(h:1<=b):a+b-1-(b-1)=a:=by rw[WA h,Wo]
def Ds.rev(D:Ds r e b a)(f:a<=e.size):Sg r (mirror e b a ((a-b)/2)) b a:=λp q h d g=>by
 rw[lT f,lT f,Zr ⟨h,by exact ZF d g⟩,Zr ⟨by exact ZU h d,g⟩];exact D _ _ (by omega) (VW d _) (by(clear d f;omega))
def Sg.snoc(C:JL prog w A E s κ G r)(S:Sg r b a (a+n))(d:∀k,k<=a+n->G (K b k))(m:1<=n)(h:le r (K b (a+n-1)) (K b (a+n))):Sg r b a (a+n+1):=λi j f g l=>by
 by_cases e:j<a+n
 ·exact S i j f g e
 ·have:j=a+n:=by lia
  subst this;by_cases e2:i=a+n
  ·subst e2;exact C.refl (d _ (Zn _))
  ·exact C.tr (d i (by omega)) (d _ (by exact Yc _ _)) (d _ (Zn _)) (S i (a+n-1) f (by lia) (by omega)) h
def Ds.snoc(C:JL prog w A E s κ G r)(S:Ds r b a (a+n))(d:∀k,k<=a+n->G (K b k))(m:1<=n)(h:le r (K b (a+n)) (K b (a+n-1))):Ds r b a (a+n+1):=λi j f g l=>by
 by_cases e:j<a+n
 ·exact S i j f g e
 ·have:j=a+n:=by lia
  subst this;by_cases e2:i=a+n
  ·subst e2;exact C.refl (d _ (Zn _))
  ·exact C.tr (d _ (Zn _)) (d _ (by exact Yc _ _)) (d i (by omega)) h (S i (a+n-1) f (by lia) (by omega))
def mN{i j:Nat}(h:Q () (setArr a (mirror (arrOf a) i j ((j-i)/2)))):wpS (KB prog w) A E s (reverseSlice' i j) Q a:=by
 rw[reverseSlice'_eq];exact WM h
def rO{α:Type}{c:Prop}[Decidable c]{x Rq:StateT SC Sem α}{Q:α->SC->Prop}{P:SC->Prop}(D:∀a,P a->wpS (KB prog w) A E s Rq Q a)(d:¬c->P b)(e:c->(∀a,P a->wpS (KB prog w) A E s Rq Q a)->wpS (KB prog w) A E s x Q b):wpS (KB prog w) A E s (if c then x else Rq) Q b :=
 aN (λz=>e z D) λz=>D b (d z)
def Fu(C:JL prog w A E s κ G r)(l:kindOf u=κ)(g:∀x∈arrOf u,G x)(h0:1<=n)(hn:a+n<=(arrOf u).size)(h:∀m b,Lc a u b->1<=m->m<=n->Sg r (arrOf b) a (a+m)->Q (Z m) b):wpS (KB prog w) A E s (countRun' a n) Q u:=by
 change wpS (KB prog w) A E s (_>>=_) Q u;have L0:=Lc.refl a u;have n01:1<=1:=Zn _;have s0:Sg r (arrOf u) a (a+1):=λi j v y U=>by
  rw[(YJ (ZU y (YF U)) v),(YJ (YF U) (ZU v y))];exact C.refl (L0.good g (Zi (Vz h0) hn))
 refine ZW (XJ (YO
  (I:=λx c b=>Lc a u b/\c.1=J/\c.2=x/\1<=x/\Sg r (arrOf b) a (a+x))
  (Q:=λc b=>Lc a u b/\c.1=J/\1<=c.2/\c.2<=n/\Sg r (arrOf b) a (a+c.2)/\(c.2<n->r (K (arrOf b) (a+c.2)) (K (arrOf b) (a+c.2-1))=B)) ?stepA ?finA ?initA) ?postA)
 case initA=>exact⟨L0,rfl,rfl,n01,s0⟩
 case finA =>
  refine all2 λR t=>?_;rintro b ⟨L,F,o,p,d⟩;subst o;refine⟨L,F,by(try dsimp only);omega,by(try dsimp only);lia,d,λz=>?_⟩
  (try dsimp only at z)
  lia
 case stepA =>
  intro x;refine all2 λR t=>?_;rintro b QD S ⟨L,F,o,p,d⟩;subst o;have N:=Zi (Ye S a) hn;refine ZW (kX C l g L N (ZF (Yc _ _) N) ?_);cases e:r (K (arrOf b) (a+t)) (K (arrOf b) (a+t-1)) with
  |true=>exact ZX ⟨L,rfl,p,by(try dsimp only);exact ZO S,d,λ_=>e⟩
  |false=>exact ZX ⟨L,rfl,rfl,by exact YB _ _,Sg.snoc C d (λk l=>L.good g (ZF l N)) p e⟩
 case postA =>
  refine all2 λR t=>?_;rintro b ⟨L,F,o,p,d,H⟩;subst F;refine aN (λe=>?_) λe=>?_
  ·exact ZX (h t b L o p d)
  have e':t<n:=by simp at e;exact WD p e
  have N:=Zi (Ye e' a) hn;have f:∀k,k<=a+t->G (K (arrOf b) k):=λk l=>L.good g (ZF l N);have Qw:=C.J5 (f _ (by exact Zn _)) (f _ (by exact Yc _ _)) (H e');have M:=L.size;refine rO (P:=λJp=>Lc a u Jp/\Ds r (arrOf Jp) a (a+(t+1))) ?D ?two ?one
  case one =>
   intro e3 Dk;refine ZW (kX C l g L (ZF (Zd _ _) N) (ZF (Yc _ _) N) ?_);dsimp only;cases e4:r (K (arrOf b) a) (K (arrOf b) (a+t-1)) with
   |true=>exact ZX (h t b L o p d)
   |false =>
    rw[Zq Zf];refine ZW (mN ?_);have L1:=L.N9 (j:=a+t) (by exact Zn _) (by exact ZO N);have d0:Ds r (arrOf b) a (a+t):=λi j v y U=>C.tr (f j (by exact ZO U)) (f _ (by exact Yc _ _)) (f i (by lia)) (d j (a+t-1) (by exact ZU v y) (by lia) (by omega))
     (C.tr (f _ (by exact Yc _ _)) (f _ (by exact Zd _ _)) (f i (by lia)) e4 (d a i (by exact Zn _) v (by exact ZF y U)))
    have d2:=Ds.N9 C d0 (λk l=>f k (by exact ZO l)) (by exact Zn _) (by(clear e hn;lia)) (λk v y=>d k _ v (by lia) (by omega));exact Dk _ ⟨L1,(Ds.snoc C d2 (λk l=>L1.good g (ZF l N)) o (by
     rw[lT (by lia),lT (by lia),Zq (by lia),Zr ⟨Xb (Vz (by exact VA o)),WE (by lia) Nat.one_pos⟩,mi1 (by lia)];exact C.tr (f _ (by exact Zn _)) (f _ (by exact Yc _ _)) (f _ (by exact Zd _ _)) Qw (d0 _ _ (by exact Zn _) (Xb (Vz (by exact VA o))) (WE (by lia) Nat.one_pos))))⟩
  case two =>
   intro e3;have d1:=Ds.snoc C (λi j v y U=>by
    have e1:i=a:=by lia
    have e2:j=a:=by lia
    subst e1 e2;exact C.refl (f _ (by exact Zd _ _))) f o Qw
   exact⟨L,d1⟩
  case D =>
   rintro b ⟨L1,d1⟩;clear f M;refine ZW (gL ?_);refine ZW (XJ (YO
    (I:=λx c b=>Lc a u b/\c.1=J/\c.2.1=x/\c.2.2+1<=x/\Ds r (arrOf b) a (a+x)/\(∀k,a+x-(c.2.2+1)<=k->k<a+x->le r (K (arrOf b) k) (K (arrOf b) (a+x-1))))
    (Q:=λc b=>Lc a u b/\c.1=J/\c.2.2+1<=c.2.1/\c.2.1<=n/\Ds r (arrOf b) a (a+c.2.1)/\(∀k,a+c.2.1-(c.2.2+1)<=k->k<a+c.2.1->le r (K (arrOf b) k) (K (arrOf b) (a+c.2.1-1)))) ?stepD ?finD ?initD) ?postD)
   case initD =>
    refine⟨L1,rfl,rfl,by(try dsimp only);exact YB _ _,d1,λk v y=>?_⟩
    (try dsimp only at v y)
    have e:k=a+(t+1)-1:=by lia
    subst e;exact C.refl (L1.good g N)
   case finD =>
    refine jW λR q X=>?_;rintro b ⟨L,F,o,p,d,H⟩;subst o;exact⟨L,F,p,by(try dsimp only);lia,d,H⟩
   case stepD =>
    intro x;refine jW λR q X=>?_;rintro b QD S ⟨L,F,o,p,d,H⟩;subst o;have O:=Zi (Ye S a) hn;refine ZW (kX C l g L O (ZF (Yc _ _) O) ?_);dsimp only;have f:∀k,k<=a+q->G (K (arrOf b) k):=λk l=>L.good g (ZF l O);have M:=L.size;cases e:r (K (arrOf b) (a+q)) (K (arrOf b) (a+q-1)) with
    |true =>
     rw[Zr Y];have Qw:=C.J5 (f _ (by exact Zn _)) (f _ (by exact Yc _ _)) e;refine aN (λz=>?_) λz=>?_
     ·refine ZW (mN ?_);have L2:=L.N9 (i:=a+q-(X+1)) (j:=a+q) (by lia) (by exact ZO O);have d2:=Ds.N9 C d (λk l=>f k (by exact ZO l)) (by lia) (by lia) H;refine ZX ⟨L2,rfl,rfl,by(try dsimp only);exact YB _ _,Ds.snoc C d2 (λk l=>L2.good g (ZF l O)) (by lia) ?_,λk v y=>?_⟩
      ·rw[lT (by lia),lT (by lia),Zq (by lia),Zr ⟨VW (YB 1 X) _,WE (by lia) Nat.one_pos⟩,mi1 (by lia)];exact C.tr (f _ (by exact Zn _)) (f _ (by exact Yc _ _)) (f _ (by exact Yc _ _)) Qw (d _ _ (by lia) (VW (YB 1 X) _) (WE (by lia) Nat.one_pos))
      ·(try dsimp only at v y)
       have e:k=a+(q+1)-1:=by lia
       subst e;exact C.refl (L2.good g O)
     ·refine ZX ⟨L,rfl,rfl,by(try dsimp only);exact YB _ _,Ds.snoc C d f (by(clear z;lia)) Qw,λk v y=>?_⟩
      (try dsimp only at v y)
      have e:k=a+(q+1)-1:=by lia
      subst e;exact C.refl (L.good g O)
    |false =>
     rw[Zq Zf];refine ZW (kX C l g L (ZF (Yc _ _) O) O ?_);cases e2:r (K (arrOf b) (a+q-1)) (K (arrOf b) (a+q)) with
     |true=>exact ZX ⟨L,rfl,p,by(try dsimp only);exact ZO S,d,H⟩
     |false =>
      refine ZX ⟨L,rfl,rfl,by(try dsimp only);exact Xl p,Ds.snoc C d f (by lia) e2,λk v y=>?_⟩
      (try dsimp only at v y)
      have ee:a+(q+1)-1=a+q:=by lia
      rw[ee];by_cases ek:k=a+q
      ·subst ek;exact C.refl (f _ (by exact Zn _))
      ·exact C.tr (f _ (by lia)) (f _ (by exact Yc _ _)) (f _ (by exact Zn _)) (H k (by lia) (by lia)) e
   case postD =>
    refine jW λR q X=>?_;rintro b ⟨L,F,p,q6,d,H⟩;subst F;have f:∀k,k<a+q->G (K (arrOf b) k):=λk l=>L.good g (by lia);have M:=L.size;refine rO (P:=λJp=>Lc a u Jp/\Ds r (arrOf Jp) a (a+q)) ?Rq ?two2 ?one2
    case one2 =>
     intro z Dk2;refine ZW (mN ?_);have d2:=Ds.N9 C d f (by lia) (by lia) H;exact Dk2 _ ⟨(L.N9 (i:=a+q-(X+1)) (j:=a+q) (by lia) (by lia)),d2⟩
    case two2=>exact λ_=>⟨L,d⟩
    case Rq =>
     clear d H f M L;rintro b ⟨L,d⟩;have M:=L.size;refine ZW (mN ?_);refine ZW (XJ (YO
      (I:=λx c b=>Lc a u b/\c.1=J/\c.2=x/\1<=x/\Sg r (arrOf b) a (a+x))
      (Q:=λc b=>Lc a u b/\c.1=J/\1<=c.2/\c.2<=n/\Sg r (arrOf b) a (a+c.2)/\(c.2<n->r (K (arrOf b) (a+c.2)) (K (arrOf b) (a+c.2-1))=B)) ?stepA ?finA ?initA) ?postA)
     case initA=>exact⟨(L.N9 (i:=a) (j:=a+q) (by exact Zn _) (by lia)),rfl,rfl,(by lia),(d.rev (by lia))⟩
     case finA =>
      refine all2 λR t=>?_;rintro b ⟨L,F,o,p,d⟩;subst o;refine⟨L,F,by(try dsimp only);omega,by(try dsimp only);lia,d,λz=>?_⟩
      (try dsimp only at z)
      lia
     case stepA =>
      intro x;refine all2 λR t=>?_;rintro b QD S ⟨L,F,o,p,d⟩;subst o;refine ZW (kX C l g L (by lia) (by lia) ?_);cases e:r (K (arrOf b) (a+t)) (K (arrOf b) (a+t-1)) with
      |true=>exact ZX ⟨L,rfl,p,by(try dsimp only);exact ZO S,d,λ_=>e⟩
      |false=>exact ZX ⟨L,rfl,rfl,by exact YB _ _,Sg.snoc C d (λk l=>L.good g (by lia)) p e⟩
     case postA =>
      refine all2 λR c3=>?_;rintro b ⟨L,F,o,p,d,H⟩;subst F;exact ZX (h c3 b L o p d)
end TS
end
section
open PySem PyProof.Rows
namespace TS
variable{κ:SortKind}
def xZ(h:Q () (setArr a (bubble (arrOf a) i (i-j)))):wpS (KB prog w) A E s (moveDown' i j) Q a:=by
 rw[moveDown'_eq];exact WM h
def Lc.bub(L:Lc b e a)(h:b+d<=i)(f:i<(arrOf e).size):Lc b e (setArr a (bubble (arrOf a) i d)) :=
 L.arr (bubble_perm _ _ _) λk g=>by rw[getElem?_bubble (by rw[L.size];exact f) d (by lia),Zq (by lia),Zq (by lia)]
def HX(h:¬a ≥ b):a<=(a+b)/2/\(a+b)/2<b:=by omega
def DL(C:JL prog w A E s κ G r){Y:Nat}(hk:kindOf t=κ)(g:∀x∈arrOf t,G x)(h0:1<=Y)(xt:Y<=n)(hn:a+n<=(arrOf t).size)(S:Sg r (arrOf t) a (a+Y))(h:∀b,Lc a t b->Sg r (arrOf b) a (a+n)->Q B b):wpS (KB prog w) A E s (binarySort' a n Y) Q t:=by
 change wpS (KB prog w) A E s (_>>=_) Q t;rw[(Nat.max_eq_left h0)];refine ZW (XJ (YO
  (I:=λx c b=>Lc a t b/\c.1=J/\Sg r (arrOf b) a (a+x))
  (Q:=λc b=>Lc a t b/\c.1=J/\Sg r (arrOf b) a (a+n)) ?step ?fin ?init) ?post)
 case init=>exact⟨Lc.refl _ _,rfl,S⟩
 case fin =>
  refine all2 λH q=>?_;rintro b ⟨L,X,f⟩;rw[(Nat.max_eq_right xt)]at f;exact⟨L,X,f⟩
 case post =>
  refine all2 λH q=>?_;rintro b ⟨L,X,f⟩;subst X;exact ZX (h b L f)
 case step =>
  intro k;refine all2 λH q=>?_;rintro b L9 KP ⟨L,X,f⟩;have bk:=Zi (Ye KP a) hn;have p:∀j,j<=a+k->G (K (arrOf b) j):=λj hj=>L.good g (ZF hj bk);refine ZW (XJ (YO
   (I:=λx c M=>b=M/\c.1=J/\c.2.1<=c.2.2/\c.2.2<=k/\c.2.2+x<=k+c.2.1/\(∀i,a<=i->i<a+c.2.1->le r (K (arrOf b) i) (K (arrOf b) (a+k)))/\(∀i,a+c.2.2<=i->i<a+k->le r (K (arrOf b) (a+k)) (K (arrOf b) i)))
   (Q:=λc M=>b=M/\c.1=J/\c.2.1=c.2.2/\c.2.2<=k/\(∀i,a<=i->i<a+c.2.1->le r (K (arrOf b) i) (K (arrOf b) (a+k)))/\(∀i,a+c.2.2<=i->i<a+k->le r (K (arrOf b) (a+k)) (K (arrOf b) i))) ?step2 ?fin2 ?init2) ?post2)
  case init2=>exact⟨rfl,rfl,by(try dsimp only);exact ZE _,by(try dsimp only);exact Zn _,Zn _,λi o d=>absurd d (Nat.not_lt_of_ge o),λi o d=>absurd d (Nat.not_lt_of_ge o)⟩
  case fin2 =>
   refine jW λd1 l rr=>?_;rintro M ⟨e,U,N,u,q6,y,v⟩;exact⟨e,U,YJ N (Nat.le_of_add_le_add_left (by rw[Nat.add_comm];exact q6)),u,y,v⟩
  case step2 =>
   intro x;refine jW λd1 l rr=>?_;rintro M _ hx ⟨e,U,N,u,q6,y,v⟩;subst e;dsimp only at *;refine aN (λz=>?_) λz=>?_
   ·exact ZX ⟨rfl,rfl,by(try dsimp only);exact YJ N z,u,y,v⟩
   ·obtain⟨m1,m2⟩:=HX z;generalize (l+rr)/2=m at m1 m2 ⊢;have mk:=Ye (Zi m2 u) a;refine ZW (kX C hk g L bk (VB mk bk) ?_);cases e2:r (K (arrOf b) (a+k)) (K (arrOf b) (a+m)) with
    |true =>
     exact ZX ⟨rfl,rfl,m1,ZU (ZO m2) u,by(try dsimp only);clear f y v p g hn bk mk;omega,y,λi o d=>C.tr (p _ (Zn _)) (p _ (ZO mk)) (p _ (ZO d)) (C.J5 (p _ (Zn _)) (p _ (ZO mk)) e2) (f _ i (by exact Zd _ _) o d)⟩
    |false =>
     refine ZX ⟨rfl,rfl,m2,u,by(try dsimp only);clear f y v p g hn bk mk;omega,λi o d=>?_,v⟩
     (try dsimp only at d)
     have h3:=YF d;exact C.tr (p _ (ZU h3 (ZO mk))) (p _ (ZO mk)) (p _ (Zn _)) (f i (a+m) o h3 mk) e2
  case post2 =>
   refine jW λd1 l rr=>?_;rintro M ⟨e,U,N,u,y,v⟩;subst e;dsimp only at *;subst U;refine ZW (xZ ?_);rw[Nat.add_sub_add_left];subst N;have P:a+k<(arrOf b).size:=by rw[L.size];exact bk
   have kl:=ZU (Yc k l) (YB k a);refine ZX ⟨L.bub (XT (Yc k l) a) bk,rfl,λi j o d h3=>?_⟩;rw[CZ P kl,CZ P kl,show a+k-(k-l)=a+l by rw[WA (Yc k l),Nat.sub_sub_self u]];have R:=YF h3;by_cases H:i=a+l
   ·rw[Zr H];by_cases q:j=a+l
    ·rw[Zr q];exact C.refl (p _ (by exact Zn _))
    ·have D:=WD (H ▸ d) (YN q);rw[Zq q,Zr ⟨D,R⟩];exact v _ (Xb D) (Vf (Wh D) R)
   ·rw[Zq H];by_cases O:a+l<i/\i<=a+k
    ·rw[Zr O];have D:=Zi O.1 d;rw[Zq (Vu D),Zr ⟨D,R⟩];exact f _ _ (Xb (ZF (Zd _ _) O.1)) (Nat.sub_le_sub_right d 1) (Vf (Wh D) R)
    ·rw[Zq O];by_cases q:j=a+l
     ·rw[Zr q];exact y i o (WD (q ▸ d) H)
     ·rw[Zq q];by_cases F:a+l<j/\j<=a+k
      ·rw[Zr F];exact f _ _ o (Xb (ZF (ZJ λz=>O ⟨z,ZU d F.2⟩) F.1)) (Vf (Wh F.1) F.2)
      ·rw[Zq F];exact f _ _ o d (Zi (WD (ZJ λz=>F ⟨z,R⟩) q) (XT u a))
theorem vy(b:Nat):∀(l:List Pi)(off:Nat)(arr:Array Pi),b+off+l.length<=arr.size →
  ((l.zipIdx off).foldl (λa x=>a.setIfInBounds (b+x.snd) x.fst) arr).toList=arr.toList.take (b+off)++l++arr.toList.drop (b+off+l.length)
 |[],off,arr,h=>by simp
 |x :: l,off,arr,h=>by
  rw[Vy,Vm];rw[Zb]at h;rw[vy b l (off+1) _ (by rw[Array.size_setIfInBounds];lia)];have d:b+off<arr.toList.length:=by simp;lia
  rw[Array.toList_setIfInBounds,List.set_eq_take_append_cons_drop,Zr d];have e1:(arr.toList.take (b+off)++x :: arr.toList.drop (b+off+1)).take (b+(off+1))=arr.toList.take (b+off)++[x]:=by
   have:(arr.toList.take (b+off)).length=b+off:=by rw[Yp];lia
   rw[List.take_append,this,Yq (by rw[this];lia)];have:b+(off+1)-(b+off)=1:=by lia
   rw[this];rfl
  have e2:(arr.toList.take (b+off)++x :: arr.toList.drop (b+off+1)).drop (b+(off+1)+l.length)=arr.toList.drop (b+off+(l.length+1)):=by
   have:(arr.toList.take (b+off)).length=b+off:=by rw[Yp];lia
   rw[WW,this,Y5 (by rw[this];lia),YA];have:b+(off+1)+l.length-(b+off)=l.length+1:=by lia
   rw[this,List.drop_succ_cons,List.drop_drop];congr 1;lia
  rw[e1,e2];simp
end TS
end
section
open PySem PyProof.Rows
namespace TS
variable{κ:SortKind}
def il{a:Array Pi}(e:a.toList=P++X++S)(j:Nat)(b:j<X.length):∃h:P.length+j<a.size,a[P.length+j]=X[j]:=by
 have f:a.size=P.length+X.length+S.length:=by
  have:=Z5 List.length e;simp at this;lia
 have h:P.length+j<a.size:=by lia
 refine⟨h,?_⟩;have d:a[P.length+j]?=X[j]?:=by
  rw[← Z2,e,Ze,Yy (by exact Zd _ _),Y1,Yw b]
 rw[getElem?_pos a _ h,getElem?_pos X _ b]at d;exact Zg d
def vm(C:JL prog w A E s κ G r){a:Array Pi}(e:a.toList=P++X++S)(g:∀x∈a,G x)(f:X.Pairwise (le r)):Seg r a P.length (P.length+X.length):=by
 intro i j h n q p o;obtain⟨d,rfl⟩:∃d,i=P.length+d:=⟨i-P.length,by lia⟩
 obtain⟨b,rfl⟩:∃b,j=P.length+b:=⟨j-P.length,by lia⟩
 obtain⟨_,e1⟩:=il e d (by lia);obtain⟨_,e2⟩:=il e b (by lia);rcases Vt d b with m | l
 ·rw[e1,e2];exact YH.mp f d b (by lia) (by lia) m
 ·have:d=b:=by lia
  subst this;exact C.refl (g _ (ZY h))
def SX{p k x m:Nat}(h:k<=x):p+k+(x-k+m)=p+x+m:=by rw[YE,← YE k,VU h,YE]
def ml7{s:Nat}(h:k<=x)(g:m<=y):p+k+(x-k+m)<=p+x+y+s:=by
 rw[SX h];exact ZU (XT g _) (Zd _ _)
def DM(C:JL prog w A E s κ G r){X Y S:List Pi}(hk:kindOf d=κ)(g:∀x∈arrOf d,G x)(hf:failedOf d=J)(t:(arrOf d).toList=P++X++(Y++S))(p1:(SZ d)[i]?=Z (P.length,X.length,pw))(p2:(SZ d)[i+1]?=Z (P.length+X.length,Y.length,pw2))(F:X.Pairwise (le r))(H:Y.Pairwise (le r))(nX:0<X.length)(nY:0<Y.length)(h:∀O M,M.Perm (X++Y)->M.Pairwise (le r)->(arrOf O).toList=P++M++S->kindOf O=kindOf d->failedOf O=J →
   SZ O=((SZ d).setIfInBounds i (P.length,X.length+Y.length,pw)).eraseIdxIfInBounds (i+1)->Q B O):wpS (KB prog w) A E s (mergeAt' i) Q d:=by
 have e2:(arrOf d).toList=(P++X)++Y++S:=by rw[t];simp
 have hs:(arrOf d).size=P.length+X.length+Y.length+S.length:=by
  have:=Z5 List.length t;simp at this;lia
 have gm:∀x,x∈(arrOf d).toList->G x:=λx b=>g x (by simpa using b);have gX:∀x∈X,G x:=λx b=>gm x (by rw[t];simp[b]);have N:∀x∈Y,G x:=λx b=>gm x (by rw[t];simp[b]);have OB:=vm C e2 g H;rw[Zv]at OB;obtain⟨hb,eb⟩:=il e2 0 nY;simp only[Zv,Nat.add_zero]at hb eb;obtain⟨R,el⟩:=il t (X.length-1) (WE nX Nat.one_pos);have gb:=g _ (ZY hb);change wpS (KB prog w) A E s (_>>=_) Q d;refine ZW (Vg ?_);rw[show (sortPriv% PySem.Builtin.SortState.pending) d=SZ d from rfl,p1,p2];refine ZW (?_);refine(WM ?_);refine ZW (dP hb ?_);refine ZW (jA C (by exact hk) gb g (by exact ZO hb) nX (vm C t g F) λk L9 KP MJ=>?_);have z1:∀x∈X.take k,le r x (arrOf d)[P.length+X.length]:=λx b=>by
  obtain⟨j,e,rfl⟩:=Yj b;rw[Yp]at e;obtain⟨o,e3⟩:=il t j (Zi e (Xk _ _));rw[X3,← e3];exact KP _ o (by exact Zd _ _) (Ye (Zi e (Nat.min_le_left _ _)) _)
 have z2:∀x∈X.drop k,le r (arrOf d)[P.length+X.length] x:=λx b=>by
  obtain⟨j,e,rfl⟩:=Yj b;rw[Z4]at e;have Of:=Nat.add_lt_of_lt_sub' e;obtain⟨o,e3⟩:=il t (k+j) Of;rw[X4,← e3];exact MJ _ o (XT (Zd _ _) _) (Ye Of _)
 have UK:∀y∈Y,le r (arrOf d)[P.length+X.length] y:=λy f=>by
  obtain⟨j,e,rfl⟩:=Yj f;obtain⟨o,e3⟩:=il e2 j e;simp only[Zv]at o e3;rw[← e3];exact OB _ _ hb o (by exact Zn _) (by exact Zd _ _) (Ye e _)
 refine aN (λe3=>?_) λe3=>?_
 ·refine ZX (h _ (X++Y) (XM _) ?_ (by rw[t];simp) rfl hf rfl);rw[ZG];refine⟨F,H,λx b y f=>C.tr (gX x b) gb (N y f) (z1 x (by rw[Yq (by simp at e3;lia)];exact b)) (UK y f)⟩
 have u:k<X.length:=by lia
 have QD:=WE (Wh u) Nat.one_pos;have ei:Unit->P.length+k+(X.length-k)-1=P.length+(X.length-1):=λ_=>by rw[YE,VU (ZO u),WA (Wh u)]
 refine ZW (dP (by rw[ei ()];exact R) ?_);have UC:∀(q:P.length+k+(X.length-k)-1<(arrOf d).size),(arrOf d)[P.length+k+(X.length-k)-1]=X[X.length-1]:=λq=>by
  simp only[ei ()];exact el
 rw[UC];have gl:G X[X.length-1]:=gX _ (Yo _);refine ZW (jA C (by exact hk) gl g (by rw[hs];exact Zd _ _) (WE nY Nat.one_pos) OB λm RY QI hm3=>?_);have y1:∀x∈Y.take m,le r x X[X.length-1]:=λx b=>by
  obtain⟨j,e,rfl⟩:=Yj b;rw[Yp]at e;obtain⟨o,e3⟩:=il e2 j (Zi e (Xk _ _));simp only[Zv]at o e3;rw[X3,← e3];exact QI _ o (by exact Zd _ _) (Ye (Zi e (Nat.min_le_left _ _)) _)
 have y2:∀x∈Y.drop m,le r X[X.length-1] x:=λx b=>by
  obtain⟨j,e,rfl⟩:=Yj b;rw[Z4]at e;have Of:=Nat.add_lt_of_lt_sub' e;obtain⟨o,e3⟩:=il e2 (m+j) Of;simp only[Zv]at o e3;rw[X4,← e3];exact hm3 _ o (XT (Zd _ _) _) (Ye Of _)
 have xl:∀x∈X,le r x X[X.length-1]:=λx b=>by
  obtain⟨j,e,rfl⟩:=Yj b;rcases Vt j (X.length-1) with Js | hge
  ·exact YH.mp F j _ e QD Js
  ·have:=YJ (Xb e) hge;subst this;exact C.refl gl
 refine aN (λe4=>?_) λe4=>?_
 ·have MN:m=0:=by simpa using e4
  subst MN;refine ZX (h _ (X++Y) (XM _) ?_ (by rw[t];simp) rfl hf rfl);rw[ZG];exact⟨F,H,λx b y f=>C.tr (gX x b) gl (N y f) (xl x b) (y2 y f)⟩
 have JZ:0<m:=by simp at e4;exact YZ e4
 have ex:((arrOf d).extract (P.length+k) (P.length+X.length)).toList=X.drop k:=by
  rw[WR,List.extract_eq_drop_take,t,Ze,WW,Y5 (by exact Zd _ _),YA];have:P.length+k-P.length=k:=by exact Y1 _ _
  rw[this,WW,Nat.sub_eq_zero_of_le (ZO u),Wf];rw[XI (by rw[Z4];lia),Yq (by rw[Z4];lia)]
 have D:((arrOf d).extract (P.length+X.length) (P.length+X.length+m)).toList=Y.take m:=by
  rw[WR,List.extract_eq_drop_take,e2,Ze,WW,Y5 (by simp),YA];have:P.length+X.length-(P++X).length=0:=by simp
  rw[this,Wf];have:P.length+X.length+m-(P.length+X.length)=m:=by exact Y1 _ _
  rw[this,XI RY]
 obtain⟨n,TM⟩:∃n,n=(arrOf d).extract (P.length+k) (P.length+X.length):=⟨_,rfl⟩
 obtain⟨v,TL⟩:∃v,v=(arrOf d).extract (P.length+X.length) (P.length+X.length+m):=⟨_,rfl⟩
 rw[← TM]at ex;rw[← TL]at D;have mx:∀x,x∈n->x∈X.drop k:=λx b=>by rw[← ex];simpa using b
 have my:∀x,x∈v->x∈Y.take m:=λx b=>by rw[← D];simpa using b
 have U7:n.size=X.length-k:=by have:=Z5 List.length ex;simpa using this
 have szy:v.size=m:=by have:=Z5 List.length D;simp at this;lia
 have gax:=λx b=>gX x (XZ (mx x b));have U:=λx b=>N x (Xa (my x b));have y0:∀(q:0<v.size),v[0]=(arrOf d)[P.length+X.length]:=λq=>by
  rw[eb];have:v[0]?=Y[0]?:=by rw[← Z2,D,List.getElem?_take_of_lt JZ]
  rw[getElem?_pos v 0 q,getElem?_pos Y 0 nY]at this;exact Zg this
 have xl0:∀(q:n.size-1<n.size),n[n.size-1]=X[X.length-1]:=λq=>by
  have:n[n.size-1]?=X[X.length-1]?:=by
   rw[← Z2,ex,List.getElem?_drop];congr 1;rw[U7,← WA (WB u),VU (ZO u)]
  rw[getElem?_pos n _ q,getElem?_pos X _ QD]at this;exact Zg this
 have M:MC G r n v:=by
  refine⟨gax,U,xT C gax (by rw[ex];exact F.drop),xT C U (by rw[D];exact H.take),by rw[U7];exact WB u,by rw[szy];exact JZ,?_,λj e=>?_⟩
  ·rw[y0];exact z2 _ (mx _ (ZY _))
  ·rw[xl0];exact y1 _ (my _ (ZY e))
 have fin:∀(l:SC)(res:Array Pi),iN (SortSt.mk' (kindOf d) (arrOf d) (((SZ d).setIfInBounds i (P.length,X.length+Y.length,pw)).eraseIdxIfInBounds (i+1)) (gallopOf d) (failedOf d)) l->MR r n v res →
   Q (failedOf l).isNone (SortSt.mk' (kindOf l) (res.toList.zipIdx.foldl (λa x=>a.setIfInBounds (P.length+k+x.snd) x.fst) (arrOf l)) (SZ l) (gallopOf l) (failedOf l)):=λl res kp z=>by
  obtain⟨k1,k2,k3,k4⟩:=kp;have S9:arrOf l=arrOf d:=k2;rw[(k4.trans hf)];have R:res.toList.length=X.length-k+m:=by
   rw[z.1.length_eq,ex,D];simp;exact Yd RY
  have mem:∀x,x∈res.toList->x∈X.drop k\/x∈Y.take m:=λx b=>by
   have:=z.1.mem_iff.mp b;rw[ex,D]at this;exact Zj.mp this
  have bk:=vy (P.length+k) res.toList 0 (arrOf l) (by rw[S9,hs,R,Nat.add_zero];exact ml7 (ZO u) RY);rw[S9,Nat.add_zero]at bk;have t1:(arrOf d).toList.take (P.length+k)=P++X.take k:=by
   rw[t,Ze,List.take_append,Yq (by exact Zd _ _),Y1,XI (ZO u)]
  have t2:(arrOf d).toList.drop (P.length+k+res.toList.length)=Y.drop m++S:=by
   rw[e2,Ze,WW,Y5 (by rw[Zv,R,SX (ZO u)];exact Zd _ _),YA];have:P.length+k+res.toList.length-(P++X).length=m:=by rw[Zv,R,SX (ZO u),Y1]
   rw[this,List.drop_append_of_le_length RY]
  refine h _ (X.take k++res.toList++Y.drop m) ?_ ?_ ?_ k1 rfl k3
  ·have p:(X.take k++(X.drop k++Y.take m)++Y.drop m)=X++Y:=by
    rw[← Ze,YR,Ze,YR]
   rw[← p];have:=z.1;rw[ex,D]at this;exact(this.append_left _).append_right _
  ·rw[ZG,ZG];refine⟨⟨F.take,z.2,λx b y f=>?_⟩,H.drop,λx b y f=>?_⟩
   ·rcases mem y f with f | f
    ·have:=F;rw[← YR k X,ZG]at this;exact this.2.2 x b y f
    ·exact C.tr (gX _ (Xa b)) gb (N _ (Xa f)) (z1 x b) (UK y (Xa f))
   ·rcases Zj.mp b with b | b
    ·exact C.tr (gX _ (Xa b)) gb (N _ (XZ f)) (z1 x b) (UK y (XZ f))
    ·rcases mem x b with b | b
     ·exact C.tr (gX _ (XZ b)) gl (N _ (XZ f)) (xl x (XZ b)) (y2 y f)
     ·have:=H;rw[← YR m Y,ZG]at this;exact this.2.2 x b y f
  ·rw[S9,bk,t1,t2];simp
 refine aN (λ_=>?_) λ_=>?_
 ·refine ZW (?_);rw[← TM,← TL];refine FN C (by exact hk) M λres l kp z=>?_;exact ZW (WM (ZW (Vg (ZX (fin l res kp z)))))
 ·refine ZW (?_);rw[← TM,← TL];refine FY C (by exact hk) M λres l kp z=>?_;exact ZW (WM (ZW (Vg (ZX (fin l res kp z)))))
end TS
end
section
open PySem PyProof.Rows
namespace TS
variable{κ:SortKind}
noncomputable def kN:Nat->List (List Pi)->List (Nat×Nat)
 |_,[]=>[]
 |o,Rq :: Rs=>(o,Rq.length) :: kN (o+Rq.length) Rs
theorem je:∀(a b:List (List Pi))(o:Nat),kN o (a++b)=kN o a++kN (o+a.flatten.length) b
 |[],b,o=>by simp[kN]
 |Rq :: a,b,o=>by
  show (o,Rq.length) :: kN (o+Rq.length) (a++b)=(o,Rq.length) :: (kN (o+Rq.length) a++_);rw[je a b];simp[YE]
theorem jm:∀(a:List (List Pi))(o:Nat),(kN o a).length=a.length
 |[],o=>rfl
 |Rq :: a,o=>by show (kN _ a).length+1=_;rw[jm a];rfl
theorem o6{α β:Type}(f:α->β):∀(l:List α)(i:Nat),(l.eraseIdx i).map f=(l.map f).eraseIdx i
 |[],i=>rfl
 |x :: l,0=>rfl
 |x :: l,i+1=>by show f x :: (l.eraseIdx i).map f=f x :: (l.map f).eraseIdx i;rw[o6 f l i]
structure RI(κ:SortKind)(r:Pi->Pi->Bool)(a₀:Array Pi)(st:SC)(runs:List (List Pi))(rest:List Pi):Prop where
 kind:kindOf st=κ
 fail:failedOf st=none
 arr:(arrOf st).toList=runs.flatten++rest
 pend:(SZ st).toList.map (λp=>(p.1,p.2.1))=kN 0 runs
 ok:∀Rq∈runs,0<Rq.length/\Rq.Pairwise (le r)
 perm:(arrOf st).Perm a₀
def RI.good{G:Pi->Prop}{r:Pi->Pi->Bool}{e:Array Pi}{d:SC}{a:List (List Pi)}{b:List Pi}(h:RI κ r e d a b)(g:∀x∈e,G x):∀x∈arrOf d,G x:=λx f=>by
 have:x∈(arrOf d).toList:=by simpa using f
 exact g x (by simpa using(Xg.mp h.perm).mem_iff.mp this)
def RI.N4(h:RI κ r e d a b):(SZ d).size=a.length:=by
 have:=Z5 List.length h.pend;rw[Zu,jm]at this;simpa using this
theorem RI.at{g:SC}{X:List Pi}(h:RI κ r i g (d++X :: post) f):∃pw,(SZ g)[d.length]?=Z (d.flatten.length,X.length,pw):=by
 have e:((SZ g).toList.map (λp=>(p.1,p.2.1)))[d.length]?=Z (d.flatten.length,X.length):=by
  rw[h.pend,je,Yy (by rw[jm];exact Zn _),jm,Vv,XH];rfl
 rw[ZL,Z2]at e;obtain⟨⟨a,b,c⟩,e1,e2⟩:=Zt.mp e;injection e2 with e3 e4
 dsimp only at e3 e4;exact⟨c,by rw[e1,e3,e4]⟩
theorem rB{α:Type}:∀{l:List α}{i:Nat},i+1<l.length->∃pre X Y post,l=pre++X :: Y :: post/\pre.length=i
 |[],i,h=>by simp at h
 |[x],i,h=>by simp at h
 |x :: y :: l,0,h=>⟨[],x,y,l,rfl,rfl⟩
 |x :: y :: l,i+1,h=>by
  obtain⟨pre,X,Y,post,e,a⟩:=rB (l:=y :: l) (i:=i) (by simp at h ⊢;omega);exact⟨x :: pre,X,Y,post,by rw[e];rfl,by rw[Zb,a]⟩
def RI.merge(C:JL prog w A E s κ G r)(h:RI κ r l f b a)(g:∀x∈l,G x)(hi:i+1<b.length)(hq:∀j n,RI κ r l j n a->n.length+1=b.length->n.flatten.length=b.flatten.length->Q B j):wpS (KB prog w) A E s (mergeAt' i) Q f:=by
 obtain⟨pre,X,Y,post,rfl,rfl⟩:=rB hi;obtain⟨pw,O⟩:=h.at;have h':RI κ r l f ((pre++[X])++Y :: post) a:=by
  have e:(pre++[X])++Y :: post=pre++X :: Y :: post:=by simp
  rw[e];exact h
 obtain⟨H,N⟩:=h'.at;have p:=h.ok X (by simp);have o:=h.ok Y (by simp);refine DM C (X:=X) (Y:=Y) (S:=post.flatten++a) h.kind (h.good g) h.fail (by rw[h.arr];simp) O (by
  simpa using N) p.2 o.2 p.1 o.1 λj M D m2 q U R P=>?_
 have F:=D.length_eq;rw[Zv]at F;refine hq j (pre++M :: post) ⟨U.trans h.kind,R,by rw[q];simp,?_,λRq d=>?_,?_⟩ (by simp;exact YE _ _ _) (by simp;lia)
 ·rw[P];have e0:(((SZ f).setIfInBounds pre.length (pre.flatten.length,X.length+Y.length,pw)).eraseIdxIfInBounds (pre.length+1)).toList=((SZ f).toList.set pre.length (pre.flatten.length,X.length+Y.length,pw)).eraseIdx (pre.length+1):=by
   simp
  rw[e0,o6,Vs,h.pend];rw[je,je];have e1:∀(u v t:List (Nat×Nat))(x y z:Nat×Nat),u.length=pre.length->((u++x :: y :: t).set pre.length z).eraseIdx (pre.length+1)=u++z :: t:=λu v t x y z m=>by
   rw[List.set_append_right _ _ (by exact Y9 m),m,Vv,List.eraseIdx_append_of_length_le (by lia),m];have:pre.length+1-pre.length=1:=by exact Y1 _ _
   rw[this];rfl
  show ((kN 0 pre++(0+pre.flatten.length,X.length) :: (0+pre.flatten.length+X.length,Y.length) :: kN (0+pre.flatten.length+X.length+Y.length) post).set _ _).eraseIdx _=kN 0 pre++(0+pre.flatten.length,M.length) :: kN (0+pre.flatten.length+M.length) post;rw[e1 _ [] _ _ _ _ (jm pre 0),F,XH,YE]
 ·rcases Zj.mp d with d | d
  ·exact h.ok Rq (by simp[d])
  ·rcases Zh.mp d with rfl | d
   ·exact⟨by lia,m2⟩
   ·exact h.ok Rq (by simp[d])
 ·refine Array.Perm.trans ?_ h.perm;rw[Xg,q,h.arr];have e:(pre++X :: Y :: post).flatten++a=pre.flatten++(X++Y)++(post.flatten++a):=by simp
  rw[e];exact(D.append_left _).append_right _
end TS
end
section
open PySem PyProof.Rows
namespace TS
variable{κ:SortKind}
def RI.loc(h:RI κ r g f a b)(L:Lc a.flatten.length f d):RI κ r g d a ((arrOf d).toList.drop a.flatten.length):=by
 refine⟨L.kind.trans h.kind,L.fail.trans h.fail,?_,by rw[L.pend];exact h.pend,h.ok,L.perm.trans h.perm⟩;have e:(arrOf d).toList.take a.flatten.length=a.flatten:=by
  have e2:(arrOf f).toList.take a.flatten.length=a.flatten:=by rw[h.arr,List.take_left]
  refine Eq.trans ?_ e2;apply V4;intro i;rw[List.getElem?_take,List.getElem?_take];split
  ·rename_i j;rw[Z2,Z2];exact L.pre i j
  ·rfl
 conv=>lhs;rw[← YR a.flatten.length (arrOf d).toList,e]
theorem RI.push(h:RI κ r g f b a)(l:b.flatten.length=e)(m:0<n)(j:n<=a.length)(i:(a.take n).Pairwise (le r)) :
  RI κ r g (setPending f ((SZ f).push (e,n,0))) (b++[a.take n]) (a.drop n):=by
 refine⟨h.kind,h.fail,?_,?_,λRq d=>?_,h.perm⟩
 ·rw[h.arr];simp
 ·rw[V7,Yz,h.pend,je,XH,l];show _++[(e,n)]=_++[(e,(a.take n).length)];rw[Yp,Yd j]
 ·rcases Zj.mp d with d | d
  ·exact h.ok Rq d
  ·rw[Zl.mp d];exact⟨by rw[Yp];lia,i⟩
theorem vf{α β:Type}(f:α->β)(g:α->α)(a:∀x,f (g x)=f x):∀(l:List α)(i:Nat),(l.modify i g).map f=l.map f
 |[],i=>by simp
 |x :: l,0=>by simp[a]
 |x :: l,i+1=>by simp[vf f g a l i]
def RI.mod(h:RI κ r f d a b)(i e:Nat):RI κ r f (setPending d ((SZ d).modify i λx=>(x.1,x.2.1,e))) a b :=
 ⟨h.kind,h.fail,h.arr,by
  rw[Array.toList_modify,vf (λp:Nat×Nat×Nat=>(p.1,p.2.1)) (λx=>(x.1,x.2.1,e)) (λx=>rfl),h.pend],h.ok,h.perm⟩
def Sg.pw(h:Sg r b a (a+n))(f:a+n<=b.size):((b.toList.drop a).take n).Pairwise (le r):=by
 rw[YH];intro i j e d g;rw[Yp,Z4]at e d;rw[X3,X3,X4,X4];have:=h (a+i) (a+j) (by exact Zd _ _) (by lia) (by lia);rw[xq (by lia),xq (by lia)]at this;simpa using this
theorem RI.size{f:SC}(h:RI κ r d f a b):a.flatten.length+b.length=d.size:=by
 have e:=Z5 List.length h.arr;rw[Zv,YS,h.perm.size_eq]at e;exact e.symm
def Bj{r:Pi->Pi->Bool}{a:List (List Pi)}(h:∀Rq∈a,0<Rq.length/\Rq.Pairwise (le r)):a.length<=a.flatten.length:=by
 induction a with
 |nil=>exact Zn _
 |cons Rq Rs b =>
  have f:=(h Rq (Zy ..)).1;have e:=b λx d=>h x (Zw _ d);simp only[Zb,Z1,Zv];lia
def Dp{c:Prop}[Decidable c](e:a+1<n)(d:b+1<n):(if c then a else b)+1<n:=by
 split
 ·exact e
 ·exact d
def vY{prog:Re}{w:XAA}{A:SB}{E:Z9}{s:IR}{α:Type}{a b d:Nat->Prop}{c:Nat->Prop}[∀n,Decidable (c n)]{x Rq:Nat->StateT SC Sem α}{Q:α->SC->Prop}{P:Nat->SC->Prop}{f:SC}(D:∀n e,P n e->wpS (KB prog w) A E s (Rq n) Q e)(g:∀m,a m->b m->d m->¬c m->P m f)(h:∀m,a m->b m->d m->c m->(∀n e,P n e->wpS (KB prog w) A E s (Rq n) Q e)->wpS (KB prog w) A E s (x m) Q f):∀m,a m->b m->d m->wpS (KB prog w) A E s (if c m then x m else Rq m) Q f :=
 λm p q z=>aN (λy=>h m p q z y D) λy=>D m f (g m p q z y)
def B0(C:JL prog w A E s κ G r)(hk:kindOf p=κ)(g:∀x∈f,G x)(ha:arrOf p=f)(hp:SZ p=#[])(hf:failedOf p=J)(h:∀d,(arrOf d).Perm f->failedOf d=J->(arrOf d).toList.Pairwise (le r)->Q () d):wpS (KB prog w) A E s sortRuns' Q p:=by
 have Rq0:RI κ r f p [] f.toList:=⟨hk,hf,by rw[ha];rfl,by rw[hp];rfl,λRq y=>by simp at y,by rw[ha]⟩
 change wpS (KB prog w) A E s (_>>=_) Q p;dsimp only;refine ZW (Vg ?_);have esz:((sortPriv% PySem.Builtin.SortState.a) p).size=f.size:=by rw[← ha]
 rw[esz];refine ZW (XJ (YO
  (I:=λx c d=>c.1=J/\∃runs rest,RI κ r f d runs rest/\runs.flatten.length=c.2/\x<=c.2)
  (Q:=λc d=>c.1=J/\∃runs,RI κ r f d runs []) ?step ?fin ?init) ?post)
 case init=>exact⟨rfl,_,_,Rq0,rfl,Zn _⟩
 case fin =>
  refine all2 λF lo=>?_;rintro d ⟨j,runs,rest,Rq,q,hx⟩;have:=Rq.size;have e:rest=[]:=List.eq_nil_of_length_eq_zero (by lia);subst e;exact⟨j,runs,Rq⟩
 case step =>
  intro x;refine all2 λF lo=>?_;rintro d _ hx ⟨j,runs,rest,Rq,q,hxl⟩;have u:=Rq.size;refine aN (λe=>?_) λe=>?_
  ·have e:rest=[]:=List.eq_nil_of_length_eq_zero (by lia);subst e;exact ZX ⟨rfl,runs,Rq⟩
  refine ZW (Fu C Rq.kind (Rq.good g) (by lia) (by rw[Rq.perm.size_eq];lia) λm JM L2 m1 m2 S2=>?_);have Y:=Rq.loc (by rw[q];exact L2);have UM:=Y.perm.size_eq;revert m;refine vY (P:=λnn M=>∃i,RI κ r f M runs i/\i.length=f.size-lo/\0<nn/\nn<=i.length/\(i.take nn).Pairwise (le r)) ?D ?two ?one
  case one =>
   intro m m1 m2 S2 e2 Dk;refine ZW (gL ?_);refine ZW (DL C Y.kind (Y.good g) m1 (by omega) (by lia) S2 λM L3 S3=>?_);refine aN (λe=>absurd e (by decide)) λ_=>?_;have U:=Y.loc (by rw[q];exact L3);have UL:=U.perm.size_eq;obtain⟨i,H⟩:∃l,l=(arrOf M).toList.drop runs.flatten.length:=⟨_,rfl⟩
   have Sa:i.length=f.size-lo:=by rw[H,Z4,YS,UL,q]
   obtain⟨n3,en3⟩:∃n,n=min (f.size-lo) ((sortPriv% PySem.Builtin.minRun) f.size f.size 0):=⟨_,rfl⟩
   rw[← en3]at S3 ⊢;exact Dk n3 M ⟨i,(by rw[H];exact U),Sa,(by lia),(by omega),(by rw[H,q];exact S3.pw (by lia))⟩
  case two =>
   intro m m1 m2 S2 e2;obtain⟨i,H⟩:∃l,l=(arrOf JM).toList.drop runs.flatten.length:=⟨_,rfl⟩
   have Sa:i.length=f.size-lo:=by rw[H,Z4,YS,UM,q]
   exact⟨i,(by rw[H];exact Y),Sa,(by exact VA m1),(by lia),(by rw[H,q];exact S2.pw (by lia))⟩
  case D =>
   rintro nn M ⟨i,I3,Sa,S,R,O⟩;have JH:=q;refine ZW (Vg ?_);cases hb:(SZ M).back? with
   |none =>
    refine ZW (WM ?_);refine ZX ⟨rfl,_,_,I3.push JH S R O,?_,by(try dsimp only);lia⟩;rw[Yt,Zv,Vr,Yp]
    (try dsimp only)
    lia
   |some v =>
    obtain⟨s1,n1,pw1⟩:=v;refine ZW (XJ (YO
     (I:=λx c d=>c.1=J/\∃o,RI κ r f d o i/\o.flatten.length=lo)
     (Q:=λc d=>c.1=J/\∃o,RI κ r f d o i/\o.flatten.length=lo) ?stepM ?finM ?initM) ?postM)
    case initM=>exact⟨rfl,_,I3,JH⟩
    case finM=>exact λc d h=>h
    case stepM =>
     intro x;refine all2 λF c2=>?_;rintro d _ hx ⟨j,o,Rq,y⟩;refine ZW (Vg ?_);split
     ·rename_i a b c hh;refine aN (λ_=>?_) λ_=>?_
      ·exact ZX ⟨rfl,o,Rq,y⟩
      ·have Pp:(SZ d).size > 1:=by
        by_cases z:(SZ d).size > 1
        ·exact z
        ·rw[Zq z]at hh;cases hh
       have NN:=Rq.N4;refine ZW (Rq.merge C g (show (SZ d).size-2+1<o.length by omega) λst4 MU Pf l4 f4=>?_);refine aN (λe=>absurd e (by decide)) λ_=>?_;exact ZX ⟨rfl,MU,Pf,by rw[f4,y]⟩
     ·exact ZX ⟨rfl,o,Rq,y⟩
    case postM =>
     refine all2 λF c2=>?_;rintro d ⟨j,o,Rq,y⟩;subst j;refine ZW (WM ?_);refine ZW (WM ?_);refine ZX ⟨rfl,_,_,(Rq.mod _ _).push y S R O,?_,by(try dsimp only);lia⟩;rw[Yt,Zv,Vr,Yp]
     (try dsimp only)
     lia
 case post =>
  refine all2 λF lo=>?_;rintro d ⟨j,runs,Rq⟩;subst j;have rl:=Bj Rq.ok;have u:=Rq.size;refine ZW (XJ (YO
   (I:=λx c d=>c.1=J/\∃runs,RI κ r f d runs []/\(runs.length<=1\/runs.length+x<=f.size))
   (Q:=λc d=>c.1=J/\∃runs,RI κ r f d runs []/\runs.length<=1) ?step2 ?fin2 ?init2) ?post2)
  case init2=>exact⟨rfl,runs,Rq,.inr (by lia)⟩
  case fin2 =>
   refine all2 λF c2=>?_;rintro d ⟨j,runs,Rq,N⟩;exact⟨j,runs,Rq,by(clear u;lia)⟩
  case step2 =>
   intro x;refine all2 λF c2=>?_;rintro d _ hx ⟨j,runs,Rq,N⟩;have NN:=Rq.N4;refine ZW (Vg ?_);refine aN (λe=>?_) λe=>?_
   ·exact ZX ⟨rfl,runs,Rq,by rw[← NN];exact e⟩
   ·have e':1<runs.length:=by rw[← NN];exact Uy e
    refine ZW (Rq.merge C g ?_ λst4 MU Pf l4 f4=>?_)
    ·exact Dp (show (SZ d).size-2-1+1<_ by omega) (by lia)
    ·refine aN (λe=>absurd e (by decide)) λ_=>?_;exact ZX ⟨rfl,MU,Pf,by(clear e u;lia)⟩
  case post2 =>
   refine all2 λF c2=>?_;rintro d ⟨j,runs,Rq,N⟩;subst j;refine ZX (h d Rq.perm Rq.fail ?_);rw[Rq.arr,ZV]
   match runs,N,Rq.ok with
   |[],_,_=>exact List.Pairwise.nil
   |[X],_,ok =>
    rw[Vr];exact(ok X (Zy ..)).2
   |X :: Yq0 :: t,N,_=>simp at N
end TS
end
section
open PySem PyProof.Rows
namespace TS
noncomputable def jw(h:UV)(a:KM)(b:W7):Heap:=((h.update a (Obj.mapSeq λ_=>#[])).push (seqObj "tuple" b.toArray 0)).push (seqObj "list" #[] 0)
def pD{a:Array Pi}(f:a.Perm (pairsOf e)):(a.map (·.2)).toList.Perm e/\(a.map (·.2)).toList.map (λv=>(v,v))=a.toList:=by
 have d:=Xg.mp f;rw[pairsOf_toList]at d;constructor
 ·rw[Uu];refine(d.map _).trans ?_;rw[show (λx:Pi=>x.2)=Prod.snd from rfl,WY (Zn _)]
 ·rw[Uu,Z7]
  conv=>rhs;rw[← Vc a.toList]
  apply YU;intro p b;have:=mem_zip_self (d.mem_iff.mp b);exact VE this.1.symm Y
def yA{h:UV}{vs:W7}(b:a<h.objs.size)(g:(h.update a (Obj.mapSeq λ_=>#[])).get? a=Z o):(jw h a vs).get? a=Z o:=by
 exact(Wu _ _ _ (by rw[WK,Wk];exact ZR (Yl b))).trans ((Wu _ _ _ (by rw[Wk];exact ZR b)).trans g)
def nl(h:b<n)(k:Nat):b≠n+k:=ZR (Zi h (Zd _ _))
end TS
end
section
namespace L2
open PySem PySem.Spec PyProof.Rows TS
section
theorem se:∀{a:W7},(∀v∈a,∃x t,v=Value.str x t)->aM ((a.map strOf).map V.str) a
 |[],_=>.nil
 |u :: a,h=>by
  obtain⟨x,t,rfl⟩:=h u (Zy ..);exact .cons ⟨t,rfl⟩ (se λv b=>h v (Zw _ b))
end
end L2
end
section
namespace VS
mutual
theorem iT:∀(n:Nat)(t:T),Ji n t=B->eqT t t=B
 |n,.non,_=>by simp
 |n,.bl _,_=>by simp
 |n,.int _,_=>by simp
 |n,.str _,_=>by simp
 |n+1,.tup l,h=>by
  exact lx n l (Z6.mp h)
 |n+1,.lst l,h=>by
  exact lx n l (Z6.mp h)
 |0,.tup _,h=>nomatch h
 |0,.lst _,h=>nomatch h
 |0,.scr _,h=>nomatch h
 |_+1,.scr _,h=>nomatch h
 |0,.dct _ _,h=>nomatch h
 |_+1,.dct _ _,h=>nomatch h
 |0,.obj _ _,h=>nomatch h
 |_+1,.obj _ _,h=>nomatch h
theorem lx:∀(n:Nat)(l:Ul),(∀t∈l,Ji n t=B)->kU l l=B
 |_,[],_=>rfl
 |n,t :: r,h=>by
  exact ZS.mpr ⟨iT n t (h t Zy),lx n r λu a=>h u (Zw _ a)⟩
end
def zg(e:a U=Z (m,.lst l)):h9 a U=Z (m,l):=by
 show (a U).bind zh=_;rw[e];rfl
def c7{b:Tg}{it:Ju}{a:Sx}{U:Env}{m:Md}(e:it U=Z (m,l))(h:okF m=B):iI b it a U=forL b a l U:=by
 unfold iI;rw[e];exact Zr h
def dN{t:T}(h:b U=Z a)(d:g (trees a)=Z (.fr,t)):bR g b U=Z (.fr,t):=by
 simp only[bR,h,Zs,d]
def aK{e:Ex}{U:Env}{m:Md}(h:e U=Z (m,t))(a:m ≠ .bo)(b:i<U.length):aT i e U=Z (.nx (U.set i (Z (.pu t)))):=by
 simp only[aT,h,Zs];cases m with
 |bo=>exact absurd Y a
 |_=>simp[b]
def qh(h:e U=Z (.fr,t))(a:C8 t=B)(b:i<U.length):kH i e U=Z (.nx (U.set i (Z (.ow t)))):=by
 simp only[kH,h,Zs,cellOf,a,if_true,Zr b]
end VS
end
section
namespace VS
open PySem PySem.Spec PyProof.Rows L2
def FW{a b c:Tx}(h:a<b)(d:¬c<b):a<c:=by
 by_cases e:a<c
 ·exact e
 ·exact absurd (List.lt_of_le_of_lt (WV.mp e) h) d
theorem jY(x:Tx):∀l:List Tx,(oR x l).Perm (x :: l)
 |[]=>XM _
 |y :: r=>by
  unfold oR;split
  ·exact((jY x r).cons y).trans (List.Perm.swap _ _ _)
  ·exact XM _
theorem iO:∀l:List Tx,(eW l).Perm l
 |[]=>XM _
 |x :: l=>(jY x _).trans ((iO l).cons x)
theorem qY(x:Tx):∀{l:List Tx},l.Pairwise (λa b=>¬b<a)->(oR x l).Pairwise (λa b=>¬b<a)
 |[],_=>Xs _ _
 |y :: r,h=>by
  unfold oR;rw[ly];obtain⟨e,g⟩:=YL.mp h;split
  ·rename_i c;refine YL.mpr ⟨λz d=>?_,qY x g⟩;rcases Zh.mp ((jY x r).mem_iff.mp d) with rfl | d
   ·exact λz=>Xh _ (VO (by simpa using c) z)
   ·exact e z d
  ·rename_i c;have f:¬y<x:=by simpa using c
   refine YL.mpr ⟨λz d=>?_,h⟩;rcases Zh.mp d with rfl | d
   ·exact f
   ·exact λw=>e z d (FW w f)
theorem o9:∀l:List Tx,(eW l).Pairwise (λa b=>¬b<a)
 |[]=>List.Pairwise.nil
 |x :: l=>qY x (o9 l)
def oS{d:List Tx}(h:d.Perm l)(e:d.Pairwise (λa b=>¬b<a)):d=eW l :=
 List.Perm.eq_of_pairwise (λa b _ _ g f=>Uw (WV.mp g) (WV.mp f)) e (o9 l) (h.trans (iO l).symm)
def qq(s:Tx):(sx s).cps.toList=s:=rfl
def yo{f:List Tx}{d:List Str}(h:d.Perm (f.map sx))(i:d.Pairwise (λa b=>¬b.cps.toList<a.cps.toList)):d=(eW f).map sx:=by
 have e:d=(d.map λx=>x.cps.toList).map sx:=by
  rw[Z7]
  conv=>lhs;rw[← Vc d]
  apply YU;intro x g;obtain⟨s,_,rfl⟩:=Yv.mp (h.mem_iff.mp g);show sx s=sx (sx s).cps.toList;rw[qq]
 have e2:(d.map λx=>x.cps.toList)=eW f:=by
  refine oS ?_ ?_
  ·have:=h.map λx:Str=>x.cps.toList;rw[Z7]at this;have e3:((λx:Str=>x.cps.toList) ∘ sx)=id:=by
    funext s;exact qq s
   rw[e3,Vc]at this;exact this
  ·rw[X2];exact i
 rw[e,e2]
def Ry(s:Tx):Bool:=decide (s.length<=d4)&&s.all (λc=>decide (c<1114112))
def zV(h:Ry s=B):j5 s:=by
 unfold Ry at h;simp at h;exact h
section
theorem pV{H:Hp}:∀{ss:List Tx},(∀s∈ss,j5 s)->RpL G H (ss.map λs=>V.str (sx s)) (ss.map T.str) (ss.map λ_=>[])
 |[],_=>.nil
 |s :: ss,h=>.cons (.str s (h s (Zy ..))) (pV λx a=>h x (Zw _ a))
theorem nR{α β:Type}:∀(l:List α),(l.map λ_=>([]:List β)).flatten=[]
 |[]=>rfl
 |_ :: l=>by simp
def yu{G:Gx}{R:Iq}{U:VS.Env}{i H:Hp}{d:List Tx}{Q:VK}(k:∀v g F,aI H g->Rp G g v (.lst ((eW d).map T.str)) F->Fp R U i .fr F->Q v g)(m:aI i H)(j:∀s∈d,j5 s) :
  ∀(l:KM)(f:List Str),H l=J->f.Perm (d.map sx)->f.Pairwise (λa b=>¬b.cps.toList<a.cps.toList)->Q (.ref l) (upd H l (.lst (f.map V.str))):=λq f h o hw=>by
 rw[yo o hw];have r:Rp G (upd H q (.lst (((eW d).map sx).map V.str))) (.ref q) (.lst ((eW d).map T.str)) (q :: ((eW d).map λ_=>[]).flatten):=.lst (by rw[ar,Z7];rfl) (pV (G:=G) (H:=upd H q (.lst (((eW d).map sx).map V.str))) λs n=>j s ((iO d).mem_iff.mp n));rw[nR]at r;exact k _ _ _ (bZ h) r (Fp.new (m.free h) (by simp) Fp.nil)
theorem keys_str:∀{ks:List Key}{ss:List Tx},strs? (ks.map aE)=Z ss->ks=(ss.map sx).map Sum.inr
 |[],_,e=>by cases e;rfl
 |.inl i :: ks,_,e=>by cases e
 |.inr x :: ks,ss,e=>by
  obtain⟨a,e1,e2⟩:=Zt.mp (e);subst e2;rw[keys_str e1];simp[sx]
def oO:bootBuiltins ("sorted" : Str)=Z (.builtin "sorted"):=by decide +kernel
end
end VS
end
section
namespace ST
open PySem PySem.Spec PyProof.Rows
def Hm{A:SB}{s:IR}(f:A.handled=J)(h:∀(a:UV)(x:KM),(∀b o,s.heap.get? b=Z o->a.get? b=Z o)->(∃o,a.get? x=Z o/\o.cls=.type "StopIteration")->d (.ref x) { s with heap:=a }) :
  PP (KB prog w) A (newExc (.type "StopIteration") [] >>= λe=>raiseNew e) Q d s:=by
 refine Zx (Zx (Vq (Zx (wpAny_of_eq (by first | rfl | (rfl)) (Vq ?_ (by size_fits)))) (by size_fits)));refine Zx (wpAny_handled ?_);rw[f];exact Zx (Zm (wpAny_throw (h _ _ (λb o e=>Za _ (Za _ e)) ⟨_,ZD _ Y,rfl⟩)))
end ST
end
section
namespace VS
open PySem PySem.Spec PyProof.Rows L2
inductive J2(G:Gx)(H:Hp):List Ky->V->V->Prop
 |nil (v:V):J2 G H [] v v
 |fld {c k:Nat} {a dx:KM} {fs:List (Str×V)} {u w:V} {ks:List Ky}:H a=some (.ins (G.ct (c+1)).1 dx fs)->fs.lookup ((G.ct (c+1)).2 k)=some u->J2 G H ks u w->J2 G H (.fld k :: ks) (.ref a) w
 |ix {a:KM} {vs:List V} {i:Int} {j:Nat} {u w:V} {ks:List Ky}:H a=some (.lst vs)->JY vs.length i=some j->vs[j]?=some u->J2 G H ks u w->J2 G H (.at (.int i) :: ks) (.ref a) w
 |key {a:KM} {bt:List (Key×V)} {k:Key} {u w:V} {ks:List Ky}:H a=some (.dK bt)->cF bt k=some u->J2 G H ks u w->J2 G H (.at (aE k) :: ks) (.ref a) w
 |un {v w:V} {ks:List Ky}:J2 G H ks v w->J2 G H (.un :: ks) v w
section
def uR{f:Xc}{i j:Nat}{F h:W6}(d:f.flatten.Nodup)(b:f[i]?=Z F)(e:f[j]?=Z h)(n:i≠j){a:KM}(g:a∈F):a∉h:=by
 intro hb
 induction f generalizing i j with
 |nil=>simp at b
 |cons G m l =>
  rw[Z1,ZC]at d;cases i with
  |zero =>
   simp at b;subst b;cases j with
   |zero=>exact n Y
   |succ j=>exact d.2.2 a g a (cM (by simpa using e) hb) Y
  |succ i =>
   cases j with
   |zero =>
    simp at e;subst e;exact d.2.2 a hb a (cM (by simpa using b) g) Y
   |succ j=>exact l d.2.1 (by simpa using b) (by simpa using e) (by lia)
def cq{d:Xc}(h:a∈(d.set j g).flatten):a∈g\/∃i F,i≠j/\d[i]?=Z F/\a∈F:=by
 obtain⟨i,F,b,f⟩:=fP h;by_cases e:i=j
 ·subst e;rw[List.getElem?_set_self' ]at b;cases q:d[i]? with
  |none=>rw[q]at b;cases b
  |some _=>rw[q]at b;cases b;exact .inl f
 ·rw[XX (YN e)]at b;exact .inr ⟨i,F,e,b,f⟩
theorem dS:∀{p:Xc}{j:Nat}{f:W6},p.flatten.Nodup->f.Nodup->(∀i F,i≠j->p[i]?=Z F->∀a∈F,a∉f)->(p.set j f).flatten.Nodup
 |[],_,_,h,_,_=>by simpa using h
 |G :: r,0,f,h,o,d=>by
  rw[Z1,ZC]at h;rw[List.set_cons_zero,Z1,ZC];refine⟨o,h.2.1,λa g b hb e=>?_⟩;subst e;obtain⟨i,F,m,l⟩:=fP hb;exact d (i+1) F (by lia) (by simpa using m) a l g
 |G :: r,j+1,f,h,o,d=>by
  rw[Z1,ZC]at h;rw[List.set_cons_succ,Z1,ZC];refine⟨h.1,dS h.2.1 o λi F n q=>d (i+1) F (by lia) (by simpa using q),λa g b hb e=>?_⟩;subst e;rcases cq hb with z | ⟨i,F,n,m,l⟩
  ·exact d 0 G (by lia) Y a g z
  ·exact h.2.2 a g a (cM m l) Y
def RpL.each:∀{vs:List V}{e:Ul}{f:Xc},RpL G H vs e f->(∀(i:Nat) v t F,vs[i]?=Z v->e[i]?=Z t->f[i]?=Z F->Rp G H v t F->Rp G g v t F)->RpL G g vs e f:=by
 intro vs e
 induction e generalizing vs with
 |nil=>intro f r k;cases r;exact .nil
 |cons t e h =>
  intro f r k;cases r with
  |cons r q=>exact .cons (k 0 _ _ _ Y Y Y r) (h q λi v t F a b c d=>k (i+1) v t F a b c d)
theorem RpL.setAt:∀{e:List V}{f:Ul}{m:Xc}{j:Nat}{u:V}{o:T}{p:W6},RpL G H e f m->e[j]?=Z u->Rp G l u o p->(∀(i:Nat) v t F,i≠j->e[i]?=Z v->f[i]?=Z t->m[i]?=Z F->Rp G H v t F->Rp G l v t F)->RpL G l e (f.set j o) (m.set j p)
 |_,_,_,_,_,_,_,.nil,h,_,_=>by simp at h
 |_,_,_,0,_,_,_,.cons r q,h,g,k=>by
  simp at h;subst h;exact .cons g (RpL.each q λi v t F a b c d=>k (i+1) v t F (by lia) (by simpa using a) (by simpa using b) (by simpa using c) d)
 |_,_,_,j+1,_,_,_,.cons r q,h,g,k=>.cons (k 0 _ _ _ (by lia) Y Y Y r) (RpL.setAt q (by simpa using h) g λi v t F n a b c d=>k (i+1) v t F (by lia) (by simpa using a) (by simpa using b) (by simpa using c) d)
def ku(N:H a=Z o)(E:RpL G H s D d)(e:(a :: d.flatten).Nodup)(O:s[j]?=Z u)(y:d[j]?=Z A)(g:Chg G H u A C q m):q a=Z o/\RpL G q s (D.set j C) (d.set j m)/\(a :: (d.set j m).flatten).Nodup/\(∀b∈a :: (d.set j m).flatten,b∈a :: d.flatten\/H b=J)/\∀b o,b∉a :: d.flatten->H b=Z o->q b=Z o:=by
 rw[Zc]at e;have p:∀b∈A,b∈d.flatten:=λb hb=>cM y hb;refine⟨g.keep a o (λz=>e.1 (p a z)) N,E.setAt O g.rp (λi v t F n l f P r=>r.keep g.kept λb hb w x=>g.keep b w (uR e.2 P y n hb) x),?_,λb hb=>?_,λb w hb x=>g.keep b w (λz=>hb (Zw _ (p b z))) x⟩
 ·rw[Zc];refine⟨λh=>?_,dS e.2 g.nd (λi F n M b hb Q=>by
  rcases g.sub b Q with z | z
  ·exact uR e.2 M y n hb z
  ·exact Il.xa (E.Iu b (cM M hb)) z)⟩
  rcases cq h with z | ⟨i,F,n,l,f⟩
  ·rcases g.sub a z with z | z
   ·exact e.1 (p a z)
   ·rw[N]at z;cases z
  ·exact e.1 (cM l f)
 ·rcases Zh.mp hb with rfl | hb
  ·exact .inl Zy
  ·rcases cq hb with z | ⟨i,F,n,l,f⟩
   ·rcases g.sub b z with z | z
    ·exact .inl (Zw _ (p b z))
    ·exact .inr z
   ·exact .inl (Zw _ (cM l f))
theorem kg{α β:Type}:∀(d:List α)(bs:List β)(i:Nat)(a:α)(y:β),d[i]?=Z a->(d.zip bs).set i (a,y)=d.zip (bs.set i y)
 |[],_,_,_,_,h=>by simp at h
 |a :: d,[],i,_,_,_=>by cases i<;>simp
 |a :: d,b :: bs,0,_,y,h=>by simp at h;subst h;rfl
 |a :: d,b :: bs,i+1,_,y,h=>by
  have:=kg d bs i _ y (by simpa using h);simp[this]
theorem js{α β:Type}(p:α->Bool):∀{e:List α}{bs:List β}{i:Nat},e.length=bs.length->(e.zip bs).findIdx? (λq=>p q.1)=Z i->∃a b,e[i]?=Z a/\bs[i]?=Z b/\p a=B/\(e.zip bs).find? (λq=>p q.1)=Z (a,b)
 |[],[],_,_,h=>by simp at h
 |a :: e,b :: bs,i,g,h=>by
  rw[ZM,YX]at h;by_cases d:p a=B
  ·rw[Zr d]at h;cases h;exact⟨a,b,rfl,rfl,d,by simp[d]⟩
  ·rw[Zq d]at h;refine L2.ai λu f=>?_;obtain⟨j,l,rfl⟩:=Zt.mp h;obtain⟨t,s,r,o,n,m⟩:=js p (by simpa using g) l;refine f ?_;exact⟨t,s,by simpa using r,by simpa using o,n,by simp[d,m]⟩
def gw(k a:Key):eqT (aE a) (aE k)=B↔a=k:=by
 cases k with
 |inl i=>cases a<;>simp[aE]
 |inr x =>
  obtain⟨⟨x⟩⟩:=x;cases a with
  |inl j=>simp[aE]
  |inr y=>obtain⟨⟨y⟩⟩:=y;simp[aE]
theorem pS:∀{ns:List Key}{d:Ul}{a:List V}{i:Nat},ns.length=d.length->ns.length=a.length->((ns.map aE).zip d).findIdx? (λq=>eqT q.1 (aE k))=Z i->a[i]?=Z u->cF (ns.zip a) k=Z u
 |[],_,_,_,_,_,h,_=>by simp at h
 |n :: ns,t :: d,v :: a,i,m,l,h,e=>by
  rw[Zo,ZM,YX]at h;by_cases b:eqT (aE n) (aE k)=B
  ·rw[Zr b]at h;cases h;simp at e;subst e;exact b8 ((gw k n).mp b)
  ·rw[Zq b]at h;obtain⟨j,g,rfl⟩:=Zt.mp h;have f:n≠k:=λz=>b ((gw k n).mpr z);have:cF ((n :: ns).zip (v :: a)) k=cF (ns.zip a) k:=by simp[cF,f]
   rw[this];exact pS (by simpa using m) (by simpa using l) g (by simpa using e)
 |_ :: _,[],_,_,h,_,_,_=>by simp at h
 |_ :: _,_ :: _,[],_,_,h,_,_=>by simp at h
def dW(r:Rp G H v (.obj (c+1) (g :: h)) F):∃(e:Nat)(a j:KM)(b:Bool)(ks:Us)(d:List V)(f:Ul)(i:Xc),c+1=e+1/\v=.ref a/\g=(0,.bl b)/\h=ks.zip f/\F=a :: i.flatten ∧
  H a=Z (.ins (G.ct (e+1)).1 j ((ks.map (G.ct (e+1)).2).zip d))/\ks.length=d.length/\(b=B->G.me 0=Z (.ref a))/\RpL G H d f i:=r.inv
def EZ(r:Rp G H v (.obj 0 [(0,.bl B),(m,t)]) F):∃a,v=.ref a/\G.me m=Z (.ref a)/\Rp G H (.ref a) t F:=r.inv _ _ Y
def rL{G:Gx}{c a:Nat}(h:∀c k m:Nat,(G.ct c).2 k=(G.ct c).2 m->k=m){e:Us}{d:List V}{f:Ul}{u:V}{i:Nat}(n:e.length=d.length)(b:(e.zip f).findIdx? (λq=>q.1==a)=Z i)(o:e[i]?=Z a)(g:d[i]?=Z u):((e.map (G.ct c).2).zip d).lookup ((G.ct c).2 a)=Z u:=by
 induction e generalizing d f i with
 |nil=>simp at o
 |cons l v p =>
  cases d with
  |nil=>simp at n
  |cons t bs =>
   cases f with
   |nil=>simp at b
   |cons s f =>
    rw[Zo,ZM,YV];rw[ZM,YX]at b;by_cases q:(l==a)=B
    ·rw[Zr q]at b;cases b;have:l=a:=by simpa using q
     subst this;simp at g;simp[g]
    ·rw[Zq q]at b;obtain⟨j,r,rfl⟩:=Zt.mp b;have:((G.ct c).2 a==(G.ct c).2 l)=L:=by
      rw[Z0];intro z;exact q (by simpa using(h c _ _ z).symm)
     rw[this];exact p (by simpa using n) r (by simpa using o) (by simpa using g)
def G6{α:Type}{f:T->Option (T×α)}{y:α}(e:pm f (.un :: d) t=Z (a,y)):∃m x z,t=.obj 0 [(0,.bl B),(m,x)]/\pm f d x=Z (z,y)/\a=.obj 0 [(0,.bl B),(m,z)]:=by
 cases t with
 |obj c fs =>
  cases c with
  |succ c=>cases e
  |zero =>
   cases fs with
   |nil=>cases e
   |cons q fs =>
    obtain⟨n,v⟩:=q;cases n with
    |succ n=>cases e
    |zero =>
     cases v with
     |bl b =>
      cases b with
      |false=>cases e
      |true =>
       cases fs with
       |nil=>cases e
       |cons g fs =>
        obtain⟨m,x⟩:=g;cases fs with
        |cons _ _=>cases e
        |nil =>
         obtain⟨⟨z,h⟩,e1,e2⟩:=Zt.mp e;cases e2;exact⟨_,_,_,rfl,e1,rfl⟩
     |_=>cases e
 |_=>cases e
noncomputable abbrev PmC(G:Gx)(H:Hp){α:Type}(f:T->Option (T×α))(g:List Ky)(v:V)(e:T)(F:W6)(y:α):Prop:=∃w x a b,J2 G H g v w/\Rp G H w x a/\a.Nodup/\f x=Z (b,y)/\∀d h,Chg G H w a b d h->∃i,Chg G H v F e d i
def nW{G:Gx}{α:Type}{f:T->Option (T×α)}:∀(ks:List Ky){v:V}{t t':T}{F:W6}{y:α},(∀c k k':Nat,(G.ct c).2 k=(G.ct c).2 k'->k=k')->Rp G H v t F->F.Nodup->pm f ks t=Z (t',y) →
  PmC G H f ks v t' F y:=by
 intro ks
 induction ks with
 |nil=>intro v t t' F y _ r nd e;exact⟨v,t,F,t',.nil v,r,nd,e,λM o g=>⟨o,g⟩⟩
 |cons ky ks ih =>
 intro v t t' F y inj r nd e;cases ky with
 |fld k =>
  cases t with
  |obj c fs0 =>
   cases c with
   |zero=>cases e
   |succ c =>
   cases fs0 with
   |nil=>cases e
   |cons q0 fs =>
   refine L2.ai λP_ U=>?_;obtain⟨i,h1,e⟩:=Zz.mp e;obtain⟨p,Y,e⟩:=Zz.mp e;obtain⟨⟨z,y'⟩,e1,e2⟩:=Zt.mp e;cases e2;obtain⟨c',a,dx,b,ns,vs,ts,Fs,ec,rfl,rfl,rfl,rfl,E,X,hb,d⟩:=dW r;cases ec;obtain⟨D,q,g1,g2,g3,g4⟩:=js (λn=>n==k) (X.trans d.len.1) h1;have ek:D=k:=by simpa using g3
   subst ek;have ep:p=(D,q):=by
    have:(ns.zip ts)[i]?=Z (D,q):=by rw[Ya];exact⟨g1,g2⟩
    rw[this]at Y;exact(Zg Y).symm
   subst ep;obtain⟨u,Fi,C,A,u3⟩:=d.get i g2;obtain⟨w,x,F1,N,S,R,Q,P,O⟩:=ih inj u3 (((Zc.mp nd).2).sublist (cz A)) e1;refine U ?_;refine⟨w,x,F1,N,.fld (c:=c) E (rL inj X h1 g1 C) S,R,Q,P,λM o g=>?_⟩;obtain⟨Fi',h⟩:=O M o g;obtain⟨s1,s2,s3,s4,s5⟩:=ku E d nd C A h;refine⟨_,h.kept,s5,h.Iu,?_,s3,s4⟩;rw[kg ns ts i D z g1];exact .ins s1 X hb s2
  |_=>cases e
 |un =>
  refine L2.ai λP_ U=>?_;obtain⟨m,x,z,rfl,e1,rfl⟩:=G6 e;obtain⟨a,rfl,hm,rx⟩:=EZ r;obtain⟨w,q,F1,N,S,R,Q,P,O⟩:=ih inj rx nd e1;refine U ?_;refine⟨w,q,F1,N,.un S,R,Q,P,λM o g=>?_⟩;obtain⟨F',g'⟩:=O M o g;exact⟨F',g'.kept,g'.keep,g'.Iu,.mk hm g'.rp,g'.nd,g'.sub⟩
 | «at» k =>
  cases t with
  |lst l =>
   cases k with
   |int i =>
    refine L2.ai λP_ U=>?_;obtain⟨j,h1,e⟩:=Zz.mp e;obtain⟨q,Y,e⟩:=Zz.mp e;obtain⟨⟨z,y'⟩,e1,e2⟩:=Zt.mp e;cases e2;obtain⟨a,vs,Fs,rfl,rfl,E,d⟩:=r.lst_inv;obtain⟨u,Fi,C,A,u3⟩:=d.get j Y;obtain⟨w,x,F1,N,S,R,Q,P,O⟩:=ih inj u3 (((Zc.mp nd).2).sublist (cz A)) e1;refine U ?_;refine⟨w,x,F1,N,.ix E (by rw[d.len.1];exact h1) C S,R,Q,P,λM o g=>?_⟩;obtain⟨Fi',h⟩:=O M o g;obtain⟨s1,s2,s3,s4,s5⟩:=ku E d nd C A h;exact⟨_,h.kept,s5,h.Iu,.lst s1 s2,s3,s4⟩
   |_=>cases e
  |dct kd l =>
   cases kd with
   |zero =>
    have hk:iw k=B/\((l.findIdx? λp=>eqT p.1 k).bind λi=>(l[i]?).bind λp=>(pm f ks p.2).map λz=>(T.dct 0 (l.set i (p.1,z.1)),z.2))=Z (t',y):=by
     cases k with
     |int i=>exact⟨rfl,e⟩
     |str s=>exact⟨rfl,e⟩
     |_=>cases e
    obtain⟨hk,e⟩:=hk;obtain⟨i,h1,e⟩:=Zz.mp e;obtain⟨p,Y,e⟩:=Zz.mp e;obtain⟨⟨z,y'⟩,e1,e2⟩:=Zt.mp e;cases e2;obtain⟨a,ns,vs,ts,Fs,rfl,rfl,E,X,rfl,d⟩:=cW r;have Nk:(ns.map aE).length=ts.length:=by rw[Zu];exact X.trans d.len.1
    obtain⟨D,q,g1,g2,g3,g4⟩:=js (λn=>eqT n k) Nk h1;have ep:p=(D,q):=by
     have:((ns.map aE).zip ts)[i]?=Z (D,q):=by rw[Ya];exact⟨g1,g2⟩
     rw[this]at Y;exact(Zg Y).symm
    subst ep;obtain⟨kk,Mv⟩:∃kk:Key,k=aE kk:=by
     cases k with
     |int i=>exact⟨.inl i,rfl⟩
     |str s=>exact⟨.inr (sx s),by simp[aE,sx]⟩
     |_=>cases hk
    refine L2.ai λP_ U=>?_;subst Mv;obtain⟨u,Fi,C,A,u3⟩:=d.get i g2;obtain⟨w,x,F1,N,S,R,Q,P,O⟩:=ih inj u3 (((Zc.mp nd).2).sublist (cz A)) e1;refine U ?_;refine⟨w,x,F1,N,.key E ?_ S,R,Q,P,λM o g=>?_⟩
    ·exact pS (by simpa using Nk) X h1 C
    ·obtain⟨Fi',h⟩:=O M o g;obtain⟨s1,s2,s3,s4,s5⟩:=ku E d nd C A h;refine⟨_,h.kept,s5,h.Iu,?_,s3,s4⟩;rw[kg (ns.map aE) ts i D z g1];exact .dct s1 X s2
   |succ kd=>cases e
  |_=>cases e
end
section
def J2.same{H:Hp}(e:aI H d)(p:J2 G H b v w):J2 G d b v w:=by
 induction p with
 |nil v=>exact .nil v
 |fld h l _ a=>exact .fld (e _ _ h) l a
 |ix h l m _ a=>exact .ix (e _ _ h) l m a
 |key h l _ a=>exact .key (e _ _ h) l a
 |un _ a=>exact .un a
theorem J2.split:∀{ks:List Ky}{v:V},J2 G H (ks++[k]) v w->∃u,J2 G H ks v u/\J2 G H [k] u w
 |[],v,p=>⟨v,.nil v,p⟩
 |_ :: ks,_,.fld h l p=>let ⟨u,a,b⟩:=J2.split p;⟨u,.fld h l a,b⟩
 |_ :: ks,_,.ix h l m p=>let ⟨u,a,b⟩:=J2.split p;⟨u,.ix h l m a,b⟩
 |_ :: ks,_,.key h l p=>let ⟨u,a,b⟩:=J2.split p;⟨u,.key h l a,b⟩
 |_ :: ks,_,.un p=>let ⟨u,a,b⟩:=J2.split p;⟨u,.un a,b⟩
theorem gM:∀{way:List Lj}{ks:List Ky},keys (way++[s]) U=Z ks->∃f k,keys way U=Z f/\keys [s] U=Z [k]/\ks=f++[k]
 |[],ks,e=>by
  cases s with
  |fld k=>cases e;exact⟨[],.fld k,rfl,rfl,rfl⟩
  |un=>cases e;exact⟨[],.un,rfl,rfl,rfl⟩
  |ix c =>
   obtain⟨x,i,g⟩:=Zz.mp (e);cases g;exact⟨[],.at x.2,rfl,by show ((_:Option _).bind _)=_;rw[i];rfl,rfl⟩
 |.fld k :: way,ks,e=>by
  refine L2.ai λn j=>?_;obtain⟨m,i,g⟩:=Zt.mp (e);obtain⟨f,l,a,b,c⟩:=gM i;refine j ?_;exact⟨.fld k :: f,l,by show ((keys _ _).map _)=_;rw[a];rfl,b,by rw[← g,c];rfl⟩
 |.un :: way,ks,e=>by
  refine L2.ai λn j=>?_;obtain⟨m,i,g⟩:=Zt.mp (e);obtain⟨f,l,a,b,c⟩:=gM i;refine j ?_;exact⟨.un :: f,l,by show ((keys _ _).map _)=_;rw[a];rfl,b,by rw[← g,c];rfl⟩
 |.ix c :: way,ks,e=>by
  refine L2.ai λn j=>?_;obtain⟨x,o,h⟩:=Zz.mp (e);obtain⟨m,i,g⟩:=Zt.mp h;obtain⟨f,l,a,b,d⟩:=gM i;refine j ?_;exact⟨.at x.2 :: f,l,by show ((_:Option _).bind _)=_;rw[o];rw[a];rfl,b,by rw[← g,d];rfl⟩
def RA(G:Gx)(i:Nat)(a:List Lj):TE:=λO H Q=>∃R U t ks v w,SR G R U O H/\U[i]?=Z (Z (.ow t))/\O[i]?=Z (Z v)/\keys a U=Z ks/\J2 G H ks v w/\∀b,aI H b->Q w b
def LV(G:Gx)(X:Cx)(e:Expr)(i:Nat)(a:List Lj):Prop:=PE X e (RA G i a)
def PE.MQ(h:PE X e t)(w:∀O H Q,RA G i a O H Q->t O H Q):LV G X e i a:=λb s O H Q I q=>h b s O H Q I (w O H Q q)
def bI{X:Cx}(i:Nat)(h:{`q8,X.N[i]?=Z x})(d:KG X.env.scope x:=by exact .inl Y)(g:{`q8,K3 x})(a:{`q8,K4 x}):LV G X (.Name x pos) i [] :=
 PE.MQ (dk h d g a) λO H Q f=>by
  obtain⟨R,U,t,ks,v,w,s,o,n,m,l,j⟩:=f;cases (m);cases l;exact⟨v,n,j H (aI.refl _)⟩
structure Jv(G:Gx)(K:Ww)(k:Nat)(f:Str):Prop where
 nm:∀c,(G.ct (c+1)).2 k=f
 cl:∀c,JT K (G.ct (c+1)).1
 no:∀c,aR K (G.ct (c+1)).1 f
def eU{X:Cx}(k:Nat)(F:Jv G X.K k f)(h:LV G X e i way)(n:{`q8,XAB e f X.env (eval e X.env)=eval e X.env}):LV G X (.Attribute e f pos) i (way++[.fld k]) :=
 PE.MQ (zv h n) λO H Q m=>by
  refine L2.ai λN l=>?_;obtain⟨R,U,t,ks,v,w,s,z,y,x,r,p⟩:=m;obtain⟨C,M,a,b,rfl⟩:=gM x;cases (b);obtain⟨u,p1,j⟩:=r.split;refine l ?_;refine⟨R,U,t,C,v,u,s,z,y,a,p1,λD d=>?_⟩;cases j with
  |@fld c _ a A fs E _ _ o g q =>
   cases q;rw[F.nm c]at g;exact⟨a,_,A,fs,w,rfl,d a _ o,F.cl c,F.no c,g,p D d⟩
def C1{X:Cx}(Y:xh E X.A)(h:LV G X e i way)(hb:PV G X b c)(S:jt b)(hK:X.K=G.K):LV G X (.Subscript e b pos) i (way++[.ix c]) :=
 PE.MQ (tD (Mh.or qK (qy (kM Y))) h hb S) λO H Q hq=>by
  refine L2.ai λP_ F=>?_;obtain⟨R,U,t,ks,v,w,s,h1,h2,h3,h4,h5⟩:=hq;obtain⟨ME,k',a,b',rfl⟩:=gM h3;obtain⟨⟨D,x⟩,ec,e2⟩:=Zz.mp (b');cases e2;obtain⟨u,p1,C⟩:=h4.split;refine F ?_;refine⟨R,U,t,ME,v,u,s,h1,h2,a,p1,λH1 d=>⟨R,U,D,x,s.same d,ec,λy H2 F2 o r2 f2=>?_⟩⟩;have q:=h5 H2 (d.trans o);cases ((C.same d).same o) with
  |@ix a p M j r _ _ l g P f =>
   cases f;refine .inl (.inl ⟨a,p,M,w,rfl,r2.int_inv,Iv.of l,oo g P,q⟩)
  |@key a bt m r _ _ l g f =>
   cases f;refine .inr ⟨a,w,rfl,?_,q⟩;have N:y=kV m:=by
    cases m with
    |inl n=>exact r2.int_inv
    |inr z =>
     have:=r2.str_inv.1;rw[this];simp[kV,sx]
   rw[N,← g];exact gU.k l
@[simp] def iE(i:Nat)(a:List Lj)(f:T->Uo->Option (T×Val))(g:IE)(U:VS.Env):Option (Val×VS.Env):=match U[i]? with
 |some (some (.ow t))=>(keys a U).bind λks=>(g U).bind λd=>(pm (λx=>f x d) ks t).map λz=>(z.2,U.set i (Z (.ow z.1)))
 |_=>J
noncomputable def jF(G:Gx):Prop:=∀c k a:Nat,(G.ct c).2 k=(G.ct c).2 a->k=a
def xQ{pos apos:Pos}(J:jF G)(pa:PlainAttrs p)(d:Slot p a m)(M4:typeOf (.builtin m)=pure (.type "method_descriptor"))(hm:NU X m r)(ok:Al G r f)(hT:∀H v t F l z,Rp G H v t F->f t l=Z z->tyV G.K p v H)(ho:LV G X o i way)(ha:Jj G X (e :: es) cs)(hK:X.K=G.K)(Im:XAB o a X.env (eval o X.env)=eval o X.env)(I0:((backTo pe (Pv (e :: es) X.env)).all (λx=>!x.1)&&(backToKw pe (SL [] X.env)).all (λx=>x.1.isSome)
   && decide ((e :: es).length+([]:List Keyword).length+(if ([]:List Keyword).isEmpty then 0 else 1)<30))=B)(Ik:(apos.endLine==pe.line)=B)(hs:K1 e es X)(Ip:K2 pe es X)(JW:swapsWith (.Call (.Attribute o a apos) (e :: es) [] pe) none pos.line X.env=pure L) :
  PSV G X (.Expr (.Call (.Attribute o a apos) (e :: es) [] pe) pos) (sX (iE i way f cs)) :=
 PS.weak (fY (nq pa d M4 hm ho ha Im I0 Ik hs Ip) JW) λD O H hq=>by
  obtain⟨R,U,out,s,e,k⟩:=hq;refine L2.ai λP_ k_=>?_;unfold sX iE at e;obtain⟨⟨x',U'⟩,e1,e2⟩:=Zt.mp e;split at e1
  ·rename_i t h;obtain⟨ks,ek,e3⟩:=Zz.mp e1;obtain⟨l,el,e4⟩:=Zz.mp e3;obtain⟨⟨t',x2⟩,e5,e6⟩:=Zt.mp e4;cases e6;cases e2;obtain⟨v,E,h2⟩:=s.rp _ _ h;obtain⟨w,x,F1,Q,w1,A,Y,y,S⟩:=nW ks J h2 (s.nd i t h) e5;refine k_ ?_;refine⟨R,U,t,ks,v,w,s,h,E,ek,w1,λH0 j=>⟨by rw[hK];exact hT H0 w x _ l _ (A.same j) y,R,U,l,s.same j,el,λvs H' Fs q1 q2 C=>?_⟩⟩;refine ok R U H H' w x Q F1 l vs Fs x2 _ A Y ⟨j.trans q1,q2,⟨λn v' q a1 a2=>(C.each n v' q a1 a2).back j,C.nd⟩⟩ y λu M q g=>?_;obtain⟨F2,g2⟩:=S M q g;obtain⟨P,N⟩:=s.mut h E g2;exact k _ O M P N
  ·cases e1
end
section
def kC(k v:Val):T->Option (T×Unit)
 |.lst l=>match k.2 with
  |.int n=>(fit v).bind λt=>(JY l.length n).map λj=>(.lst (l.set j t),())
  |_=>J
 |.dct 0 l=>if iw k.2/\Iw v.2/\l.length<d4 then Z (.dct 0 (dput l k.2 v.2),()) else J
 |_=>J
def fA(i:Nat)(a:List Lj)(k e:Ex)(U:VS.Env):Option Out:=(e U).bind λv=>match U[i]? with
 |some (some (.ow t))=>(keys a U).bind λks=>(k U).bind λd=>(pm (kC d v) ks t).map λz=>.nx (U.set i (Z (.ow z.1)))
 |_=>J
theorem RpL.putAt:∀{d:List V}{f:Ul}{g:Xc}(j:Nat){u:V}{x:T}{F:W6},RpL G H d f g->Rp G H u x F->RpL G H (d.set j u) (f.set j x) (g.set j F)
 |_,_,_,_,_,_,_,.nil,_=>.nil
 |_,_,_,0,_,_,_,.cons r q,a=>.cons a q
 |_,_,_,j+1,_,_,_,.cons r q,a=>.cons r (RpL.putAt j q a)
theorem uW(s:Rp G H l t []):∀{ks:List Key}{h:List V}{n:Ul}{C:Xc},ks.length=h.length->RpL G H h n C →
  ∃d f g,(ks.zip h).map (λm=>if m.1=a then (m.1,l) else m)=ks.zip d/\ks.length=d.length/\((ks.map aE).zip n).map (λp=>if eqT p.1 (aE a) then (p.1,t) else p)=(ks.map aE).zip f/\RpL G H d f g/\g.flatten.Sublist C.flatten
 |[],[],_,_,_,.nil=>⟨[],[],[],rfl,rfl,rfl,.nil,We _⟩
 |k :: ks,v :: h,_,_,M,.cons (t:=D) (F:=F) r q=>by
  refine L2.ai λN E=>?_;obtain⟨d,f,g,A,y,x,w,u⟩:=uW s (by simpa using M) q;refine E ?_;by_cases j:k=a
  ·refine⟨l :: d,t :: f,[] :: g,?_,by simp[y],?_,.cons s w,?_⟩
   ·rw[ZM,Zo,A,ZM];simp[j]
   ·rw[Zo,ZM,Zo,x,ZM];simp[((gw a k).mpr j)]
   ·rw[Z1,Z1];exact u.trans (Xe _ _)
  ·have e:¬eqT (aE k) (aE a)=B:=λz=>j ((gw a k).mp z);refine⟨v :: d,D :: f,F :: g,?_,by simp[y],?_,.cons r w,?_⟩
   ·rw[ZM,Zo,A,ZM];simp[j]
   ·rw[Zo,ZM,Zo,x,ZM];simp[e]
   ·rw[Z1,Z1];exact List.Sublist.append (We _) u
theorem su{kk:Key}:∀{ks:List Key}{a:List V}{d:Ul},ks.length=a.length->ks.length=d.length->((ks.zip a).any λf=>decide (f.1=kk))=(((ks.map aE).zip d).any λp=>eqT p.1 (aE kk))
 |[],_,_,_,_=>by simp
 |k :: ks,v :: a,t :: d,j,g=>by
  rw[Zo,ZM,ZM,Xz,Xz,su (by simpa using j) (by simpa using g)];have:decide (k=kk)=eqT (aE k) (aE kk):=by rw[Xo,decide_eq_true_eq];exact(gw kk k).symm
  rw[this]
 |_ :: _,[],_,h,_=>by simp at h
 |_ :: _,_ :: _,[],_,h=>by simp at h
def uE(u:Rp G H q t []){a:List Key}{g:List V}(d:a.length=g.length)(l:RpL G H g j s) :
  ∃(r:List Key)(f:List V)(m:Ul)(n:Xc),putK (a.zip g) kk q=r.zip f/\r.length=f.length/\dput ((a.map aE).zip j) (aE kk) t=(r.map aE).zip m/\RpL G H f m n/\n.flatten.Sublist s.flatten:=by
 unfold putK dput;rw[(su (kk:=kk) d (d.trans l.len.1))];by_cases h:(((a.map aE).zip j).any λp=>eqT p.1 (aE kk))=B
 ·rw[Zr h,Zr h];refine L2.ai λC v=>?_;obtain⟨f,m,n,A,z,y,x,w⟩:=uW u d l;refine v ?_;exact⟨a,f,m,n,A,z,y,x,w⟩
 ·rw[Zq h,Zq h];refine⟨a++[kk],g++[q],j++[t],s++[[]],?_,by simp[d],?_,l.append (.cons u .nil),by simp⟩
  ·rw[XA d];rfl
  ·rw[Yz,XA (by rw[Zu];exact d.trans l.len.1)];rfl
def CO:AR:=λo i v H Q=>CQ o i v H Q\/∃a d,o=.ref a/\tU H a i v d/\Q d
def xm{X:Cx}(n:X.A.units+1<cLine):FA X CO:=by
 intro d s O H o i v m iv u Q I j l f h;rcases h with h | ⟨a,r,rfl,g,q⟩
 ·exact set_list d s O H o i v m iv u Q I j l f h
 ·cases j;exact wc n I g l f λt p=>⟨r,p,q⟩
def kE{X:Cx}{pos:Pos}(J:jF G)(hr:xh kr X.A)(ho:LV G X o i way)(hk:PV G X b ck)(he:PV G X e ce)(ha:∀v,assign (.Subscript o b pos') X.env v=(do
   let Q ← holding [v] (eval o X.env)
   let iv ← holding [v,Q] (eval b X.env)
   standAt pos'
   holding [v,Q,iv] (setItem Q iv v)
   release [v,Q,iv] []):=by exact λ_=>rfl)(hs:{`q8,swapsWithSole [.Subscript o b pos'] e pos.line X.env=pure L})(hw:{`q8,swappedStores [.Subscript o b pos'] e X.env=pure none})(E:{`q8,(assignEach [.Subscript o b pos'] X.env).map (·.2)=[assign (.Subscript o b pos') X.env]}):PSV G X (.Assign [.Subscript o b pos'] e pos) (fA i way ck ce) :=
 PS.weak (t7 he (t8 ho hk (xm (kM hr)) ha) hs hw E) λD O H hq=>by
  obtain⟨R,U,out,s,e,k⟩:=hq;refine L2.ai λP_ S=>?_;obtain⟨⟨mv,C⟩,ev,e⟩:=Zz.mp e;split at e
  ·rename_i t Y;obtain⟨ks,ek,e⟩:=Zz.mp e;obtain⟨⟨mk,f⟩,Mv,e⟩:=Zz.mp e;obtain⟨⟨t',y'⟩,e5,e6⟩:=Zt.mp e;cases e6;obtain⟨v,g1,g2⟩:=s.rp _ _ Y;obtain⟨w,x,F1,x3,w1,w2,w3,y,w5⟩:=nW ks J g2 (s.nd i t Y) e5;refine S ?_;refine⟨R,U,mv,C,s,ev,λxv H1 Fv Jr rv fv=>?_⟩;refine⟨R,U,t,ks,v,w,s.same Jr,Y,g1,ek,w1.same Jr,λH2 IW=>⟨R,U,mk,f,(s.same Jr).same IW,Mv,λkv H3 Fk K7 rk fk=>?_⟩⟩;have m:=(Jr.trans IW).trans K7;have Ng:=(rv.same IW).same K7;have fin:∀N u,Chg G H w F1 x3 N u->D.nx O N:=λN u g=>by
    obtain⟨F2,Py⟩:=w5 N u g;obtain⟨z1,z2⟩:=s.mut Y g1 Py;exact k _ O N z1 z2
   refine L2.ai λP_ S=>?_;cases x with
   |lst l =>
    cases f with
    |int n =>
     obtain⟨tt,et,e7⟩:=Zz.mp (y);obtain⟨j,ej,e8⟩:=Zt.mp e7;cases e8;cases (mw et);obtain⟨a,vs,Fs,rfl,rfl,M,p⟩:=w2.lst_inv;have F:=m a _ M;have nd:=Zc.mp w3;have na:a∉Fv:=λz=>by rw[fv.2 a z]at M;cases M
     have q:Il (H3 a):=by rw[F];exact True.intro
     have off:=λd hb hv=>Il.xa (p.Iu d hb) (fv.2 d hv);refine S ?_;refine .inl ⟨a,vs,n,j,rfl,rk.int_inv,F,by rw[← uj,p.len.1];exact ej,fin _ (a :: (Fs.set j Fv).flatten) ?_⟩;refine Chg.upd m Zy q (.lst ar ((((p.same m).off q nd.1)).putAt j ((λr hn=>r.keep (Kept.upd (.inl q)) λd hb o' LH=>by rw[aw (λz=>hn (by rw[← z];exact hb))];exact LH) Ng na))) ?_ ?_
     ·rw[Zc];refine⟨λh=>?_,dS nd.2 fv.1 λi' u _ hi d hb=>off d (cM hi hb)⟩;rcases cq h with z | ⟨i',u,_,E,h2⟩
      ·exact na z
      ·exact nd.1 (cM E h2)
     ·intro d hb;rcases Zh.mp hb with rfl | hb
      ·exact .inl Zy
      ·rcases cq hb with z | ⟨i',u,_,E,h2⟩
       ·exact .inr (fv.2 d z)
       ·exact .inl (Zw _ (cM E h2))
    |_=>cases y
   |dct kd l =>
    cases kd with
    |zero =>
     have hc:(iw f=B/\Iw C=B/\l.length<d4)/\x3=.dct 0 (dput l f C):=by
      have Ov:(if iw f/\Iw C/\l.length<d4 then Z (T.dct 0 (dput l f C),()) else none)=Z (x3,y'):=y;split at Ov
      ·rename_i hc;cases Ov;exact⟨hc,rfl⟩
      ·cases Ov
     obtain⟨⟨c1,c2,c3⟩,rfl⟩:=hc;have eF:=Ng.Iw c2;subst eF;obtain⟨a,ns,vs,ts,Fs,rfl,rfl,M,hl,rfl,p⟩:=cW w2;obtain⟨kk,rfl,Nb⟩:=dh rk c1;subst Nb;have F:=m a _ M;have q:Il (H3 a):=by rw[F];exact True.intro
     have nd:=Zc.mp w3;obtain⟨Kt,Ll,Ls,KU,q1,q2,q3,q4,P⟩:=uE Ng hl (p.same m);refine S ?_;refine .inr ⟨a,_,rfl,tU.k F (by
      have:((ns.map aE).zip ts).length<16777216:=c3;rw[Yu,Zu]at this;rw[Yu];have:=p.len.1;have:(KF:Nat)=16777216:=rfl;lia),fin _ (a :: KU.flatten) ?_⟩
     rw[q1,q3];refine Chg.upd m Zy q (.dct ar q2 (q4.off q λz=>nd.1 (P.subset z))) ?_ ?_
     ·exact Zc.mpr ⟨λz=>nd.1 (P.subset z),nd.2.sublist P⟩
     ·intro d hb;rcases Zh.mp hb with rfl | hb
      ·exact .inl Zy
      ·exact .inl (Zw _ (P.subset hb))
    |succ n=>cases y
   |_=>cases y
  ·cases e
end
def Et{K:Ww}{b:Ur}(e:yI H)(d:Iv K H a (b.map V.int)):kW K H a b:=by
 rcases d with h | h
 ·rcases h with h | h
  ·rcases e a with z | ⟨o,f,z⟩
   ·rw[z]at h;cases h
   ·rw[z]at h;cases h
  ·exact .inl h
 ·exact .inr h
def FC{G:Gx}(d:g [.scr b]=Z (.fr,.bl B))(f:yI H)(e:Iv G.K H a (b.map V.int)):KI G g [.ref a] H (λv _=>v=.bl B) E :=
 ⟨[.scr b],[[]],.fr,.bl B,.cons (.scr (Et f e)) .nil,d,λv h F _ r _=>r.Jw⟩
def TZ(K:Ww):Gx:=⟨K,λ_=>(0,λk=>⟨#[k]⟩),λ_=>J⟩
def xE{l:PySem.W.OpenLaw}{d:DefRec}{K:Params->Ww}{g:Fn}{x:Str}{k:Nat}(m:l.most=Z 63)(t:d.params.defaults=[])(j:xh k callerA)(n:∀ns:Ur,g [.scr ns]=Z (.fr,.bl B))(F:∀(w:XAA)(mg:Wp)(e:KM)(h:UV),(K w.params).In h->h.Ns mainGlobals mg->mg d.name=Z (.ref e) →
   ∃fd:P3,(∀(s:IR)(u:On),BindsTo s fd ⟨[u],[]⟩ [(x,u)])/\∀base:UV,(K w.params).In base->base.Ns mainGlobals mg->FnOk l.prog w (K w.params) mg base Jb k e fd [x] (KI (TZ (K w.params)) g)) :
  PySem.W.WalkO q b r (λw h=>(K w.params).In h) l.row.toRowW d [] (λf i=>PySem.call f i) :=
 L2.AY (k:=k) (x:=x) m (by decide) t j (λ_ _ h=>h) F (λw H a ns _ p o=>FC (n ns) p o) λ_ _ _ _ _ z=>z
end VS
end
section
namespace L2
open PySem PySem.Spec PyProof.Rows
section
def tZ{X:Cx}(y:X.calm=B):dD X (.type "list") (λf H Q=>∃x:Str,f=[.str x]/\x.cps.size<=KF/\∀l,H l=J->Q (.ref l) (upd H l (.lst (x.cps.toList.map λc=>V.str ⟨#[c]⟩)))):=by
 intro j s O H f A Q I p h;obtain⟨x,rfl,m,q⟩:=h;obtain⟨u,rfl,t,rfl⟩:=vals1 p;refine call_list_str (I.ok.hd y) x t (λz C acc c kp g o=>?_) m;refine⟨.ref s.heap.objs.size,_,I.laid kp (Zn _) (show cU X.prog X.w _ z _ (.lst (x.cps.toList.map λc=>V.str ⟨#[c]⟩)) from⟨by rw[Zu,YS];exact m,acc.toList,c,(by
  have key:∀(b:Us)(a:W7),b.length=a.length->(∀(i:Nat)(v:On),a[i]?=Z v->∃c u,b[i]?=Z c/\v=.str ⟨#[c]⟩ u)->aM (b.map λc=>V.str ⟨#[c]⟩) a:=by
   intro b
   induction b with
   |nil =>
    intro a e _;cases a with
    |nil=>exact .nil
    |cons v a=>simp at e
   |cons c b r =>
    intro a e hg;cases a with
    |nil=>simp at e
    |cons v a =>
     obtain⟨d,u,e1,e2⟩:=hg 0 v Y;cases e1;exact .cons ⟨u,e2⟩ (r a (by simpa using e) λi w hw=>by simpa using hg (i+1) w (by simpa using hw))
  refine key _ _ (by rw[YS,YS,o.1]) λi v n=>?_;rw[Z2]at n;obtain⟨d,u,e1,e2⟩:=o.2 i v n;exact⟨d,u,by rw[Z2];exact e1,e2⟩),g⟩),rfl,q _ (I.xt.fresh (Zn _))⟩
end
end L2
namespace VS
open PySem PySem.Spec PyProof.Rows L2
section
def lN:Uo->Um
 |[(m,.lst l)]=>Lm m l
 |[(m,.tup l)]=>Lm m l
 |[(_,.str s)]=>Lm .fr (s.map λc=>.str [c])
 |_=>J
def xO:eZ G (λd H Q=>C0 G.K d H Q\/∃x:Str,d=[.str x]/\x.cps.size<=KF/\∀l,H l=J->Q (.ref l) (upd H l (.lst (x.cps.toList.map λc=>V.str ⟨#[c]⟩)))) lN:=by
 intro R U i H l f j m t Q A e k;unfold lN at e;split at e
 ·exact .inl (uU R U i H _ f j m t Q A e k)
 ·exact .inl (uU R U i H _ f j m t Q A e k)
 ·rename_i C x;obtain⟨v,F,rfl,rfl,h⟩:=(A.rp).one;have g:=h.str_inv.2;refine .inr ⟨sx x,by rw[h.str_inv.1],?_,λq r=>?_⟩
  ·have:=g.1;exact this
  ·have z:(sx x).cps.toList.map (λc=>V.str ⟨#[c]⟩)=(x.map λc=>[c]).map λs=>V.str (sx s):=by
    simp[sx]
   have w:(x.map λc=>T.str [c])=(x.map λc=>[c]).map T.str:=by simp
   rw[z];rw[w]at e;refine jD A.same e (pV (G:=G) (H:=H) (ss:=x.map λc=>[c]) λs o=>by
    obtain⟨c,u,rfl⟩:=Yv.mp o;exact⟨by show 1<=d4;decide,λy n=>by rw[Zl.mp n];exact g.2 c u⟩) ?_ k q r
   rw[nR];exact Fp.nil
 ·cases e
def vd{X:Cx}(d:X.mg "list" = J)(h:Jj G X [e] cs)(f:{`q2,Gl X "list"})(i:{`q2,X.K=G.K})(g:{`q2,X.calm=B})(he:{`q2,K1 e [] X}):PV G X (.Call (.Name "list" p) [e] [] pos) (eN lN cs) :=
 lu (pY.or (tZ g)) (i ▸ xO) f d Bk h (he:=he)
end
end VS
end
section
open PySem PyProof.Rows
namespace TS
noncomputable abbrev Ky:=Sum Int Str
noncomputable def Ki:Ky->Ky->Bool
 |.inl i,.inl j=>decide (i<j)
 |.inr x,.inr y=>decide (x.cps.toList<y.cps.toList)
 |_,_=>L
def eO:List Ky->List Ky->Bool
 |[],[]=>L
 |[],_ :: _=>B
 |_ :: _,[]=>L
 |a :: d,b :: bs=>if a=b then eO d bs else Ki a b
noncomputable def kind(k:Ky):Bool:=k.isLeft
def BR{x y:Str}(h:x.cps.toList=y.cps.toList):x=y:=by
 cases x;cases y;simp only[Str.mk.injEq];exact Array.toList_inj.mp h
def Bi(a:Ky):Ki a a=L:=by
 cases a with
 |inl i=>simp[Ki]
 |inr x=>simp[Ki,Xh]
def sC(h:Ki a b=B):Ki b a=L:=by
 cases a<;>cases b<;>simp only[Ki,decide_eq_true_eq,decide_eq_false_iff_not,Y8]at h ⊢
 ·lia
 ·exact λq=>Xh _ (VO h q)
def v9(h:Ki a b=B)(d:Ki b c=B):Ki a c=B:=by
 cases a<;>cases b<;>cases c<;>simp only[Ki,decide_eq_true_eq,Y8]at h d ⊢
 ·lia
 ·exact VO h d
def u4(k:kind a=kind b)(h:Ki a b=L)(d:Ki b a=L):a=b:=by
 cases a<;>cases b<;>simp only[Ki,decide_eq_false_iff_not,kind,Sum.isLeft,VG,Y8]at h d k ⊢
 ·congr 1;lia
 ·congr 1;exact BR (Uw (WV.mp d) (WV.mp h))
theorem oQ:∀{l m:List Ky},eO l m=B->eO m l=L
 |[],[],h=>by simp[eO]at h
 |[],_ :: _,_=>rfl
 |_ :: _,[],h=>by simp[eO]at h
 |a :: l,b :: m,h=>by
  unfold eO at h ⊢;by_cases e:a=b
  ·rw[Zr e]at h;rw[Zr e.symm];exact oQ h
  ·rw[Zq e]at h;rw[Zq (YN e)];exact sC h
theorem vh:∀{l m n:List Ky},l.map kind=m.map kind->m.map kind=n.map kind->eO m l=L->eO n m=L->eO n l=L
 |[],[],[],_,_,_,_=>rfl
 |[],[],_ :: _,_,h,_,_=>by simp at h
 |[],_ :: _,_,h,_,_,_=>by simp at h
 |_ :: _,[],_,h,_,_,_=>by simp at h
 |_ :: _,_ :: _,[],_,h,_,_=>by simp at h
 |a :: l,b :: m,c :: n,i,g,f,d=>by
  simp only[Zo,Wr]at i g;unfold eO at f d ⊢;by_cases e1:b=a
  ·subst e1;rw[Zr Y]at f;by_cases e2:c=b
   ·rw[Zr e2]at d ⊢;exact vh i.2 g.2 f d
   ·rw[Zq e2]at d ⊢;exact d
  ·rw[Zq e1]at f;by_cases e2:c=b
   ·subst e2;rw[Zq e1];exact f
   ·rw[Zq e2]at d;have j:=v9 (by
    cases q:Ki a b with
    |true=>rfl
    |false=>exact absurd (u4 i.1 q f).symm e1) (by
     cases q:Ki b c with
     |true=>rfl
     |false=>exact absurd (u4 g.1 q d).symm e2)
    rw[Zq (λe=>by rw[e,Bi]at j;cases j)];exact sC j
noncomputable def Oo:Ky->On->Prop
 |.inl i,v=>∃t,v=.int i t
 |.inr x,v=>∃t,v=.str x t
inductive J8:List Ky->W7->Prop where
 |nil:J8 [] []
 |cons {k:Ky} {v:On} {ks:List Ky} {vs:W7}:Oo k v->J8 ks vs->J8 (k :: ks) (v :: vs)
def Oo.fn(h:Oo k v)(b:Oo a v):k=a:=by
 cases k<;>cases a<;>obtain⟨t,rfl⟩:=h<;>obtain⟨d,e⟩:=b<;>cases e<;>rfl
theorem J8.fn:∀{ks b:List Ky}{a:W7},J8 ks a->J8 b a->ks=b
 |_,_,_,.nil,.nil=>rfl
 |_,_,_,.cons h q,.cons e d=>by rw[h.fn e,q.fn d]
noncomputable def jV(h:UV)(v:On)(a:List Ky):Prop:=∃b o items n,v=.ref b/\h.get? b=Z o/\o.cls=.type "tuple" ∧ o.data=.seq items n/\J8 a items.toList
theorem jV.fn(x:jV h v f)(y:jV h v a):f=a:=by
 obtain⟨b,o,items,n,rfl,g,_,d,k⟩:=x;obtain⟨q,m,r,p,e,i,_,j,l⟩:=y;cases e;rw[g]at i;cases i;rw[d]at j;cases j;exact k.fn l
def G9(d:kind k=kind a)(h:Oo k v)(f:Oo a b)(q:Q (decide (k=a)) s):PP (KB prog w) A (eqBool v b) Q E s:=by
 cases k<;>cases a<;>simp only[kind,Sum.isLeft,VG,Y8]at d<;>obtain⟨t,rfl⟩:=h<;>obtain⟨g,rfl⟩:=f
 ·exact wpAny_eqBool_int (by have e:∀i j:Int,(i==j)=decide (Sum.inl (β:=Str) i=.inl j):=λi j=>by by_cases z:i=j<;>simp[z]
                             rw[e];exact q)
 ·exact wpAny_eqBool_str (by simpa using q)
def Gg(e:kind k=kind a)(h:Oo k v)(f:Oo a d)(q:Q (Ki k a) s):PP (KB prog w) A (oneLt' b v d) Q E s:=by
 cases k<;>cases a<;>simp only[kind,Sum.isLeft,VG,Y8]at e<;>obtain⟨t,rfl⟩:=h<;>obtain⟨g,rfl⟩:=f
 ·cases b with
  |true=>exact oneLt_int q
  |false =>
   rw[oneLt'_eq,Zq Zf];exact Zx (PyProof.Rows.lt_int (YM q))
 ·cases b with
  |true=>exact oneLt_str q
  |false =>
   rw[oneLt'_eq,Zq Zf];exact Zx (PySem.P.lt_str (YM q))
def wo(a b:Ky)(l m:List Ky):eO (a :: l) (b :: m)=if a=b then eO l m else Ki a b:=rfl
def Ez{s:IR}(hx:jV s.heap x j)(hy:jV s.heap y r)(S:j.map kind=r.map kind)(q:Q (eO j r) s):PP (KB prog w) A (keyLt' (tuples' f) x y) Q E s:=by
 obtain⟨b,o,items,n,rfl,g,_,d,k⟩:=hx;obtain⟨b',o',X,n',rfl,g',_,d',R⟩:=hy;refine(?_);refine Zx (listItems_at g d (Zx (listItems_at g' d' ?_)));have P:items.size=X.size:=by
  have e1:∀{j:List Ky}{l:W7},J8 j l->j.length=l.length:=λh=>by induction h with | nil=>rfl | cons _ _ Y=>simp[Y]
  have h1:=e1 k;have h2:=e1 R;have h3:=Z5 List.length S;simp at h1 h2 h3;lia
 refine Zx (Xw _ (λrest b N=>b=(J,())/\N=s/\∃(D C:List Ky)(l F:W7)(i:Nat),rest=(l.zip F).zipIdx i/\J8 D l/\J8 C F/\D.map kind=C.map kind/\eO j r=eO D C) _ ?turn ?fin _ _ ⟨rfl,rfl,j,r,_,_,0,rfl,k,R,S,rfl⟩)
 case turn =>
  rintro x rest b N ⟨rfl,rfl,D,C,l,F,i,e,z,t,p,m⟩;cases z with
  |nil=>simp at e
  |@cons a v Qx H U z =>
   cases t with
   |nil=>simp at e
   |@cons b u O M hb t =>
    obtain⟨rfl,rfl⟩:=e;simp only[Zo,Wr]at p;refine Zx (G9 p.1 U hb ?_);rw[wo]at m;by_cases G:a=b
    ·rw[Zr G]at m;rw[decide_eq_true G,Zq (by simp)];exact Zm ⟨rfl,rfl,Qx,O,H,M,i+1,rfl,z,t,p.2,m⟩
    ·rw[Zq G]at m;rw[ZK G,Zr (by simp)];refine Zx (Gg p.1 U hb (Zm (Zm ?_)));rw[← m];exact q
 case fin =>
  rintro b N ⟨rfl,rfl,D,C,l,F,i,e,z,t,p,m⟩;have:eO j r=decide (items.size<X.size):=by
   rw[m,P];cases z with
   |nil =>
    cases t with
    |nil=>simp[eO]
    |cons _ _=>simp at p
   |cons _ _ =>
    cases t with
    |nil=>simp at p
    |cons _ _=>simp at e
  refine Zm ?_;rw[← this];exact q
theorem p7{α β:Type}{f:α->Sem β}{P:β->Prop}:∀{b:List α}{Q:List β->IR->Prop},(∀v∈b,∃x,P x/\∀(Q:β->IR->Prop),Q x s->PP (KB prog w) A (f v) Q E s)->(∀a:List β,a.length=b.length->(∀x∈a,P x)->Q a s)->PP (KB prog w) A (b.mapM f) Q E s
 |[],Q,_,q=>by
  rw[List.mapM_nil];exact Zm (q [] Y (by simp))
 |v :: b,Q,h,q=>by
  rw[List.mapM_cons];obtain⟨x,px,g⟩:=h v Zy;refine Zx (g _ (Zx (p7 (λu i=>h u (Zw _ i)) λa l j=>Zm (q _ (by simp[l]) λy d=>?_))));rcases Zh.mp d with e | e
  ·rw[e];exact px
  ·exact j y e
def zH{s:IR}{u:W7}{k0:Bool}{sh:List Bool}{Q:SortKind->IR->Prop}(h2:0<u.length)(hv:∀v∈u,∃ks,jV s.heap v ks/\ks.map kind=k0 :: sh)(q:Q (tuples' B) s):PP (KB prog w) A (keyKind' u.toArray) Q E s:=by
 have fst:∀v∈u,∃x,(∀(Q:Ut->IR->Prop),Q (Z x) s->PP (KB prog w) A (firstOfTuple' v) Q E s)/\(∀(Q:Z9),Q (.type (if k0 then "int" else "str")) s->PP (KB prog w) A (typeOf x) Q E s):=λv p=>by
  refine L2.ai λP_ F=>?_;obtain⟨ks,⟨b,o,items,n,rfl,g,c,d,k⟩,C⟩:=hv v p;refine F ?_;cases G:items.toList with
  |nil =>
   rw[G]at k;cases k;simp at C
  |cons x j =>
   rw[G]at k;cases k with
   |@cons a _ Qx _ O k1 =>
    simp only[Zo,Wr]at C;have hx:items[0]?=Z x:=by rw[← Z2,G];rfl
    refine⟨x,λQ q=>?_,λQ q=>?_⟩
    ·refine(Zx (wpAny_typeOf ⟨o,g,c⟩ ?_));rw[Zq (by decide)];refine Zx (listItems_at g d (Zm ?_));rw[hx];exact q
    ·cases a with
     |inl i =>
      obtain⟨t,rfl⟩:=O;have:=C.1.symm;subst this;exact wpAny_typeOf Y q
     |inr y =>
      obtain⟨t,rfl⟩:=O;have:=C.1.symm;subst this;exact wpAny_typeOf Y q
 obtain⟨r,R⟩:∃r:String,r=(if k0 then "int" else "str"):=⟨_,rfl⟩
 have Ke:(Value.type r != Value.type "tuple")=B:=by subst R;cases k0<;>decide
 rw[← R]at fst;have mp:∀{α β:Type}(f:α->Sem β)(l:List α)(Q:Array β->IR->Prop),PP (KB prog w) A (l.mapM f) (λj U=>Q j.toArray U) E s->PP (KB prog w) A (l.toArray.mapM f) Q E s:=λf l Q p=>by
  rw[List.mapM_toArray];exact Zx (YD p (λ_ _ z=>Zm z) λ_ _ e=>e)
 rw[keyKind'_eq];refine Zx (mp _ _ _ (p7 (P:=λo=>∃x,o=Z x/\∀(Q:Z9),Q (.type r) s->PP (KB prog w) A (typeOf x) Q E s) (λv p=>by
  obtain⟨x,h1,M⟩:=fst v p;exact⟨Z x,⟨x,rfl,M⟩,h1⟩) λj hl H=>?_))
 rw[Zr (by
  rw[List.all_toArray,Z6];intro o m;obtain⟨x,rfl,_⟩:=H o m;rfl)]
 refine Zx (Wc (Zx ?_));rw[oneTypeOnly'_eq];have hf:(j.toArray.filterMap id)=(j.filterMap id).toArray:=by simp
 rw[hf];refine Zx (mp _ _ _ (p7 (λv p=>by
  refine L2.ai λP_ F=>?_;obtain⟨o,m,e⟩:=VJ.mp p;obtain⟨x,rfl,M⟩:=H o m;cases e;refine F ?_;exact⟨_,rfl,M⟩) λD Jk N=>?_))
 have hfl:(j.filterMap id).length=j.length:=by
  have:∀l:List (Ut),(∀o∈l,∃x,o=Z x)->(l.filterMap id).length=l.length:=λl=>by
   induction l with
   |nil=>intro _;rfl
   |cons o l X =>
    intro h;obtain⟨x,rfl⟩:=h o Zy;simp[X λo m=>h o (Zw _ m)]
  exact this j λo m=>let ⟨x,e,_⟩:=H o m;⟨x,e⟩
 cases D with
 |nil=>simp at Jk;lia
 |cons S D =>
  have e0:=N S Zy;subst e0;have e1:(Value.type r :: D).toArray[0]?=Z (Value.type r):=rfl;rw[e1];dsimp only;rw[Zr (by
   rw[List.all_toArray,Z6];intro y hy;rw[N y hy];simp)]
  refine Zm (Zm ?_);simp only[Option.any_some,Ke];exact q
def GT(h:UV)(a:List Bool)(x:Pi):Prop:=∃ks,jV h x.1 ks/\ks.map kind=a
open Classical in
def rT(h:UV)(x y:Pi):Bool:=decide (∃ks a,jV h x.1 ks/\jV h y.1 a/\eO ks a=B)
open Classical in
def nr{x y:Pi}(f:jV h x.1 b)(d:jV h y.1 a):rT h x y=eO b a:=by
 unfold rT;cases e:eO b a with
 |true=>exact decide_eq_true ⟨b,a,f,d,e⟩
 |false =>
  refine ZK λ⟨m,l,i,j,g⟩=>?_;rw[i.fn f,j.fn d,e]at g;cases g
def BX{s:IR}(m:∀v ks,jV h v ks->jV s.heap v ks):JL prog w A E s (tuples' f) (GT h n) (rT h):=by
 refine⟨?_,?_,?_⟩
 ·rintro st x y Q e ⟨ks,b,ex⟩ ⟨j,a,d⟩ q;rw[lt'_eq];refine ZW (Vg ?_);rw[e];rw[nr b a]at q;exact ZW (wpS_lift (wpAny_attempt (Ez (m _ _ b) (m _ _ a) (ex.trans d.symm) ⟨rfl,ZX q⟩)))
 ·rintro x y ⟨ks,b,_⟩ ⟨j,a,_⟩ q;rw[nr b a]at q;rw[nr a b];exact oQ q
 ·rintro x y z ⟨ks,b,ex⟩ ⟨j,a,d⟩ ⟨p,l,o⟩ i g;rw[nr a b]at i;rw[nr l a]at g;rw[nr l b];exact vh (ex.trans d.symm) (d.trans o.symm) i g
end TS
end
section
namespace ST
open PySem PySem.Spec PyProof.Rows
noncomputable abbrev dO(a:Array DictEntry)(b:Nat):Obj:={ cls:=.type "dict",data:=.dict a b }
noncomputable abbrev kO(d:KM)(i n a:Nat):Obj:={ cls:=.type "dict_keyiterator",data:=.fields #[.ref d,.int i 0,.int n 0,.int a 0] }
def rG{s:IR}(f:(d==sysModules)=L)(a:s.heap.get? d=Z (dO b e))(q:Q (.ref s.heap.objs.size) { s with heap:=s.heap.push (kO d 0 b.size e) }) :
  PP (KB prog w) A (pyIter (.ref d)) Q E s:=by
 have ty:s.TypeIs (.ref d) "dict" := ⟨_,a,rfl⟩
 refine wpAny_pyIter_slot ty F.slot_dict_iter (Y3 F.slot_dict_iter ty F.entry_dict_iter (?_) (F.args_dict_iter_1 _));unfold Builtin.«dict.__iter__» Builtin.Dict.dictSlotNone Builtin.Dict.showsAll;refine Zx (Zx (wpAny_notOrdered_dict ty (Zm (Zx (Zm ?_)))));rw[Zq (by rw[f];exact Zf)];exact Zx (Zm (Zx (wpAny_dictEntries a Y (Zx (wpAny_dictEpoch a Y (Zx (Vq (Zm ⟨_,rfl, "dict_keyiterator",_,⟨_,ZD _ Y,rfl⟩,Xj.lookup,q⟩))))))))
def kG{A:SB}{s:IR}{h:Array DictEntry}(t:A.handled=J)(l:s.heap.get? I=Z (kO d i h.size m))(n:s.heap.get? d=Z (dO h m))(y:∀e,h[i]?=Z e->∀a,Heap.SameBut I s.heap a->a.get? I=Z (kO d (i+1) h.size m)->Q (Z e.key) { s with heap:=a })(u:h[i]?=J->∀a,(∀b o,b≠I->s.heap.get? b=Z o->a.get? b=Z o)->Q J { s with heap:=a }):PP (KB prog w) A (pyNext (.ref I)) Q E s:=by
 have ty:s.TypeIs (.ref I) "dict_keyiterator" := ⟨_,l,rfl⟩
 refine Zx (wpAny_attempt (wpAny_callSpecial?_slot ty Xj (Y3 Xj ty F.entry_dict_keyiterator_next (YD
  (Q:=λf j=>∃v,f=.done (.ret v)/\Q (Z v) j) (E:=λe j=>∃x,e=.ref x/\(∃o,j.heap.get? x=Z o/\o.cls=.type "StopIteration")/\Q J j) ?_ (λf j ⟨v,e,q⟩=>⟨v,e,Zm q⟩) λe j ⟨x,e1,⟨o,g,c⟩,q⟩=>?_) (F.args_dict_keyiterator_next_1 _))))
 ·refine Zx (Zm (Zx (Zx (Zx (WH ty (Zm (Zx (wpAny_fieldsOf l Y ?_))))))));have own:Builtin.Dict_items.ownsTuple "dict_keyiterator" = L:=rfl;refine(show PP _ _ (if (Value.ref d==Value.none)=B then _ else _) _ _ s from ?_);rw[Zq (λe:(Value.ref d==Value.none)=true=>Zf e)];refine Zx (Zm (Zx (wpAny_dictEntries n Y ?_)));rw[Zq (by simp)];refine Zx (Zm (Zx (wpAny_dictEpoch n Y ?_)));rw[Zq (by simp)];refine Zm ?_;simp only[show ¬((i:Int)<0) from by lia,↓reduceIte,Xq];cases he:h[i]? with
  |some e =>
   have p:(s.heap.update I (Obj.mapFields (·.setIfInBounds 1 (rawInt ((i:Int)+1))))).get? I=Z (kO d (i+1) h.size m):=VH _ l Y;refine Zx (Zx (WH ty (Zm (Zx (wpAny_isOneOf_keyiter ty ?_)))));refine(Zx (wpAny_setField l Y (by show 1<4;decide) (Zx (Xf ?_))));refine Zx (wpAny_isOneOf_keyiter ⟨_,p,rfl⟩ ?_);refine(Zm (Zm ⟨_,rfl,y e he _ (W0 ..) p⟩))
  |none =>
   refine Zx (Zx (WH ty (Zm ?_)));refine(Zx (wpAny_setField l Y (by show 0<4;decide) (Hm t λa x kp r=>⟨x,rfl,r,u he a λb o hb e=>kp b o ?_⟩)));rw[WU _ _ (YN hb)];exact e
 ·subst e1;exact Zx (Wq ⟨o,g,c⟩ isSubtype_stop (Zm q))
end ST
end
section
namespace L2
open PySem PySem.Spec PyProof.Rows TS
section
theorem xK:∀{ks:List Key}{a:W7},aM (ks.map kV) a->J8 ks a
 |[],[],_=>.nil
 |k :: ks,v :: a,h=>by
  cases h with
  |cons r q =>
   refine .cons ?_ (xK q);cases k with
   |inl i=>exact r
   |inr x=>exact r
def BP{b:List Key}(f:Jm P w H h)(e:H a=Z (.tup (b.map kV))):jV h (.ref a) b:=by
 obtain⟨_,d,r,_,o,j,i,n,g⟩:=(f a _ e)
 exact⟨a,o,d.toArray,n,rfl,j,i,g,xK r⟩
end
end L2
end
section
namespace VS
open PySem PySem.Spec PyProof.Rows L2 TS
section
def kT(k:List Key):T:=.tup (k.map aE)
theorem qZ:∀(k k':List Key),kU (k'.map aE) (k.map aE)=B↔k'=k
 |[],[]=>by simp[kU]
 |[],_ :: _=>by simp[kU]
 |_ :: _,[]=>by simp[kU]
 |a :: k,b :: k'=>by
  simp only[Zo,kU,YI,qZ k k',gw,Wr]
def ED(k d:List Key):eqT (kT d) (kT k)=B↔d=k:=by
 exact qZ k d
def BW(k d:List Key):eqT (kT d) (kT k)=decide (d=k):=by rw[Xo,decide_eq_true_eq];exact ED k d
end
end VS
namespace VS
open PySem PySem.Spec PyProof.Rows L2
def GA{i:Int}:PV G X (.UnaryOp .USub (.Constant (.int i) j p) a) (Q3 (-i)) :=
 PE.weak (Ho DG qO) λO H Q b=>by
  obtain⟨R,U,m,t,s,e,k⟩:=b;cases (e);exact⟨i,rfl,k _ H [] (aI.refl _) (.int _) Fp.nil⟩
end VS
end
section
namespace L2
open PySem PySem.Spec PyProof.Rows
section
def BG:V->List V->Hp->VK->Prop:=λx d H Q=>∃(a:KM)(b:List (Key×V))(k:Key)(y:V),x=.ref a/\d=[kV k,y]/\H a=Z (.dK b)/\b.length<KF ∧
 (∀v,cF b k=Z v->Q v H)/\(cF b k=J->Q y (upd H a (.dK (putK b k y))))
def wU:NU X "dict.setdefault" BG:=by
 intro g s O H x N v P Q I o p h;refine L2.ai λU C=>?_;obtain⟨a,f,k,y,rfl,rfl,e,R,A,t⟩:=h;cases o;obtain⟨u,n,rfl,r,j⟩:=p.two;obtain⟨z,hd,m,rel,i⟩:=ou I.xt e;refine C ?_;have b:=rel.val k;refine call_meetsIn XB i.typeIs PySem.F.entry_dict_setdefault (Uz _ _ _) (kt_meets_setdefault (aQ X.prog X.w) a (lX r) hd n) ⟨m,i,(by rw[← rel.length];exact z),λv D=>?_,λM S l E=>?_⟩
 ·rw[D]at b;cases d:cF f k with
  |none=>rw[d]at b;cases b
  |some w =>
   rw[d]at b;exact⟨w,H,I.tok _,b,A w d⟩
 ·rw[M]at b;exact⟨y,_,iu I (by rw[e];exact True.intro) E (let ⟨q,_,_,G,_⟩:=l;⟨q,G⟩) (pN (by have:=gr f k y;lia) hd (rel.put k j) l),j,t (by
   cases d:cF f k with
   |none=>rfl
   |some w=>rw[d]at b;cases b)⟩
end
end L2
namespace VS
open PySem PySem.Spec PyProof.Rows L2
section
def c9(l:List (T×T))(k:T):List (T×T):=if (cH l k).isSome then l else l++[(k,.lst [])]
def jZ(i:Nat)(k:Ex)(v:IE)(U:VS.Env):Option Out:=match U[i]? with
 |some (some (.ow (.dct 0 l)))=>(k U).bind λd=>if iw d.2/\l.length<d4 then
   (v (U.set i (Z (.ow (.dct 0 (c9 l d.2)))))).bind λf=>(pm (λx=>aC x f) [.at d.2] (.dct 0 (c9 l d.2))).map λz=>.nx (U.set i (Z (.ow z.1))) else J
 |_=>J
def Chg.none(d:aI H f)(r:Rp G H v t F)(g:F.Nodup):Chg G H v F t f F :=
 ⟨Kept.of d,λb o _ h=>d b o h,λb h z=>h (d.free z),r.same d,g,λa j=>.inl j⟩
def EX{a:KM}{L:List (T×T)}(r:Rp G H (.ref a) (.dct 0 L) F)(E:F.Nodup)(e:pm f [.at (aE d)] (.dct 0 L)=Z (l,y))(N:H a=Z (.dK U))(hw:cF U d=Z w) :
  ∃x v A,Rp G H w x v/\v.Nodup/\f x=Z (A,y)/\∀t Mi,Chg G H w v A t Mi->∃F',Chg G H (.ref a) F l t F':=by
 have e:((L.findIdx? λp=>eqT p.1 (aE d)).bind λi=>(L[i]?).bind λp=>(pm f [] p.2).map λz=>(T.dct 0 (L.set i (p.1,z.1)),z.2))=Z (l,y):=by
  cases d<;>exact e
 refine L2.ai λP_ k_=>?_;obtain⟨i,P,e⟩:=Zz.mp e;obtain⟨p,O,e⟩:=Zz.mp e;obtain⟨⟨z,y'⟩,e1,e2⟩:=Zt.mp e;cases e2;obtain⟨a',ns,vs,j,Fs,ea,rfl,M,s,rfl,m⟩:=cW r;cases ea;rw[N]at M;cases M;have Y:(ns.map aE).length=j.length:=by rw[Zu];exact s.trans m.len.1
 obtain⟨q,h,R,Q,g3,g4⟩:=js (λn=>eqT n (aE d)) Y P;have ep:p=(q,h):=by
  have:((ns.map aE).zip j)[i]?=Z (q,h):=by rw[Ya];exact⟨R,Q⟩
  rw[this]at O;exact(Zg O).symm
 subst ep;obtain⟨u,Fi,D,C,u3⟩:=m.get i Q;have S:=pS (by simpa using Y) s P D;rw[hw]at S;cases S;refine k_ ?_;refine⟨h,Fi,z,u3,((Zc.mp E).2).sublist (cz C),e1,λt Mi g=>?_⟩;obtain⟨s1,s2,s3,s4,s5⟩:=ku N m E D C g;refine⟨_,g.kept,s5,g.Iu,?_,s3,s4⟩;rw[kg (ns.map aE) j i q z R];exact .dct s1 s s2
def xy{pos apos Mw:Pos}(J:jF G)(i:Nat)(hk:PV G X b ck)(hv:Jj G X [e] cs)(hK:X.K=G.K)(hN:X.N[i]?=Z x)(ON:KG X.env.scope x)(hd:K3 x)(hcd:K4 x)(Lf:XAB (.Name x p1) "setdefault" X.env (eval (.Name x p1) X.env)=eval (.Name x p1) X.env)(TH:((backTo Kx (Pv [b,.List [] lp] X.env)).all (λx=>!x.1)&&(backToKw Kx (SL [] X.env)).all (λx=>x.1.isSome)
   && decide ([b,Expr.List [] lp].length+([]:List Keyword).length+(if ([]:List Keyword).isEmpty then 0 else 1)<30))=B)(M8:(Mw.endLine==Kx.line)=B)(Od:Pv [b,.List [] lp] X.env=(L,eval b X.env) :: Pv [.List [] lp] X.env)(OP:Pv [.List [] lp] X.env=(L,eval (.List [] lp) X.env) :: Pv [] X.env)(Pp:(backTo Kx (Pv [.List [] lp] X.env)).any (·.1)=L)(Ms:XAB (.Call (.Attribute (.Name x p1) "setdefault" Mw) [b,.List [] lp] [] Kx) "append" X.env (eval (.Call (.Attribute (.Name x p1) "setdefault" Mw) [b,.List [] lp] [] Kx) X.env)=eval (.Call (.Attribute (.Name x p1) "setdefault" Mw) [b,.List [] lp] [] Kx) X.env)(TF:((backTo pe (Pv [e] X.env)).all (λx=>!x.1)&&(backToKw pe (SL [] X.env)).all (λx=>x.1.isSome)
   && decide ([e].length+([]:List Keyword).length+(if ([]:List Keyword).isEmpty then 0 else 1)<30))=B)(Jk:(apos.endLine==pe.line)=B)(L7:K1 e [] X)(NN:(backTo pe (Pv [] X.env)).any (·.1)=L)(JW:swapsWith (.Call (.Attribute (.Call (.Attribute (.Name x p1) "setdefault" Mw) [b,.List [] lp] [] Kx) "append" apos) [e] [] pe) none pos.line X.env=pure L) :
  PSV G X (.Expr (.Call (.Attribute (.Call (.Attribute (.Name x p1) "setdefault" Mw) [b,.List [] lp] [] Kx) "append" apos) [e] [] pe) pos) (jZ i ck cs) :=
 PS.weak (fY (nq Xv XU XW fu
  (nq W8 XB PySem.F.type_dict_setdefault wU (dk hN ON hd hcd) (dU hk (dU (p6 gE) gE OP) Od) Lf TH M8 Od Pp) hv Ms TF Jk L7 NN) JW) λD O H A=>by
  obtain⟨R,U,out,s,e,k⟩:=A;refine L2.ai λP_ t=>?_;unfold jZ at e;split at e
  ·rename_i l M;obtain⟨⟨mk,tk⟩,Mv,e⟩:=Zz.mp e;split at e
   ·rename_i hc;obtain⟨c1,c2⟩:=hc;obtain⟨lv,ev,e⟩:=Zz.mp e;obtain⟨⟨t',y'⟩,e5,e6⟩:=Zt.mp e;cases e6;obtain⟨v,g1,g2⟩:=s.rp _ _ M;have LB:=s.nd i _ M;obtain⟨a,ns,j,m,Fs,rfl,Q,ha,S,el,r⟩:=cW g2;subst el;rw[Q]at LB;refine t ?_;refine⟨.ref a,g1,by rw[hK];exact .inr (.inr (.inl ⟨rfl,.inl ⟨_,ha⟩⟩)),?_⟩;refine⟨R,U,mk,tk,s,Mv,λkv H1 Fk Jr rk fk=>⟨ZE _,λq A=>?_⟩⟩;refine L2.ai λP_ t=>?_;obtain⟨d,rfl,UA⟩:=dh rk c1;subst UA;refine t ?_;have fin:∀(n:Hp)(F3:W6)(OG:List (Key×V))(w:V),Chg G H (.ref a) (R i) (.dct 0 (c9 ((ns.map aE).zip m) (aE d))) n F3->n a=Z (.dK OG)->cF OG d=Z w →
      tyV X.K "list" w n/\P8 G cs O n (λNf H4=>mQ w Nf H4 (λ_ H5=>D.nx O H5)):=λn F3 OG w g h3 hw=>by
     refine L2.ai λP_ t=>?_;obtain⟨z1,z2⟩:=s.mut M g1 g;obtain⟨x',F1,x3,w2,w3,w4,w5⟩:=EX g.rp g.nd e5 h3 hw;refine t ?_;refine⟨by rw[hK];exact gy w2 w4,iJ R i F3,_,lv,z1,ev,λNf H4 PH q1 q2 q3=>?_⟩;refine jB (iJ R i F3) _ n H4 w x' x3 F1 lv Nf PH y' _ w2 w3 ⟨q1,q2,q3⟩ w4 λu H5 F' g5=>?_;obtain⟨F2,g6⟩:=w5 H5 F' g5;obtain⟨y1,y2⟩:=z1.mut (by
      have hi:i<U.length:=(ZZ.mp M).1;rw[XF hi]) g1 (by rw[gf];exact g6)
     rw[List.set_set]at y1 y2;exact k _ O H5 y1 (z2.trans y2)
    have E:aI H (upd H1 q (.lst [])):=Jr.trans (bZ A);have Ku:=E a _ ha;have dg:=jx (G:=G) (k:=d) S r;refine⟨a,ns.zip j,d,.ref q,rfl,rfl,Ku,(by
     have:((ns.map aE).zip m).length<16777216:=c2;rw[Yu,Zu]at this;rw[Yu];have:=r.len.1;have:(KF:Nat)=16777216:=rfl;lia),λw hw=>?_,λhn=>?_⟩
    ·refine fin _ (a :: Fs.flatten) (ns.zip j) w ?_ Ku hw;have es:c9 ((ns.map aE).zip m) (aE d)=(ns.map aE).zip m:=by
      unfold c9;rcases dg with⟨C,P⟩ | ⟨_,_,t2,_,C,_⟩
      ·rw[P]at hw;cases hw
      ·rw[C];rfl
     rw[es,Q];exact Chg.none E (by rw[Q]at g2;exact g2) LB
    ·have es:c9 ((ns.map aE).zip m) (aE d)=((ns++[d]).map aE).zip (m++[.lst []]):=by
      unfold c9;rcases dg with⟨C,P⟩ | ⟨_,_,t2,_,C,P,_⟩
      ·rw[C,Zq (by simp),Yz,XA (by rw[Zu];exact S.trans r.len.1)];rfl
      ·rw[P]at hn;cases hn
     have ep:putK (ns.zip j) d (.ref q)=(ns++[d]).zip (j++[.ref q]):=by
      unfold putK;rw[iU,hn,Zq (by simp),XA S];rfl
     have qa:q≠a:=λz=>by
      have:=Jr a _ ha;rw[← z,A]at this;cases this
     have qH:=Jr.free A;have m2:Il (upd H1 q (.lst []) a):=by rw[Ku];exact True.intro
     have nd:=Zc.mp LB;have TX:upd (upd H1 q (.lst [])) a (.dK (putK (ns.zip j) d (.ref q))) q=Z (.lst []):=by rw[aw qa,ar]
     refine fin _ (a :: (Fs++[[q]]).flatten) (putK (ns.zip j) d (.ref q)) (.ref q) ?_ ar (by rw[xC,Zr Y]);rw[es,Q];refine Chg.upd E Zy m2 (.dct (by rw[ar,ep]) (by simp[S]) (((r.same E).off m2 nd.1).append (.cons (.lst TX .nil) .nil))) ?_ ?_
     ·rw[Yt];refine Zc.mpr ⟨λz=>?_,ZC.mpr ⟨nd.2,by simp,λx hx y f z=>?_⟩⟩
      ·rcases Zj.mp z with z | z
       ·exact nd.1 z
       ·have h:a=q:=by simpa using z
        exact qa h.symm
      ·subst z;exact(λz=>Il.xa (r.Iu q z) qH) (by simpa[by simpa using f] using hx)
     ·intro y f;rcases Zh.mp f with rfl | f
      ·exact .inl Zy
      ·rw[Yt]at f;rcases Zj.mp f with f | f
       ·exact .inl (Zw _ f)
       ·rw[show y=q by simpa using f];exact .inr qH
   ·cases e
  ·cases e
end
end VS
end
section
namespace L2
open PySem PySem.Spec PyProof.Rows
def Hk(I:Inv X b O H s)(e:H p=Z (DN p f)):s.TypeIs (.ref p) "dict" ∧ ∀a,Value.ref p=.ref a->∃d,s.heap.get? a=Z d/\d.dict=J:=by
 obtain⟨⟨_,_,_,_,o,_,_,g,ex,_⟩,_⟩:=(I.xt p _ e)
 refine⟨⟨o,g,ex.1⟩,λa e2=>?_⟩;cases e2;exact⟨o,g,ex.2.1⟩
def NZ(x:V)(H:Hp):Prop:=∃p a,x=.ref p/\H p=Z (DN p a)
def HU(r:V->List V->Hp->VK->Prop)(d:TE)(t:TA):TE:=λO H Q=>d O H λx a=>NZ x a/\t O a λb e=>r x b e Q
section
def Eo{X:Cx}{o:Expr}{es:List Expr}{to:TE}{t:TA}{name:Str}{apos pe:Pos}{id:String}{r:V->List V->Hp->VK->Prop}(b:Slot "dict" name id)(E:typeOf (.builtin id)=pure (.type "method_descriptor"))(z:NU X id r)(y:PE X o to)(A:PA X (e :: es) t)(G:XAB o name X.env (eval o X.env)=eval o X.env)(P:((backTo pe (Pv (e :: es) X.env)).all (λx=>!x.1)&&(backToKw pe (SL [] X.env)).all (λx=>x.1.isSome)
   && decide ((e :: es).length+([]:List Keyword).length+(if ([]:List Keyword).isEmpty then 0 else 1)<30))=B)(M:(apos.endLine==pe.line)=B)(u:K1 e es X)(F:K2 pe es X) :
  PE X (.Call (.Attribute o name apos) (e :: es) [] pe) (HU r to t):=by
 intro a s O H Q I h;refine wpAny_Call_method_late G P M Y (thn (y a s O H _ I h) λv m d=>?_);obtain⟨x,S,g,r1,⟨p,U,ex,w⟩,q⟩:=d;subst ex;obtain rfl:=(r1)
 obtain⟨D,C⟩:=Hk g w;have f:=A pe a m O S _ g q;refine⟨"dict",id,W8,b,E,D,C,?_⟩;rw[u]at f ⊢;refine WT (by show (L||(backTo pe (Pv es X.env)).any (·.1))=L;rw[F];rfl) (V6 (thn f λj l d=>?_));obtain⟨i,R,N,r2,n⟩:=d;exact z a l O R (.ref p) i _ j Q N Y r2 n
end
end L2
namespace VS
open PySem PySem.Spec PyProof.Rows L2
def SV:T->Option Key
 |.int i=>Z (.inl i)
 |.str x=>Z (.inr (sx x))
 |_=>J
def RP:T->Option (List Key)
 |.tup l=>l.mapM SV
 |_=>J
def rN:T->Option iG
 |.tup l=>l.mapM RP
 |_=>J
def Av(h:SV t=Z i):t=aE i:=by cases t<;>simp[SV]at h<;>subst h<;>rfl
theorem nI{α β:Type}{f:α->Option β}{g:β->α}(h:∀a b,f a=Z b->a=g b):∀{l:List α}{m:List β},l.mapM f=Z m->l=m.map g
 |[],m,e=>by simp at e;subst e;rfl
 |a :: l,m,e=>by
  simp only[List.mapM_cons,Option.pure_def,Option.bind_eq_bind]at e;obtain⟨b,hb,e⟩:=Zz.mp e;obtain⟨bs,d,e⟩:=Zz.mp e;cases e;rw[Zo,← h a b hb,← nI h d]
def BS(h:RP t=Z k):t=.tup (k.map aE):=by
 cases t with
 |tup l=>exact Z5 T.tup (nI (λa b=>Av) h)
 |_=>simp[RP]at h
def wW(h:rN t=Z k):t=rm k:=by
 cases t with
 |tup l=>exact Z5 T.tup (nI (λa b=>BS) h)
 |_=>simp[rN]at h
def B5:T->Option br
 |.tup [t,.bl b]=>(rN t).map λk=>(k,b)
 |_=>J
def xn(h:B5 t=Z k):t=IK k:=by
 unfold B5 at h;split at h
 ·obtain⟨q,e,rfl⟩:=Zt.mp h;rw[wW e];rfl
 ·cases h
section
def Rp.S7{k:Key}(r:Rp G H v (aE k) F):v=kV k:=by
 obtain⟨q,rfl,e⟩:=dh r (by cases k<;>rfl);rw[(gw q k).mp (e ▸ (gw q q).mpr Y)]
theorem RpL.ints:∀{k:List Key}{d:List V}{f:Xc},RpL G H d (k.map aE) f->d=k.map kV
 |[],_,_,r=>by rw[XY]at r;cases r;rfl
 |i :: k,_,_,r=>by
  rw[Zo]at r;cases r with
  |cons h t=>rw[Zo,← RpL.ints t,Rp.S7 h]
def Rp.J3(r:Rp G H v (.tup g) F):∃b d f,v=.ref b/\H b=Z (.tup d)/\RpL G H d g f:=by
 obtain⟨a,d,f,j,_,h⟩:=r.inv;exact⟨a,d,f,j,h⟩
def AO{k:iG}(r:Rp G H v (rm k) F):∃b,v=.ref b/\tQ H k b:=by
 obtain⟨b,d,f,rfl,h,q⟩:=Rp.J3 r;have all:∀{k:iG}{d:List V}{f:Xc},RpL G H d (k.map λx=>T.tup (x.map aE)) f->∃cs:W6,d=cs.map V.ref/\Paired (λ(x) (c:KM)=>H c=Z (.tup (x.map kV))) k cs:=by
  intro k
  induction k with
  |nil=>intro d f q;rw[XY]at q;cases q;exact⟨[],rfl,.nil⟩
  |cons x k l =>
   intro d f q;rw[Zo]at q;cases q with
   |cons h t =>
    obtain⟨c,m,n,rfl,g,j⟩:=Rp.J3 h;obtain⟨cs,e,pr⟩:=l t;rw[RpL.ints j]at g;exact⟨c :: cs,by rw[e];rfl,.cons g pr⟩
 obtain⟨cs,e,pr⟩:=all q;exact⟨b,rfl,cs,by rw[h,e],pr⟩
def FB{k:br}(r:Rp G H v (IK k) F):∃b,v=.ref b/\KH H k b:=by
 obtain⟨b,d,f,rfl,h,q⟩:=Rp.J3 r;cases q with
 |cons r1 q =>
  cases q with
  |cons r2 q =>
   cases q;obtain⟨c,rfl,n⟩:=AO r1;obtain rfl:=r2.inv;exact⟨b,rfl,c,h,n⟩
def Am:∀(x y:iG),eqT (rm x) (rm y)=decide (x=y):=by
 intro x y;unfold rm;rw[eqT]
 induction x generalizing y with
 |nil=>cases y<;>simp[kU]
 |cons i x d =>
  cases y with
  |nil=>simp[kU]
  |cons j y =>
   rw[Zo,Zo,kU,d y,show eqT (T.tup (i.map aE)) (T.tup (j.map aE))=decide (i=j) from BW j i];simp only[Wr,Bool.decide_and]
def m8(x y:br):eqT (IK x) (IK y)=decide (x=y):=by
 show (eqT (rm x.1) (rm y.1)&&((x.2==y.2)&&B))=_;rw[Am,Bool.and_true,Xo,YI,decide_eq_true_iff,decide_eq_true_iff,beq_iff_eq];exact⟨λh=>VE h.1 h.2,λh=>⟨Z5 Prod.fst h,Z5 Prod.snd h⟩⟩
noncomputable abbrev JD(f:List (br×KM))(d:List V):List (br×KM×V):=(f.zip d).map λp=>(p.1.1,p.1.2,p.2)
theorem nZ{k:br}:∀{ks:List (br×KM)}{d:List V}{ts:Ul}{l:Xc},ks.length=d.length->RpL G H d ts l →
  (((ks.map λp=>IK p.1).zip ts).findIdx? (λq=>eqT q.1 (IK k))=J/\KR (JD ks d) k=J) ∨
  ∃(j:Nat)(v:V)(t:T)(F:W6),((ks.map λp=>IK p.1).zip ts).findIdx? (λq=>eqT q.1 (IK k))=Z j/\(ks.map λp=>IK p.1)[j]?=Z (IK k)/\ts[j]?=Z t/\KR (JD ks d) k=Z v/\d[j]?=Z v/\l[j]?=Z F/\Rp G H v t F
 |[],[],_,_,_,.nil=>.inl ⟨rfl,rfl⟩
 |k' :: ks,v :: d,_,_,s,.cons (t:=t) (F:=F) (ts:=ts) r q=>by
  by_cases f:k'.1=k
  ·refine .inr ⟨0,v,t,F,?_,by simp[f],rfl,by simp[KR,JD,f],rfl,rfl,r⟩;rw[Zo,ZM,YX,Zr (by rw[m8];exact decide_eq_true f)]
  ·have e1:((((k' :: ks).map λp=>IK p.1).zip (t :: ts)).findIdx? λq=>eqT q.1 (IK k))=((((ks.map λp=>IK p.1).zip ts)).findIdx? λq=>eqT q.1 (IK k)).map (·+1):=by
    rw[Zo,ZM,YX,Zq (by rw[m8];simp[f])]
   have e2:KR (JD (k' :: ks) (v :: d)) k=KR (JD ks d) k:=by simp[KR,JD,f]
   rcases nZ (k:=k) (by simpa using s) q with⟨h,g⟩ | ⟨j,m,n,A,h,g,z,y,x,w,u⟩
   ·exact .inl ⟨by rw[e1,h];rfl,by rw[e2];exact g⟩
   ·exact .inr ⟨j+1,m,n,A,by rw[e1,h];rfl,by simpa using g,by simpa using z,by rw[e2];exact y,by simpa using x,by simpa using w,u⟩
def q9(r:Rp G H v (.dct 2 l) F):∃(a:KM)(ks:List (br×KM))(d:List V)(f:Ul)(g:Xc),v=.ref a/\F=a :: g.flatten/\H a=Z (DN a (JD ks d))/\ks.length=d.length/\(∀p∈ks,KH H p.1 p.2)/\l=(ks.map λp=>IK p.1).zip f/\RpL G H d f g:=by
 cases r with
 |dctN h j n q=>exact⟨_,_,_,_,_,rfl,rfl,h,j,n,rfl,q⟩
def nJ(h:∀p∈d,KH H p.1 p.2):∀p∈JD d f,KH H p.1 p.2.1:=λp j=>by
 obtain⟨q,g,rfl⟩:=Yv.mp j;exact h q.1 (Vn g).1
def cw(l:List (T×T))(k:T):List (T×T):=if (l.findIdx? λp=>eqT p.1 k).isSome then l else l++[(k,.lst [])]
def qS(f:T->Option (T×Val))(l:List (T×T))(k:T):Option (List (T×T)):=(l.findIdx? λp=>eqT p.1 k).bind λj=>(l[j]?).bind λp=>(f p.2).map λz=>l.set j (p.1,z.1)
def i4(i:Nat)(k:Ex)(v:IE)(U:VS.Env):Option Out:=match U[i]? with
 |some (some (.ow (.dct 2 l)))=>(k U).bind λd=>if (B5 d.2).isSome/\l.length<d4 then
   (v (U.set i (Z (.ow (.dct 2 (cw l d.2)))))).bind λf=>(qS (λx=>aC x f) (cw l d.2) d.2).map λz=>.nx (U.set i (Z (.ow (.dct 2 z)))) else J
 |_=>J
def xf{X:Cx}{pos apos Mw:Pos}(i:Nat)(hr:xh kr X.A)(hk:PV G X b ck)(hv:Jj G X [e] cs)(hK:X.K=G.K)(hN:X.N[i]?=Z x)(ON:KG X.env.scope x)(hd:K3 x)(hcd:K4 x)(Lf:XAB (.Name x p1) "setdefault" X.env (eval (.Name x p1) X.env)=eval (.Name x p1) X.env)(TH:((backTo Kx (Pv [b,.List [] lp] X.env)).all (λx=>!x.1)&&(backToKw Kx (SL [] X.env)).all (λx=>x.1.isSome)
   && decide ([b,Expr.List [] lp].length+([]:List Keyword).length+(if ([]:List Keyword).isEmpty then 0 else 1)<30))=B)(M8:(Mw.endLine==Kx.line)=B)(Od:Pv [b,.List [] lp] X.env=(L,eval b X.env) :: Pv [.List [] lp] X.env)(OP:Pv [.List [] lp] X.env=(L,eval (.List [] lp) X.env) :: Pv [] X.env)(Pp:(backTo Kx (Pv [.List [] lp] X.env)).any (·.1)=L)(Ms:XAB (.Call (.Attribute (.Name x p1) "setdefault" Mw) [b,.List [] lp] [] Kx) "append" X.env (eval (.Call (.Attribute (.Name x p1) "setdefault" Mw) [b,.List [] lp] [] Kx) X.env)=eval (.Call (.Attribute (.Name x p1) "setdefault" Mw) [b,.List [] lp] [] Kx) X.env)(TF:((backTo pe (Pv [e] X.env)).all (λx=>!x.1)&&(backToKw pe (SL [] X.env)).all (λx=>x.1.isSome)
   && decide ([e].length+([]:List Keyword).length+(if ([]:List Keyword).isEmpty then 0 else 1)<30))=B)(Jk:(apos.endLine==pe.line)=B)(L7:K1 e [] X)(NN:(backTo pe (Pv [] X.env)).any (·.1)=L)(JW:swapsWith (.Call (.Attribute (.Call (.Attribute (.Name x p1) "setdefault" Mw) [b,.List [] lp] [] Kx) "append" apos) [e] [] pe) J pos.line X.env=pure L) :
  PSV G X (.Expr (.Call (.Attribute (.Call (.Attribute (.Name x p1) "setdefault" Mw) [b,.List [] lp] [] Kx) "append" apos) [e] [] pe) pos) (i4 i ck cs) :=
 PS.weak (fY (nq Xv XU XW fu
  (Eo XB PySem.F.type_dict_setdefault (tR (by have:=hr.un;lia)) (dk hN ON hd hcd) (dU hk (dU (p6 gE) gE OP) Od) Lf TH M8 Od Pp) hv Ms TF Jk L7 NN) JW) λD O H hq=>by
  obtain⟨R,U,out,s,e,k⟩:=hq;refine L2.ai λP_ k_=>?_;unfold i4 at e;split at e
  ·rename_i l hl;obtain⟨⟨mk,tk⟩,Mv,e⟩:=Zz.mp e;split at e
   ·rename_i hc;obtain⟨c1,c2⟩:=hc;obtain⟨lv,ev,e⟩:=Zz.mp e;obtain⟨t',e5,e6⟩:=Zt.mp e;cases e6;obtain⟨d,ek1⟩:=YW.mp c1;have UA:=xn ek1;subst UA;obtain⟨v,g1,g2⟩:=s.rp _ _ hl;have LB:=s.nd i _ hl;obtain⟨a,ns,n,r,Fs,rfl,eΦ,ha,KO,ML,el,ra⟩:=q9 g2;subst el;rw[eΦ]at LB;refine k_ ?_;refine⟨.ref a,g1,⟨a,_,rfl,ha⟩,?_⟩;refine⟨R,U,mk,IK d,s,Mv,λkv S Fk Jr rk fk=>⟨ZE _,λq hq=>?_⟩⟩;obtain⟨f,rfl,hkb⟩:=FB rk;have fin:∀(E:Hp)(Q:List (br×KM))(Ow:List V)(Nz:Ul)(P:Xc)(w:V),cw ((ns.map λp=>IK p.1).zip r) (IK d)=(Q.map λp=>IK p.1).zip Nz->Chg G H (.ref a) (R i) (.dct 2 (cw ((ns.map λp=>IK p.1).zip r) (IK d))) E (a :: P.flatten) →
      E a=Z (DN a (JD Q Ow))->Q.length=Ow.length->(∀p∈Q,KH E p.1 p.2)->RpL G E Ow Nz P->KR (JD Q Ow) d=Z w →
      tyV X.K "list" w E/\P8 G cs O E (λNf H4=>mQ w Nf H4 (λ_ H5=>D.nx O H5)):=λE Q Ow Nz P w es g h3 JH hn3 K8 hw=>by
     refine L2.ai λP_ k_=>?_;obtain⟨z1,z2⟩:=s.mut hl g1 g;rcases nZ (G:=G) JH K8 with⟨_,C⟩ | ⟨j,w',x',F1,M,C,h4,h5,h6,h7,h8⟩
     ·rw[C]at hw;cases hw
     rw[h5]at hw;obtain rfl:=Zg hw;rw[es]at e5;unfold qS at e5;rw[M,Zs,show ((Q.map λp=>IK p.1).zip Nz)[j]?=Z (IK d,x') from by rw[Ya];exact⟨C,h4⟩,Zs]at e5;obtain⟨⟨x3,y'⟩,w4,e7⟩:=Zt.mp e5;refine k_ ?_;refine⟨by rw[hK];exact gy h8 w4,iJ R i (a :: P.flatten),_,lv,z1,ev,λNf H4 PH q1 q2 q3=>?_⟩;refine jB (iJ R i (a :: P.flatten)) _ E H4 w' x' x3 F1 lv Nf PH y' _ h8 (((Zc.mp g.nd).2).sublist (cz h7)) ⟨q1,q2,q3⟩ w4 λu H5 F' g5=>?_;obtain⟨s1,s2,s3,s4,s5⟩:=ku h3 K8 g.nd h6 h7 g5;have g6:Chg G E (.ref a) (iJ R i (a :: P.flatten) i) (.dct 2 t') H5 (a :: (P.set j F').flatten):=by
      rw[gf];refine⟨g5.kept,s5,g5.Iu,?_,s3,s4⟩;rw[← e7,kg _ Nz j _ x3 C];exact .dctN s1 JH (λp t=>(hn3 p t).mono g5.kept.tup) s2
     obtain⟨y1,y2⟩:=z1.mut (by
      have hi:i<U.length:=(ZZ.mp hl).1;rw[XF hi]) g1 g6
     rw[List.set_set]at y1 y2;exact k _ O H5 y1 (z2.trans y2)
    have IW:aI S (upd S q (.lst [])):=bZ hq;have Y:=Jr.trans IW;have Ku:=Y a _ ha;have OW:=λp t=>(ML p t).mono λb xs z=>Y b _ z;have QJ:=hkb.mono λb xs z=>IW b _ z;have dg:=nZ (G:=G) (k:=d) KO ra;refine⟨a,f,JD ns n,d,.ref q,rfl,rfl,Ku,nJ OW,QJ,(by
     have:((ns.map λp=>IK p.1).zip r).length<16777216:=c2;rw[Yu,Zu]at this;rw[Zu,Yu];have:=ra.len.1;have:(KF:Nat)=16777216:=rfl;lia),λw hw=>?_,λhn=>?_⟩
    ·have es:cw ((ns.map λp=>IK p.1).zip r) (IK d)=(ns.map λp=>IK p.1).zip r:=by
      unfold cw;rcases dg with⟨M,C⟩ | ⟨_,_,t2,_,M,_⟩
      ·rw[C]at hw;cases hw
      ·rw[M];rfl
     refine fin _ ns n r Fs w es ?_ Ku KO OW (ra.same Y) hw;rw[es,eΦ];exact Chg.none Y (by rw[eΦ]at g2;exact g2) LB
    ·have es:cw ((ns.map λp=>IK p.1).zip r) (IK d)=((ns++[(d,f)]).map λp=>IK p.1).zip (r++[.lst []]):=by
      unfold cw;rcases dg with⟨M,C⟩ | ⟨_,_,t2,_,M,_,_,C,_⟩
      ·rw[M,Zq (by simp),Yz,XA (by rw[Zu];exact KO.trans ra.len.1)];rfl
      ·rw[C]at hn;cases hn
     have ep:JD ns n++[(d,f,.ref q)]=JD (ns++[(d,f)]) (n++[.ref q]):=by
      unfold JD;rw[XA KO,Yz];rfl
     have qa:q≠a:=λz=>by
      have:=Jr a _ ha;rw[← z,hq]at this;cases this
     have qH:=Jr.free hq;have m2:Il (upd S q (.lst []) a):=by rw[Ku];exact True.intro
     have nd:=Zc.mp LB;rw[ep];have TX:upd (upd S q (.lst [])) a (DN a (JD (ns++[(d,f)]) (n++[.ref q]))) q=Z (.lst []):=by rw[aw qa,ar]
     have kp:Kept (upd S q (.lst [])) (upd (upd S q (.lst [])) a (DN a (JD (ns++[(d,f)]) (n++[.ref q])))):=Kept.upd (.inl m2);have ln2:(ns++[(d,f)]).length=(n++[V.ref q]).length:=by simp[KO]
     have QO:∀p∈ns++[(d,f)],KH (upd (upd S q (.lst [])) a (DN a (JD (ns++[(d,f)]) (n++[.ref q])))) p.1 p.2:=λp t=>by
      rcases Zj.mp t with t | t
      ·exact(OW p t).mono kp.tup
      ·rw[Zl.mp t];exact QJ.mono kp.tup
     have K8:=((ra.same Y).off m2 nd.1).append (.cons (.lst TX .nil) .nil);refine fin _ (ns++[(d,f)]) (n++[.ref q]) (r++[.lst []]) (Fs++[[q]]) (.ref q) es ?_ ar ln2 QO K8 ?_
     ·rw[es,eΦ];refine Chg.upd Y Zy m2 (.dctN ar ln2 QO K8) ?_ ?_
      ·rw[Yt];refine Zc.mpr ⟨λz=>?_,ZC.mpr ⟨nd.2,by simp,λx hx y m z=>?_⟩⟩
       ·rcases Zj.mp z with z | z
        ·exact nd.1 z
        ·have h:a=q:=by simpa using z
         exact qa h.symm
       ·subst z;exact(λz=>Il.xa (ra.Iu q z) qH) (by simpa[by simpa using m] using hx)
      ·intro y m;rcases Zh.mp m with rfl | m
       ·exact .inl Zy
       ·rw[Yt]at m;rcases Zj.mp m with m | m
        ·exact .inl (Zw _ m)
        ·rw[show y=q by simpa using m];exact .inr qH
     ·rw[← ep];unfold KR at hn ⊢;rw[V3,Option.map_eq_none_iff.mp hn];simp
   ·cases e
  ·cases e
end
end VS
end
section
namespace L2
open PySem PySem.Spec PyProof.Rows
section
def Du:TE:=λ_ H Q=>∀p,H p=J->Q (.ref p) (upd H p (DN p []))
def zD:PE X (.Dict [] [] pos) Du:=λa s O H Q I h =>
 wpAny_Dict_empty ⟨.ref s.heap.objs.size,_,I.laid (λ_ _ q=>Za _ q) (Zn _)
  (yz (ZE _) (Z0.mpr (YN (ZR I.big))) .nil (Heap.DictOfH.new s.heap)),rfl,h _ (I.xt.fresh (Zn _))⟩
def pU(I:Inv X a O H s)(e:H d=Z (DN d b))(g:s.heap.get? d=Z o):Inv X a O (upd H d (.frz o (DN d b))) s :=
 iu I (by rw[e];exact True.intro) ⟨rfl,λ_ _=>rfl⟩ ⟨o,g⟩ ⟨g,I.xt d _ e⟩
def Itn(d:KM)(o:Obj)(a:List (br×KM×V)):It :=
 ⟨λi H=>H d=Z (.frz o (DN d a))/\i<a.length,λi H x b=>b=H/\∃p,a[i]?=Z p/\x=.ref p.2.1,λi H=>H d=Z (.frz o (DN d a))/\a.length<=i⟩
def KN.get(r:KN l m){i:Nat}(h:m[i]?=Z q):∃p,l[i]?=Z p/\p.1=q.1/\p.2.1=q.2.1:=by
 induction r generalizing i with
 |nil=>simp at h
 |@cons b f g e a t d =>
  cases i with
  |zero=>simp at h;subst h;exact⟨b,rfl,a.1,a.2.1⟩
  |succ i=>simpa using d (by simpa using h)
def KN.keys(r:KN l m):l.map (·.1)=m.map (·.1):=by
 induction r with
 |nil=>rfl
 |cons b _ a=>rw[Zo,Zo,b.1,a]
def E7{K:Ww}(d f:KM){M:Array DictEntry}(a:KN R N)(he:M.toList=N.map (FG w)) :
  Turn P w K tg (Itn d (ST.dO M Q) R) [f] f (λi h=>h.get? f=Z (ST.kO d i M.size Q)) where
 mem:=by simp
 obj:=λi h st b hb=>by
  rw[Zl.mp hb];exact⟨_,st,λv z=>by cases z⟩
 keep:=λi h y st k=>k f (by simp) _ st
 item:=by
  intro X u hw x t i j s O H E I m st hg;subst u hw x;obtain⟨G,f1,f2,D,C,A⟩:=m f (by simp);refine ST.kG (I.ok.hd t) st ((I.xt d _ hg.1).1) (λe l y sb g=>?_) λr=>?_
  ·rw[← Z2,he,ZL]at l;obtain⟨q,n,rfl⟩:=Zt.mp l;obtain⟨p,S,_,hb⟩:=a.get n;exact⟨_,rfl,pE g Y Y Y ⟨.ref p.2.1,H,(I.turned (t':=s.toks) (λb o hb e=>(sb.2 b hb).trans e) G f1 D C A),by rw[hb];rfl,⟨rfl,p,S,rfl⟩,g,λb hb=>(m b hb).1⟩⟩
  ·exfalso;rw[← Z2,he,Yi,Zu,← a.length]at r;exact absurd hg.2 (by exact Nat.not_lt_of_le r)
 done:=by
  intro X u hw x t i j s O H E I m st hg;subst u hw x;obtain⟨G,f1,f2,D,C,A⟩:=m f (by simp);refine ST.kG (I.ok.hd t) st ((I.xt d _ hg.1).1) (λe l y sb g=>?_) λr y kp=>⟨rfl,I.turned (λb o hb e=>kp b o hb e) G f1 D C A⟩
  exfalso;rw[← Z2,he,ZL]at l;obtain⟨q,n,rfl⟩:=Zt.mp l;have:=(ZZ.mp n).1;have h2:=hg.2;rw[a.length]at h2;lia
 self:=λ_ _ _ _ _ st U=>wpAny_pyIter_slot ⟨_,st,rfl⟩ X9 (Y3 X9 ⟨_,st,rfl⟩ F.entry_dict_keyiterator_iter (Zm ⟨_,rfl, "dict_keyiterator",_,⟨_,st,rfl⟩,Xj.lookup,U⟩) (F.args_dict_keyiterator_iter_1 _))
def iDn(e:TE):TI:=λO H Rq=>e O H λx b=>∃d a,x=.ref d/\b d=Z (DN d a)/\∀o,a.length<=KF->(a.map (·.1)).Nodup->Rq (Itn d o a) (upd b d (.frz o (DN d a)))
def rJ{o:Obj}(h:o.ExactDict)(e:o.data=.dict a b):o=ST.dO a b:=by
 obtain⟨c,d,l,j⟩:=o;obtain⟨i,g,f⟩:=h;subst i g f e;rfl
def FS(r:PE X l j):PI X tg l (iDn j):=by
 intro a s O H Rq I h;refine thn (r a s O H _ I h) λv i t=>?_;obtain⟨x,F,f,r1,m⟩:=t;refine L2.ai λE n=>?_;obtain⟨d,D,ex,e,q⟩:=m;subst ex;cases r1;obtain⟨⟨z,y,w,rel,o,A,C,g,ex,hd,he,p⟩,_⟩:=(f.xt d _ e)
 have eo:=rJ ex hd;subst eo;refine n ?_;refine ST.rG y g ?_;refine⟨i.heap.objs.size,[i.heap.objs.size],_,_,_,rfl,(pU f e g).kept λb o e=>Za _ e,E7 d _ rel he,ZD _ Y,λb hb=>?_,q _ z (by rw[rel.keys];exact p)⟩;have u:b=i.heap.objs.size:=by simpa using hb
 subst u;exact(pU f e g).Li (Zn _) ((pU f e g).xt.fresh (Zn _))
def HW:Ja:=λx y H Q=>∃d o a k b v,x=.ref d/\y=.ref b/\H d=Z (.frz o (DN d a))/\(∀p∈a,KH H p.1 p.2.1)/\KH H k b/\KR a k=Z v/\Q v H
def t5{X:Cx}(hu:X.A.units+3<cLine):Mh X HW:=by
 intro value slice f s O H x y v u Q I R P h hs;refine L2.ai λP_ U=>?_;obtain⟨d,o,bt,k,b,w,rfl,rfl,e,Ld,hk,hw,q⟩:=h;cases R;obtain rfl:=(P)
 obtain⟨g,ok⟩:=(I.xt d _ e)
 obtain⟨⟨z,y,j,rel,S,es,ep,h1,h2,h3,h4,h5⟩,_⟩:=(ok)
 refine U ?_;have all:∀{l:List (br×KM×V)}{m:List (br×KM×On)},KN l m->(∀p∈l,KH H p.1 p.2.1)->∀x∈m,NK.KS (aQ X.prog X.w) s.heap x.1 x.2.1:=by
  intro l m q
  induction q with
  |nil=>intro _ x a;exact nomatch a
  |@cons p q ps qs D t Y =>
   intro E x a;rcases Zh.mp a with e | a
   ·subst e;rw[← D.1,← D.2.1];exact(E p Zy).is I.xt
   ·exact Y (λp n=>E p (Zw _ n)) x a
 have M:s.heap.DictOfH (NK.pair (aQ X.prog X.w)) d j:=⟨S,es,ep,h1,h2,h3,h4,λx a=>all rel Ld x a,h5⟩
 have G:=M.typeIs;have i:=rel.at k;rw[hw]at i;obtain⟨pv,n,rp⟩:∃pv,atKey j k=Z pv/\RelV w pv.2:=by
  cases C:atKey j k with
  |none=>rw[C]at i;exact False.elim i
  |some pv=>rw[C]at i;exact⟨pv,rfl,i⟩
 refine Zx ?_;rw[getitemInPython_of_ne G.not_modules];refine Zx (Y2 G PySem.F.slot_dict_getitem.lookup ?_);have fin:PP (KB X.prog X.w) X.A (subscripted slice L (.ref d) (.ref b)) (λr N=>PP (KB X.prog X.w) X.A (letTemporaryGo value (.ref d) r >>= λ_=>pure r) (EP X f O Q) X.xe N) X.xe s:=by
  rw[hs];exact wpAny_operating (wpAny_getItem_heap (by show X.A.units+1+2<cLine;omega) (hk.is I.xt) M n (Zx (wpAny_letTemporaryGo (Zm ⟨w,H,I.tok _,rp,q⟩))))
 first
  |exact Zm (Zx fin)
  |exact Zx (Zm (Zx fin))
  |exact Zx fin
def Dj{a:List (br×KM×V)}:∀{i:Nat}{p:br×KM×V},(a.map (·.1)).Nodup->a[i]?=Z p->KR a p.1=Z p.2.2:=by
 induction a with
 |nil=>intro i p _ h;simp at h
 |cons x l f =>
  intro i p b h;rw[Zo,Zc]at b;cases i with
  |zero=>simp at h;subst h;simp[KR]
  |succ i =>
   have d:l[i]?=Z p:=by simpa using h
   have:=f b.2 d;unfold KR at this ⊢;rw[Z3,ZK (λe=>b.1 (by rw[e];exact Yv.mpr ⟨p,Yb d,rfl⟩))];exact this
end
end L2
namespace VS
open PySem PySem.Spec PyProof.Rows L2
section
def BE:PV G X (.Dict [] [] pos) (l9 2 []):=PE.weak zD λO H Q a=>by
 obtain⟨R,U,m,t,s,e,k⟩:=a;cases (e);intro q a;have:Rp G (upd H q (DN q [])) (.ref q) (.dct 2 ((([]:List (br×KM)).map λp=>IK p.1).zip [])) (q :: ([]).flatten):=.dctN ar Y (λp d=>by simp at d) .nil;exact k _ _ [q] (bZ a) this ⟨by simp,λb hb=>by rw[Zl.mp hb];exact a⟩
end
section
def BN(h:x=sx t)(u:j5 t):PV G X (.Dict [Z (.Constant (.str x) j q)] [.List [] i] pos) (l9 0 [(eC (.str t),gF aj)]) :=
 PE.weak (u9 (rq yJ (p6 gE) vG) Y Y (by simp) (by show 1<=15;decide)) λO H Q n=>by
  refine L2.ai λw l=>?_;obtain⟨R,U,m,r,s,e,k⟩:=n;subst h;cases (e);refine l ?_;intro p f;refine⟨ZE _,λb hb=>?_⟩;have d:b≠p:=λz=>by rw[z,ar]at hb;cases hb
  have g:H b=J:=by rw[aw d]at hb;exact hb
  refine⟨by rw[aw (YN d),ar],[(Sum.inr (sx t),.ref b)],rfl,(by show 1<=15;decide),?_⟩;have v:aE (Sum.inr (sx t))=.str t:=rfl;have:Rp G (upd (upd (upd H p (.dK [])) b (.lst [])) p (.dK [(Sum.inr (sx t),.ref b)])) (.ref p) (.dct 0 ((([Sum.inr (sx t)]:List Key).map aE).zip [.lst []])) (p :: ([[b]]).flatten) :=
   .dct (vs:=[V.ref b]) ar Y (.cons (.lst (by rw[aw d,ar]) .nil) .nil)
  exact k _ _ _ (λc o a=>by
   rw[aw (bD a f),aw (bD a g),aw (bD a f)];exact a) this ⟨by simp[YN d],λc a=>by
   rcases Zh.mp a with rfl | a
   ·exact f
   ·simp at a;rw[a];exact g⟩
end
end VS
end
section
open PySem PyProof.Rows
namespace TS
noncomputable def pA(h:UV)(a:KM)(b:W7):Addr:=((h.update a (Obj.mapSeq λ_=>#[])).push (seqObj "tuple" b.toArray 0)).objs.size
def sL(h:UV)(a:KM)(b:W7):pA h a b=h.objs.size+1:=by unfold pA;rw[WK,Wk]
structure KeyPre(prog:Re)(w:XAA)(A:SB)(E:Z9)(P:PySem.Fin->IR->Prop)(f:On)(a K:KM)(oa:Option Obj)(vs:W7)(J:W7->IR->Prop)(g:W7->W7:=id):Prop where
 keys:∀ks s',J ks s'->∃e,s'.heap.get? K=some (seqObj "list" ks.toArray e)
 self:∀ks s',J ks s'->s'.heap.get? a=oa
 step:∀ks x s',vs[ks.length]?=some x->J ks s'->PP (KB prog w) A (call f [x]) (λk s2=>(∃e,s2.heap.get? K=some (seqObj "list" ks.toArray e))/\J (ks++[k]) { s2 with heap:=s2.heap.update K (Obj.mapSeq λxs=>xs.push k) }) (λ_ _=>False) s'
 fin:∀ks s',J ks s'->ks.length=vs.length->∃kd G r,JL prog w A E s' kd G r/\(∀p∈ks.zip vs,G p)/\(2<=vs.length->∀Q:SortKind->IR->Prop,Q kd s'->PP (KB prog w) A (keyKind' ks.toArray) Q E s') ∧
  ∀out:List Pi,out.Perm (ks.zip vs)->out.Pairwise (le r)->P (.done (.ret .none)) { s' with heap:=(s'.heap.update K (Obj.mapSeq λ_=>#[])).update a (Obj.mapSeq λ_=>(g (out.map (·.2))).toArray) }
def wI{s:IR}{vs:W7}{J:W7->IR->Prop}(m:(f != Value.none)=B)(l:s.heap.get? a=Z (seqObj "list" vs.toArray n))(h:vs.length<=KF)(S:J [] { s with heap:=jw s.heap a vs })(p:KeyPre prog w A E P f a (pA s.heap a vs) ((jw s.heap a vs).get? a) vs J) :
  PP (KB prog w) A (Builtin.«list.sort» ⟨[.ref a],[(("key" : Str),f)]⟩) P E s:=by
 obtain⟨ep,N⟩:∃k,(s.heap.update a (Obj.mapSeq λ_=>#[])).get? a=Z (seqObj "list" #[] k):=⟨_,get?_update_seq l _⟩
 refine(show PP (KB prog w) A (Builtin.List.listItems (.ref a)>>=_) P E s from ?_);refine Zx (listItems_at l Y (Zx (W5 l Y (Zx (seqEpoch_at N Y (Zx (wpAny_newTuple (Zx (wpAny_newList (Xf ?_))))))))));refine(show PP (KB prog w) A (if (f != Value.none)=B then _ else _) P E { s with heap:=jw s.heap a vs } from ?_);rw[Zr m];refine Zx (Wc (Zx ?_));rw[← XD];refine Xw _ (λrest _ d=>∃ks,J ks d/\rest=vs.drop ks.length/\ks.length<=vs.length) _ ?turn ?fin _ _ ⟨[],S,by simp,by simp⟩
 case turn =>
  rintro x rest r d ⟨ks,j,e,t⟩;have C:ks.length<vs.length:=by
   have:=Z5 List.length e;rw[Zb,Z4]at this;omega
  have e2:x :: rest=vs[ks.length] :: vs.drop (ks.length+1):=by rw[e];exact YG C
  injection e2 with ex er
  refine Zx (wpAny_attempt (YD (p.step ks x d (by rw[Zk C,ex]) j) (λk D ⟨⟨e2,he⟩,R⟩=>?_) λ_ _ z=>z.elim));have sz:ks.toArray.size<=sizeLine:=by rw[ZP];exact ZU t h
  exact(Zx (W5 he Y (Zm ⟨ks++[k],R,by rw[er];simp,by simp;exact VD C⟩)))
 case fin =>
  rintro r d ⟨ks,j,e,t⟩;obtain⟨eK,v⟩:=p.keys ks d j;have M:=p.self ks d j;rw[(yA (vs:=vs) (ZI l) N)]at M;obtain⟨kd,G,r,hC,hG,u,X⟩:=p.fin ks d j (by
   have:=Z5 List.length e;rw[WO,Z4]at this;lia)
  have fin:∀b:SC,(arrOf b).Perm (ks.zip vs).toArray->failedOf b=none->(arrOf b).toList.Pairwise (le r)->P (.done (.ret .none)) { d with heap:=(d.heap.update (pA s.heap a vs) (Obj.mapSeq λ_=>#[])).update a (Obj.mapSeq λ_=>(arrOf b).map (·.2)) }:=λb g _ i=>by
   have:=X (arrOf b).toList (by simpa using Xg.mp g) i
   rwa [id,← Uu,Array.toArray_toList]at this
  have o:(d.heap.update (pA s.heap a vs) (Obj.mapSeq λ_=>#[])).get? a=Z (seqObj "list" #[] ep):=by rw[WU _ _ (YN (by rw[sL];exact ZR (Yl (ZI l))))];exact M
  refine(show PP (KB prog w) A (if (f != Value.none)=B then _ else _) P E d from ?_);rw[Zr m];refine(Zx (listItems_at v Y ?_));have room:∀b:SC,(arrOf b).Perm (ks.zip vs).toArray->((arrOf b).map (·.2)).size<=KF+1:=λb g=>by
   rw[Array.size_map,g.size_eq,ZP,Yu];lia
  have O:ks.toArray.size<=sizeLine:=by rw[ZP];exact ZU t h
  have y:ks.toArray.zip vs.toArray=(ks.zip vs).toArray:=by simp
  by_cases two:2<=vs.length
  ·have no:¬(vs.toArray.size<2):=by rw[ZP];exact Nat.not_lt_of_le two
   refine(show PP (KB prog w) A (if vs.toArray.size<2 then _ else _) P E d from ?_);rw[Zq no];refine Zx (u two _ ?_);refine(?_);rw[Zq no];refine Zx (YD (B0 hC
    (Q:=λ_ b=>(arrOf b).Perm (ks.zip vs).toArray/\failedOf b=none/\(arrOf b).toList.Pairwise (le r)) Y (λx U=>hG x (by simpa using U)) y Y Y λb a1 a2 a3=>⟨a1,a2,a3⟩) ?_ λ_ _ e=>e)
   rintro⟨⟨⟩,b⟩ D ⟨rfl,g,H,i⟩;refine(show PP (KB prog w) A (if (f != Value.none)=B then _ else _) P E D from ?_);rw[Zr m];refine(Zx (W5 v Y (Zx (wpAny_letGo (Zx (seqEpoch_at o Y (Zx (W5 o Y ?_ (hsz2:=room b g)))))))));have F:=H;unfold failedOf at F;rw[F];simp only[bne_self_eq_false,Y8,↓reduceIte];exact Zm (fin b g H i)
  ·have yes:vs.toArray.size<2:=by rw[ZP];exact Uy two
   have g:(arrOf (SortSt.mk' general' (ks.toArray.zip vs.toArray) #[] 7 none)).Perm (ks.zip vs).toArray:=by
    rw[y]
   have i:(arrOf (SortSt.mk' general' (ks.toArray.zip vs.toArray) #[] 7 none)).toList.Pairwise (le r):=by
    rw[y]
    match vs,ks,two with
    |[],_,_=>simp
    |[_],[],_=>simp
    |[_],_ :: _,_=>simp
    |_ :: _ :: _,_,q=>simp at q
   refine(show PP (KB prog w) A (if vs.toArray.size<2 then _ else _) P E d from ?_);rw[Zr yes];refine Zx (Zm ?_);refine(show PP (KB prog w) A (StateT.run (if vs.toArray.size<2 then pure () else sortRuns') (SortSt.mk' general' (ks.toArray.zip vs.toArray) #[] 7 none)>>=_) P E d from ?_);rw[Zr yes,StateT.run_pure];refine Zx (Zm ?_);refine(show PP (KB prog w) A (if (f != Value.none)=B then _ else _) P E d from ?_);rw[Zr m];refine(Zx (W5 v Y (Zx (wpAny_letGo (Zx (seqEpoch_at o Y (Zx (W5 o Y ?_ (hsz2:=room _ g)))))))));refine(?_);rw[Zq (by rw[(bne_self_eq_false _)];simp)];exact Zm (fin _ g Y i)
end TS
end
section
open PySem PyProof.Rows
namespace TS
def pT(a f:On):argsOk "sorted" ⟨[a],[(("key" : Str),f)]⟩:=by kernel_rfl
def t4(a f:On):argsOk "list.sort" ⟨[a],[(("key" : Str),f)]⟩:=by kernel_rfl
def jE(h:UV)(a:W7):Heap:=jw (h.push (seqObj "list" a.toArray 0)) h.objs.size a
def rQ{h:UV}(e:h.get? b=Z o):(jE h a).get? b=Z o:=by
 have hb:=ZI e;unfold jE jw;rw[Wu _ _ _ (by rw[WK,Wk,WK];exact nl hb 2),Wu _ _ _ (by rw[Wk,WK];exact nl hb 1),XC _ _ _ _ (ZR hb),Wu _ _ _ (ZR hb)];exact e
def pJ(h:UV)(a:W7):∃e,(jE h a).get? h.objs.size=Z (seqObj "list" #[] e):=by
 have b:(h.push (seqObj "list" a.toArray 0)).get? h.objs.size=Z (seqObj "list" a.toArray 0):=ZD _ Y;obtain⟨k,d⟩:∃k,((h.push (seqObj "list" a.toArray 0)).update h.objs.size (Obj.mapSeq λ_=>#[])).get? h.objs.size=Z (seqObj "list" #[] k):=⟨_,get?_update_seq b _⟩
 exact⟨k,yA (ZI b) d⟩
def qx(h:UV)(a:W7):(jE h a).get? (h.objs.size+2)=Z (seqObj "list" #[] 0):=by
 have e:(((h.push (seqObj "list" a.toArray 0)).update h.objs.size (Obj.mapSeq λ_=>#[])).push (seqObj "tuple" a.toArray 0)).objs.size=h.objs.size+2:=by rw[WK,Wk,WK]
 rw[← e];exact ZD _ Y
def sQ{A:SB}(l:(f != Value.none)=B)(n:∀(i:SB)(o:Z9),i.handled=A.handled->PP (KB prog w) i (collect x) (λb a=>b.length<=KF/\∃J,J [] { a with heap:=jE a.heap b } ∧
   KeyPre prog w A.in1.in1 E (λfin d=>fin=.done (.ret .none)/\Q (.ref a.heap.objs.size) d) f a.heap.objs.size (a.heap.objs.size+2) ((jE a.heap b).get? a.heap.objs.size) b J) o s) :
  PP (KB prog w) A (call (.builtin "sorted") [x] [(("key" : Str),f)]) Q E s:=by
 refine call_function_entry_kw kind_sorted plain_sorted entry_sorted (pT _ _) (?_);refine Zx (Zm (Zx (YD (n A.in1 (λ_ _=>False) Y) ?_ λ_ _ e=>e.elim)));rintro b a ⟨hlen,J,j,kp⟩;refine Zx (wpAny_newList ?_ (by exact hlen));have g:(a.heap.push (seqObj "list" b.toArray 0)).get? a.heap.objs.size=Z (seqObj "list" b.toArray 0):=ZD _ Y;have m:pA (a.heap.push (seqObj "list" b.toArray 0)) a.heap.objs.size b=a.heap.objs.size+2:=by rw[sL,WK]
 refine(?_);have main:=wI (J:=J) (s:={ a with heap:=a.heap.push (seqObj "list" b.toArray 0) }) l g hlen j (by rw[m];exact kp);exact Zx (Xf (wpAny_call_entry_kw slot_list_sort ⟨_,g,rfl⟩ entry_list_sort (YD main (λfin d h=>⟨_,h.1,Zm ⟨_,rfl,h.2⟩⟩) λ_ _ e=>e) (t4 _ _)))
end TS
end
section
namespace L2
open PySem PySem.Spec PyProof.Rows TS
section
variable{H:Hp}
def Inv.adopt{h':UV}(I:Inv X pins O H s)(f:jO X pins H a)(k:∀b u,b≠a->s.heap.get? b=Z u->h'.get? b=Z u)(he:∃u,h'.get? a=Z u)(g:cU X.prog X.w (upd H a o) h' a o) :
  Inv X pins O (upd H a o) { s with heap:=h',toks:=i }:=by
 obtain⟨y,f1,f2,x,t,p⟩:=f;have ne:∀b u,H b=Z u->b≠a:=λb u e z=>by rw[z,y]at e;cases e
 refine I.step (ch:=[a]) (λb hb=>?_) (λb o _ _ d e _=>k b o (λz=>d (by simp[z])) e) (λb o _ _ d e _=>⟨o.slots,k b o (λz=>d (by simp[z])) e⟩) (λb _ d _ n=>?_)
  (λb o d e=>⟨o,k b o (λz=>d (by simp[z])) e⟩) (λb h e=>?_) (λb o u e=>?_) (λb _ e=>?_) (λm l=>?_) (λb u e=>?_) I.bare
 ·rw[Zl.mp hb];exact⟨x,f1,t,p⟩
 ·rw[aw (λz=>d (by simp[z]))];exact n
 ·rw[aw (ne b _ e)];exact e
 ·rw[aw (ne b _ e)];exact e
 ·rw[aw (ne b _ e)];exact e
 ·obtain⟨o,A,C,j,r⟩:=l;exact⟨o,A,C,k _ o (YN f1) j,r⟩
 ·by_cases hb:b=a
  ·subst hb;rw[ar]at e;cases e;exact g
  ·rw[aw hb]at e;refine(I.xt b u e).Lu (λc v d q=>k c v ?_ q) (λc q=>by rw[aw (ne c _ q)];exact q) (λc h q=>by rw[aw (ne c _ q)];exact q) λc _ _ q=>by rw[aw (ne c _ q)];exact q
   rcases d with z | z
   ·rw[z];exact hb
   ·exact ne c _ z
def Fm{X:Cx}{vs:List V}(F:FnOk X.prog X.w X.K X.mg X.base Jb k f t p n)(M:xh k j)(R:j.frames=X.A.frames)(N:Binds X.K t p [])(I:Inv X pins O H s)(r:aM vs d)(h:n vs H Q E):PP (KB X.prog X.w) j (call (.ref f) d) (λu l=>∃v a,Inv X pins O a l/\RelV v u/\Q v a/\∀b o,jO X pins H b->s.heap.get? b=Z o->l.heap.get? b=Z o/\jO X pins a b) (λ_ _=>False) s:=by
 have x:=N s d I.JO (by rw[ZV];exact(by rw[← r.length];exact F.len _ _ _ _ h));rw[ZV]at x;refine wpAny_call (VY (F.run j X.stack s H ⟨d,[]⟩ d vs Q E M (⟨R.trans I.J6.frames,I.J6.mod,I.J6.tb,I.J6.bs,I.J6.Nt,I.J6.JS,I.J6.Oi,I.J6.xt,I.J6.bare⟩) x r h) λr l g=>?_);cases r with
 |error e=>exact g.elim
 |ok P =>
  cases P with
  |ret u =>
   refine L2.ai λY G=>?_;obtain⟨v,a,os,bare,un,xt,r,q⟩:=g;obtain⟨C,U,S,r2,rfl,rfl,D⟩:=I.after (Q:=λm y=>m=v/\y=a/\Q m y) ⟨v,a,os,bare,un,xt,r,rfl,rfl,q⟩;refine G ?_;refine⟨C,U,S,r2,D,λb o i e=>?_⟩;exact⟨un.keep b o e i.1 (λz=>(Zh.mp (I.J4 b z)).elim i.2.1 i.2.2.1) (by simp),un.free b o e i.1 (by simp),i.2⟩
  |next=>exact False.elim g
  |brk=>exact False.elim g
  |cont=>exact False.elim g
noncomputable def kL(x:Str):List Key:=[.inl (x.cps.toList.length:Int),.inr x]
noncomputable def Ph:On->Str
 |.str x _=>x
 |_=>⟨#[]⟩
def JK(X:Cx)(a:Xi)(O:St)(H:Hp)(j:List Str)(f l:Nat)(h:W7)(g:IR):Prop:=∃d,Inv X a O d g/\aI H d/\jO X a d f/\jO X a d (f+2)/\(∃e,g.heap.get? (f+2)=Z (seqObj "list" h.toArray e))/\g.heap.get? f=Z (seqObj "list" #[] l) ∧
  ∀(i:Nat)(u:On),h[i]?=Z u->∃(b:KM)(x:Str),u=Value.ref b/\j[i]?=Z x/\d b=Z (.tup ((kL x).map kV))
def l7{X:Cx}{E:XK}{ss:List Str}{ws:List V}(C:X.calm=B)(F:FnOk X.prog X.w X.K X.mg X.base Jb k f fd ps sp)(hr:xh (k+2) X.A)(hb:Binds X.K fd ps [])(I:Inv X pins O H s)(hl:ss.length=ws.length)(hq:H p=Z (.dK ((ss.map Sum.inr).zip ws)))(MF:∀x∈ss,∀d,aI H d->∀Q1:VK,(∀b n,aI d n->n b=Z (.tup ((kL x).map kV))->Q1 (.ref b) n)->sp [.str x] d Q1 E)(q:∀(l:KM)(d:Hp)(ys:List Str),aI H d->d l=J->ys.Perm ss->ys.Pairwise (λa b=>eO (kL b) (kL a)=L)->Q (.ref l) (upd d l (.lst (ys.map V.str)))) :
  PP (KB X.prog X.w) X.A (call (.builtin "sorted") [.ref p] [(("key" : Str),.ref f)]) (EP X pins O Q) X.xe s:=by
 refine L2.ai λP_ k_=>?_;obtain⟨m,hS,bt,rel,dd⟩:=ou I.xt hq;obtain⟨ep,dd⟩:=dd.dictAt;refine k_ ?_;rw[Yu,Zu]at m;have Tq:bt.length=ss.length:=by
  have:=rel.length;rw[Yu,Zu]at this;lia
 refine sQ Y λA' E' hA=>PySem.W.kdu_collect (PySem.W.kdl_dict hS) (hA.trans (I.ok.hd C)) dd (by lia) λg tk acc kp Na=>?_;have S:Inv X pins O H { s with heap:=g,toks:=tk }:=I.kept kp;have hal:acc.toList.length=ss.length:=by rw[YS,Na.1,Tq]
 have each:∀i v,acc.toList[i]?=Z v->∃x t,v=Value.str x t/\ss[i]?=Z x:=λi v hv=>by
  rw[Z2]at hv;obtain⟨k,x,e1,e2⟩:=Na.2 i v hv;have e3:=(λi=>by
  have g:((bt.map (·.1)))[i]?=(ss.map (Sum.inr:Str->Key))[i]?:=by
   rw[← rel.keys,WX (by rw[Zu];exact Y9 hl)]
  rw[ZL,ZL]at g;exact g) i
  rw[e1]at e3;cases M:ss[i]? with
  |none=>rw[M]at e3;cases e3
  |some y =>
   rw[M]at e3;have e5:=Zg e3;subst e5;obtain⟨t,rfl⟩:=V9 (e2);exact⟨y,t,rfl,M⟩
 have hvs:acc.toList.map Ph=ss:=by
  apply V4;intro i;rw[ZL];cases e:acc.toList[i]? with
  |some v =>
   obtain⟨x,t,rfl,e2⟩:=each i v e;rw[e2];rfl
  |none =>
   rw[Yi]at e;rw[Yr (by lia)];rfl
 generalize hvv:acc.toList=vs at *;obtain⟨e0,R⟩:=pJ g vs;have LK:g.objs.size≠g.objs.size+2:=by lia
 refine⟨by lia,JK X pins O H ss g.objs.size e0,?_,?_⟩
 ·exact⟨H,S.kept λb o e=>rQ e,aI.refl _,S.Li (Zn _) (S.xt.fresh (Zn _)),S.Li (Zd _ 2) (S.xt.fresh (Zd _ 2)),⟨0,qx g vs⟩,R,λi u e=>by simp at e⟩
 ·refine⟨λks j ⟨d,_,_,_,_,e,_⟩=>e,λks j ⟨d,_,_,_,_,_,e,_⟩=>e.trans R.symm,?_,?_⟩
  ·rintro ks x j hx ⟨d,I2,U,fL,D,⟨eK,hK⟩,hL,Ld⟩;obtain⟨y,t,rfl,hy⟩:=each _ _ hx;refine YD (Fm F (xh.in1 (xh.in1 hr)) Y hb I2 (vs:=[.str y]) (.cons ⟨t,rfl⟩ .nil) (MF y (Yb hy) d U (λv n=>∃b,v=.ref b/\aI d n/\n b=Z (.tup ((kL y).map kV))) λb n s2 h2=>⟨b,rfl,s2,h2⟩)) ?_ λ_ _ e=>e;rintro u s2 ⟨v,n,I3,ru,⟨b,rfl,IW,Ms⟩,Jg⟩;obtain rfl:=(ru)
   obtain⟨kK,N⟩:=Jg _ _ D hK;obtain⟨kL',fL2⟩:=Jg _ _ fL hL;refine⟨⟨eK,kK⟩,n,I3.turned (λc o C e=>by rw[XC _ _ _ _ C];exact e) N.1 N.2.1 N.2.2.2.1 N.2.2.2.2.1 N.2.2.2.2.2,U.trans IW,fL2,N,(by
    have:=get?_update_seq kK λxs=>xs.push (Value.ref b);rw[this,show ks.toArray.push (Value.ref b)=(ks++[Value.ref b]).toArray by simp];exact⟨_,rfl⟩),?_,λi u r=>?_⟩
   ·rw[XC _ _ _ _ LK];exact kL'
   ·by_cases G:i<ks.length
    ·rw[Yw G]at r;obtain⟨c,x,e1,e2,e3⟩:=Ld i u r;exact⟨c,x,e1,e2,IW _ _ e3⟩
    ·rw[Yy (by exact ZJ G)]at r;have Tu:i=ks.length:=by
      by_cases z:i-ks.length=0
      ·lia
      ·rw[Yr (by simp;lia)]at r;cases r
     subst Tu;simp at r;exact⟨b,y,r.symm,hy,Ms⟩
  ·rintro ks j ⟨d,I2,U,fL,D,⟨eK,hK⟩,hL,Ld⟩ KO;have kz:∀z∈ks.zip vs,∃b x t,z=(Value.ref b,Value.str x t)/\d b=Z (.tup ((kL x).map kV)):=λz m=>by
    obtain⟨i,G,e⟩:=Yj m;have e':(ks.zip vs)[i]?=Z z:=by rw[Zk G,e]
    obtain⟨z1,z2⟩:=z;rw[Ya]at e';obtain⟨b,x,rfl,e2,e3⟩:=Ld i z1 e'.1;obtain⟨x2,t,rfl,M⟩:=each i z2 e'.2;rw[e2]at M;cases M;exact⟨b,x,t,rfl,e3⟩
   have Rz:∀{b:KM}{x:Str},d b=Z (.tup ((kL x).map kV))->jV j.heap (.ref b) (kL x):=λe=>BP I2.xt e;refine⟨tuples' B,GT j.heap [B,L],rT j.heap,BX λv ks t=>t,λz m=>?_,λtwo Q1 q1=>?_,λout o1 o2=>⟨rfl,?_⟩⟩
   ·obtain⟨b,x,t,rfl,e⟩:=kz z m;exact⟨_,Rz e,rfl⟩
   ·refine zH (k0:=B) (sh:=[L]) (by lia) (λv hv=>?_) q1;obtain⟨i,G,e⟩:=Yj hv;obtain⟨b,x,rfl,_,e3⟩:=Ld i v (by rw[Zk G,e]);exact⟨_,Rz e3,rfl⟩
   ·have I3:=I2.turned (t':=j.toks) (h':=j.heap.update (g.objs.size+2) (Obj.mapSeq λ_=>#[])) (λc o C e=>by rw[XC _ _ _ _ C];exact e) D.1 D.2.1 D.2.2.2.1 D.2.2.2.2.1 D.2.2.2.2.2;have hL2:(j.heap.update (g.objs.size+2) (Obj.mapSeq λ_=>#[])).get? g.objs.size=Z (seqObj "list" #[] e0):=by rw[XC _ _ _ _ LK];exact hL
    have P:=get?_update_seq hL2 λ_=>(out.map λz=>z.2).toArray;have ho:=λz m=>kz z (o1.mem_iff.mp m);have SG:out.length=ss.length:=by
     rw[o1.length_eq,Yu];lia
    have vals:∀{out:List Pi},(∀z∈out,∃b x t,z=(Value.ref b,Value.str x t)/\d b=Z (.tup ((kL x).map kV)))->aM ((out.map λz=>Ph z.2).map V.str) (out.map (·.2)):=by
     intro out
     induction out with
     |nil=>intro _;exact .nil
     |cons z out ih =>
      intro h;obtain⟨b,x,t,rfl,_⟩:=h z Zy;exact .cons ⟨t,rfl⟩ (ih λz m=>h z (Zw _ m))
    refine⟨.ref g.objs.size,_,I3.adopt fL (λc o C e=>by rw[XC _ _ _ _ C];exact e) ⟨_,P⟩ (show cU X.prog X.w _ _ _ (.lst _) from⟨by rw[Zu,Zu,SG];lia,(out.map λz:Pi=>z.2),_,vals ho,P⟩),rfl,q _ d _ U fL.1 ?_ ?_⟩
    ·have:=o1.map λz=>Ph z.2;have e2:(ks.zip vs).map (λz=>Ph z.2)=ss:=by
      rw[← hvs];have:(ks.zip vs).map (λz=>Ph z.2)=((ks.zip vs).map Prod.snd).map Ph:=by rw[Z7];rfl
      rw[this,WY (by lia)]
     rw[e2]at this;exact this
    ·rw[X2];refine List.Pairwise.imp_of_mem (λ{a b} ha hb h=>?_) o2;obtain⟨c,x,t,rfl,e⟩:=ho a ha;obtain⟨c2,x2,t2,rfl,e2⟩:=ho b hb;unfold le at h;rw[nr (Rz e2) (Rz e)]at h;exact h
end
end L2
end
section
namespace VS
open PySem PySem.Spec PyProof.Rows L2 TS
noncomputable def lL(a b:Tx):Prop:=a.length<b.length\/a.length=b.length/\a<b
def S4(a b:Tx):Bool:=decide (a.length<b.length)||(decide (a.length=b.length)&&Mp a b)
def vD(a b:Tx):S4 a b=B↔lL a b:=by
 unfold S4 lL;rw[ly];simp
def pd(a:Tx):¬lL a a:=λh=>by
 rcases h with h | ⟨_,h⟩
 ·exact YK _ h
 ·exact Xh _ h
def og(h:lL a b)(d:lL b c):lL a c:=by
 rcases h with h | ⟨e,h⟩<;>rcases d with d | ⟨f,d⟩
 ·exact .inl (by exact VB h d)
 ·exact .inl (by lia)
 ·exact .inl (by lia)
 ·exact .inr ⟨by exact Eq.trans e f,VO h d⟩
def nL(a b:Tx):lL a b\/a=b\/lL b a:=by
 rcases Nat.lt_trichotomy a.length b.length with h | h | h
 ·exact .inl (.inl h)
 ·by_cases e:a<b
  ·exact .inl (.inr ⟨h,e⟩)
  ·by_cases d:b<a
   ·exact .inr (.inr (.inr ⟨h.symm,d⟩))
   ·exact .inr (.inl (Uw (WV.mp d) (WV.mp e)))
 ·exact .inr (.inr (.inl h))
def t9(x:Tx):List Tx->List Tx
 |[]=>[x]
 |y :: r=>if S4 y x then y :: t9 x r else x :: y :: r
def iF(l:List Tx):List Tx:=l.foldr t9 []
theorem lK(x:Tx):∀l:List Tx,(t9 x l).Perm (x :: l)
 |[]=>XM _
 |y :: r=>by
  unfold t9;split
  ·exact((lK x r).cons y).trans (List.Perm.swap _ _ _)
  ·exact XM _
theorem fG:∀l:List Tx,(iF l).Perm l
 |[]=>XM _
 |x :: l=>(lK x _).trans ((fG l).cons x)
theorem uH(x:Tx):∀{l:List Tx},l.Pairwise (λa b=>¬lL b a)->(t9 x l).Pairwise (λa b=>¬lL b a)
 |[],_=>by simp[t9]
 |y :: r,h=>by
  unfold t9;obtain⟨g,i⟩:=YL.mp h;split
  ·rename_i c;have f:=(vD y x).mp c;refine YL.mpr ⟨λz d=>?_,uH x i⟩;rcases Zh.mp ((lK x r).mem_iff.mp d) with rfl | d
   ·exact λw=>pd _ (og f w)
   ·exact g z d
  ·rename_i c;have f:=λz=>c ((vD y x).mpr z);refine YL.mpr ⟨λz d=>?_,h⟩;rcases Zh.mp d with rfl | d
   ·exact f
   ·intro w;rcases nL y x with e | e | e
    ·exact f e
    ·subst e;exact g z d w
    ·exact g z d (og w e)
theorem oi:∀l:List Tx,(iF l).Pairwise (λa b=>¬lL b a)
 |[]=>List.Pairwise.nil
 |x :: l=>uH x (oi l)
def ui{d:List Tx}(h:d.Perm l)(e:d.Pairwise (λa b=>¬lL b a)):d=iF l :=
 List.Perm.eq_of_pairwise (λa b _ _ g f=>(nL a b).elim (λz=>absurd z f) λz=>z.elim id λz=>absurd z g) e (oi l) (h.trans (fG l).symm)
def AZ(a b:Str):eO (kL a) (kL b)=B↔lL a.cps.toList b.cps.toList:=by
 unfold kL lL;rw[eO];by_cases h:((a.cps.toList.length:Int))=(b.cps.toList.length:Int)
 ·rw[Zr (by rw[h]),eO];have f:a.cps.toList.length=b.cps.toList.length:=by lia
  by_cases e:a=b
  ·subst e;simp[eO,Xh]
  ·rw[Zq (by simpa using e),Ki];simp[f]
 ·rw[Zq (λz=>h (by injection z)),Ki,decide_eq_true_eq];constructor
  ·intro d;exact .inl (by omega)
  ·rintro (d | ⟨d,_⟩)
   ·omega
   ·lia
def nU:Uo->Um
 |[(_,.dct 0 l)]=>(strs? (l.map (·.1))).bind λa=>if a.all Ry then Z (.fr,.lst ((iF a).map .str)) else J
 |_=>J
section
def vZ{g:List Tx}{d:List Str}(h:d.Perm (g.map sx))(j:d.Pairwise (λa b=>eO (kL b) (kL a)=L)):d=(iF g).map sx:=by
 have e:d=(d.map λx=>x.cps.toList).map sx:=by
  rw[Z7]
  conv=>lhs;rw[← Vc d]
  apply YU;intro x i;obtain⟨s,_,rfl⟩:=Yv.mp (h.mem_iff.mp i);show sx s=sx (sx s).cps.toList;rw[qq]
 have e2:(d.map λx=>x.cps.toList)=iF g:=by
  refine ui ?_ ?_
  ·have:=h.map λx:Str=>x.cps.toList;rw[Z7]at this;have e3:((λx:Str=>x.cps.toList) ∘ sx)=id:=by
    funext s;exact qq s
   rw[e3,Vc]at this;exact this
  ·rw[X2];exact j.imp λ{a b} h z=>by
    rw[(AZ b a).mpr z]at h;cases h
 rw[e,e2]
def AI{X:Cx}(F:FnOk X.prog X.w X.K X.mg X.base Jb k f fd ps (KI G cg))(TK:∀t:Tx,j5 t->cg [.str t]=Z (.fr,.tup [.int t.length,.str t]))(hr:xh (k+2) X.A)(Tv:Gl X x)(S:X.mg x=Z (.ref f))(hb:Binds X.K fd ps [])(hm:X.mg "sorted" = J)(ha:Jj G X [e] cs)(hg:Gl X "sorted")(hc:X.calm=B)(QL:K3 x)(he:backTo pos (Pv [e] X.env)=(L,eval e X.env) :: backTo pos (Pv [] X.env))(P:(backTo pos (Pv [e] X.env)).any (·.1)=L) :
  PV G X (.Call (.Name "sorted" p) [e] [⟨Z "key",.Name x p2,kp⟩] pos) (eN nU cs):=by
 intro b s O H Q I h;refine L2.ai λP_ N=>?_;obtain⟨R,U,m,t,sr,g,kk⟩:=h;obtain⟨l,el,g⟩:=Zz.mp g;refine N ?_;refine X6 (lr I hg hm oO ?_ (by decide) Y);refine PyProof.Rows.callWith_kw (thn (ha pos b s O H (λq j=>∃n,Args G R U H j l q n) I ⟨R,U,l,sr,el,λq j n M q2 q3=>⟨n,M,q2,q3⟩⟩) λus s1 h_=>?_) he P Y Y;obtain⟨q,j,I1,r1,n,A⟩:=h_;refine thn ((Be (uT (v:=.ref f) Tv S Y QL) FD) pos b s1 O j (λo H2=>o=[.ref f]/\H2=j) I1 ⟨rfl,rfl⟩) λws s2 h_=>?_;obtain⟨o,H2,I2,rz,ez,eH⟩:=h_;subst ez eH;obtain⟨u,rfl,D⟩:=rz.one;obtain rfl:=(D)
 refine(?_);refine L2.ai λP_ N=>?_;unfold nU at g;split at g
 ·rename_i mx y hh;obtain⟨ss,e1,e2⟩:=Zz.mp g;split at e2
  ·rename_i hbt;cases e2;obtain⟨v,F',rfl,rfl,rx⟩:=(A.rp).one;obtain⟨a,ks,ys,ts,Gs,rfl,rfl,hha,hl,rfl,ra⟩:=cW rx;obtain⟨u,rfl,D⟩:=r1.one;obtain rfl:=(D)
   have Jk:ks.length=ts.length:=by rw[hl,ra.len.1]
   rw[(WX (by rw[Zu];exact Y9 Jk))]at e1;have e4:=keys_str e1;have tok:=λs d=>zV (Z6.mp hbt s d);refine N ?_;refine l7 (ss:=ss.map sx) (E:=E0) hc F hr hb I2 (by rw[← hl,e4];simp) (by rw[← e4];exact hha) (λx hx H3 C Q1 M=>?_) λl H3 o C JH pz pw=>?_
   ·obtain⟨s,d,rfl⟩:=Yv.mp hx;refine⟨[.str s],[[]],.fr,_,.cons (.str s (tok s d)) .nil,TK s (tok s d),λv H4 F4 z r4 _=>?_⟩;cases r4 with
    |tup h4 i =>
     cases i with
     |cons c1 i =>
      cases i with
      |cons c2 i =>
       cases i;cases c1;cases c2;refine M _ _ z ?_;rw[h4];simp[kL,kV,sx]
   ·rw[vZ pz pw];have r:Rp G (upd H3 l (.lst (((iF ss).map sx).map V.str))) (.ref l) (.lst ((iF ss).map T.str)) (l :: ((iF ss).map λ_=>[]).flatten):=.lst (by rw[ar,Z7];rfl) (pV λs d=>tok s ((fG ss).mem_iff.mp d));rw[nR]at r;exact kk _ _ _ ((A.same.trans C).trans (bZ JH)) r (Fp.new ((A.same.trans C).free JH) (by simp) Fp.nil)
  ·cases e2
 ·cases g
end
end VS
end
section
namespace VS
open PySem PySem.Spec PyProof.Rows L2
section
def wm{X:Cx}(F:FnAt X.prog X.w X.K X.mg X.base k x ps G d)(j:k+2<=k')(u:∀t:Tx,j5 t->d [.str t]=Z (.fr,.tup [.int t.length,.str t]))(h:xh k' X.A)(i:X.mg "sorted" = J)(n:Jj G X [e] cs)(s:Gl X x)(l:Gl X "sorted")(m:X.calm=B)(v:K3 x)(he:backTo pos (Pv [e] X.env)=(L,eval e X.env) :: backTo pos (Pv [] X.env))(a:(backTo pos (Pv [e] X.env)).any (·.1)=L) :
  PV G X (.Call (.Name "sorted" p) [e] [⟨Z "key",.Name x p2,kp⟩] pos) (eN nU cs):=by
 obtain⟨f,fd,r,q,y,o⟩:=F.ex;exact AI r u (h.mono j) s q o i n l m v he a
def nP{b:Expr}(s:PV G X a i)(o:PV G X b f)(n:PV G X c d)(l:lastMarks [.LtE,.Lt] [b,c]=L):Lk G X (.Compare a [.LtE,.Lt] [b,c] pos) (pK oLe oLt i f d) :=
 PT.weak (zc EW uq s o n l) λO H Q h=>sE h (λU m r e=>by
  obtain⟨x,A,e⟩:=Zz.mp e;obtain⟨y,w,e⟩:=Zz.mp e;obtain⟨⟨t,z⟩,u,e⟩:=Zz.mp e;cases z with
  |bl q =>
   cases q with
   |false=>cases e;exact⟨_,rfl⟩
   |true =>
    obtain⟨j,v,e⟩:=Zz.mp (e);exact kA y j m r e
  |_=>cases e) λQ h=>Ai G7 zA h
def Eb{pos:Pos}(h:PV G X e a)(i:swapsWith e J pos.line X.env=pure L):PSV G X (.Expr e pos) (sX (xP a)) :=
 PS.weak (fY h i) λD O H d=>by
  obtain⟨R,U,out,s,e,k⟩:=d;obtain⟨⟨v,l⟩,e1,e2⟩:=Zt.mp e;obtain⟨⟨m,t⟩,e3,f⟩:=Zt.mp e1;cases f;cases e2;exact⟨R,U,m,t,s,e3,λv j F e1 r1 f1=>k R O j (s.same e1) (Jc.same e1)⟩
end
section
def EA{j pos'}(g:PV G X a ca):Lk G X (.Compare a [.Is] [.Constant .none j pos'] pos) (Ha ca) :=
 PT.weak (Ah (D3 g)) λO H Q h=>CU h (λU m r e=>by
  obtain⟨x,_,e⟩:=Zz.mp e;cases e;exact⟨_,rfl⟩) λQ f=>by
   obtain⟨R,U,m,r,s,e,q⟩:=f;obtain⟨⟨n,x⟩,i,e⟩:=Zz.mp e;cases e;refine⟨R,U,n,x,s,i,λv d F e1 r1 f1=>?_⟩;show Q (.bl (decide (v=.non))) d;rw[vC r1];exact q _ d _ e1 (.bl _) Fp.nil
def kx{j pos'}(g:PV G X a ca):Lk G X (.Compare a [.IsNot] [.Constant .none j pos'] pos) (gS ca) :=
 PT.weak (Ah (Cb g)) λO H Q h=>CU h (λU m r e=>by
  obtain⟨x,_,e⟩:=Zz.mp e;cases e;exact⟨_,rfl⟩) λQ f=>by
   obtain⟨R,U,m,r,s,e,q⟩:=f;obtain⟨⟨n,x⟩,i,e⟩:=Zz.mp e;cases e;refine⟨R,U,n,x,s,i,λv d F e1 r1 f1=>?_⟩;show Q (.bl (!decide (v=.non))) d;rw[vC r1];exact q _ d _ e1 (.bl _) Fp.nil
def mV(i:Nat)(k e:Ex)(U:VS.Env):Option Out:=(e U).bind λv=>match U[i]? with
 |some (some (.ow (.dct 0 l)))=>(k U).bind λd=>if iw d.2/\Iw v.2/\l.length<d4 then Z (.nx (U.set i (Z (.ow (.dct 0 (dput l d.2 v.2)))))) else J
 |_=>J
def z6{X:Cx}{pos:Pos}(i:Nat)(hr:xh kr X.A)(hk:PV G X b ck)(he:PV G X e ce)(hN:X.N[i]?=Z x)(hv:KG X.env.scope x)(hd:K3 x)(n:K4 x)(ha:∀v,assign (.Subscript (.Name x p1) b pos') X.env v=(do
   let h ← holding [v] (eval (.Name x p1) X.env)
   let iv ← holding [v,h] (eval b X.env)
   standAt pos'
   holding [v,h,iv] (setItem h iv v)
   release [v,h,iv] []))(hs:swapsWithSole [.Subscript (.Name x p1) b pos'] e pos.line X.env=pure L)(hw:swappedStores [.Subscript (.Name x p1) b pos'] e X.env=pure J)(h1:(assignEach [.Subscript (.Name x p1) b pos'] X.env).map (·.2)=[assign (.Subscript (.Name x p1) b pos') X.env]):PSV G X (.Assign [.Subscript (.Name x p1) b pos'] e pos) (mV i ck ce) :=
 PS.weak (t7 he (t8 (dk hN hv hd n) hk (xm (kM hr)) ha) hs hw h1) λD O H hq=>by
  obtain⟨R,U,out,s,e,k⟩:=hq;obtain⟨⟨mv,p⟩,ev,e⟩:=Zz.mp e;split at e
  ·rename_i l m;obtain⟨⟨mk,tk⟩,Mv,e⟩:=Zz.mp e;split at e
   ·rename_i hc;obtain⟨c1,c2,c3⟩:=hc;cases e;obtain⟨w,y,Y⟩:=s.rp _ _ m;have o:=s.nd i _ m;refine⟨R,U,mv,p,s,ev,λxv H1 Fv M rv fv=>⟨w,y,R,U,mk,tk,s.same M,Mv,λkv P Fk F rk fk=>?_⟩⟩;have j:=M.trans F;have C:=rv.same F;have eF:=C.Iw c2;refine L2.ai λP_ k_=>?_;subst eF;obtain⟨a,ns,vs,q,Fs,rfl,d,II,hl,rfl,r⟩:=cW Y;rw[d]at o;obtain⟨u,rfl,Nb⟩:=dh rk c1;subst Nb;have E:=j a _ II;have t:Il (P a):=by rw[E];exact True.intro
    have nd:=Zc.mp o;obtain⟨Kt,Ll,Ls,KU,q1,q2,q3,q4,f⟩:=uE C hl (r.same j);refine k_ ?_;refine .inr ⟨a,_,rfl,tU.k E (by
     have:((ns.map aE).zip q).length<16777216:=c3;rw[Yu,Zu]at this;rw[Yu];have:=r.len.1;have:(KF:Nat)=16777216:=rfl;lia),?_⟩
    have g:Chg G H (.ref a) (R i) (.dct 0 (dput ((ns.map aE).zip q) (aE u) p)) (upd P a (.dK (putK (ns.zip vs) u xv))) (a :: KU.flatten):=by
     rw[d,q1,q3];refine Chg.upd j Zy t (.dct ar q2 (q4.off t λz=>nd.1 (f.subset z))) ?_ ?_
     ·exact Zc.mpr ⟨λz=>nd.1 (f.subset z),nd.2.sublist f⟩
     ·intro bb hb;rcases Zh.mp hb with rfl | hb
      ·exact .inl Zy
      ·exact .inl (Zw _ (f.subset hb))
    obtain⟨S,Q⟩:=s.mut m y g;exact k _ O _ S Q
   ·cases e
  ·cases e
end
end VS
end
section
namespace VS
open PySem PySem.Spec PyProof.Rows L2
section
def B6:bootBuiltins ("dict" : Str)=Z (.type "dict"):=by decide +kernel
end
end VS
end
section
namespace L2
open PySem PySem.Spec PyProof.Rows
section
variable{H:Hp}
def qA(I:Inv X pins O H s)(e:H d=Z (.dK a))(g:s.heap.get? d=Z o):Inv X pins O (upd H d (.frz o (.dK a))) s :=
 iu I (by rw[e];exact True.intro) ⟨rfl,λ_ _=>rfl⟩ ⟨o,g⟩ ⟨g,I.xt d _ e⟩
end
def UX(d:KM)(o:Obj)(a:List (Key×V)):It :=
 ⟨λi H=>H d=Z (.frz o (.dK a))/\i<a.length,λi H x b=>b=H/\∃p,a[i]?=Z p/\x=kV p.1,λi H=>H d=Z (.frz o (.dK a))/\a.length<=i⟩
def CB(h:l6 k v=B):RelV (kV k) v:=by
 rcases bJ h with⟨i,t,rfl,rfl⟩ | ⟨x,t,rfl,rfl⟩
 ·exact⟨t,rfl⟩
 ·exact⟨t,rfl⟩
def o7{P:Re}{w:XAA}{a:List DictEntry}{m:List (Key×On)}(r:Pairs (aQ P w) a m){i:Nat}{e:DictEntry}(h:a[i]?=Z e):∃q,m[i]?=Z q/\l6 q.1 e.key=B:=by
 induction r generalizing i with
 |nil=>simp at h
 |@cons j b a l f g _ d =>
  cases i with
  |zero =>
   simp at h;subst h;exact⟨b,rfl,f⟩
  |succ i=>simpa using d (by simpa using h)
def Dt{l:List (Key×V)}{m:List (Key×On)}(r:KV l m){i:Nat}{q:Key×On}(h:m[i]?=Z q):∃p,l[i]?=Z p/\p.1=q.1:=by
 induction r generalizing i with
 |nil=>simp at h
 |@cons a f g e d t b =>
  cases i with
  |zero=>simp at h;subst h;exact⟨a,rfl,d.1⟩
  |succ i=>simpa using b (by simpa using h)
section
def D4{K:Ww}(d f:KM){G:Array DictEntry}(a:KV S M)(he:Pairs (aQ P w) G.toList M) :
  Turn P w K tg (UX d (ST.dO G R) S) [f] f (λi h=>h.get? f=Z (ST.kO d i G.size R)) where
 mem:=by simp
 obj:=λi h st b hb=>by
  rw[Zl.mp hb];exact⟨_,st,λv z=>by cases z⟩
 keep:=λi h x st k=>k f (by simp) _ st
 item:=by
  intro X t hw u r i j s O H E I m st hg;subst t hw u;obtain⟨D,f1,f2,C,A,y⟩:=m f (by simp);refine ST.kG (I.ok.hd r) st ((I.xt d _ hg.1).1) (λe l x sb g=>?_) λN=>?_
  ·rw[← Z2]at l;obtain⟨q,n,Q⟩:=o7 he l;obtain⟨p,U,hb⟩:=Dt a n;exact⟨_,rfl,pE g Y Y Y ⟨kV p.1,H,(I.turned (t':=s.toks) (λb o hb e=>(sb.2 b hb).trans e) D f1 C A y),by rw[hb];exact CB Q,⟨rfl,p,U,rfl⟩,g,λb hb=>(m b hb).1⟩⟩
  ·exfalso;rw[← Z2,Yi,he.length,← Wz a]at N;exact absurd hg.2 (by lia)
 done:=by
  intro X t hw u r i j s O H E I m st hg;subst t hw u;obtain⟨D,f1,f2,C,A,y⟩:=m f (by simp);refine ST.kG (I.ok.hd r) st ((I.xt d _ hg.1).1) (λe l x sb g=>?_) λN x kp=>⟨rfl,I.turned (λb o hb e=>kp b o hb e) D f1 C A y⟩
  exfalso;rw[← Z2]at l;obtain⟨q,n,Q⟩:=o7 he l;have:=(ZZ.mp n).1;have h2:=hg.2;rw[Wz a]at h2;lia
 self:=λ_ _ _ _ _ st hQ=>wpAny_pyIter_slot ⟨_,st,rfl⟩ X9 (Y3 X9 ⟨_,st,rfl⟩ F.entry_dict_keyiterator_iter (Zm ⟨_,rfl, "dict_keyiterator",_,⟨_,st,rfl⟩,Xj.lookup,hQ⟩) (F.args_dict_keyiterator_iter_1 _))
def iDk(e:TE):TI:=λO H Rq=>e O H λx b=>∃d a,x=.ref d/\b d=Z (.dK a)/\∀o,Rq (UX d o a) (upd b d (.frz o (.dK a)))
def GY(p:PE X l j):PI X tg l (iDk j):=by
 intro a s O H Rq I h;refine thn (p a s O H _ I h) λv i r=>?_;obtain⟨x,F,f,r1,m⟩:=r;refine L2.ai λE n=>?_;obtain⟨d,D,ex,e,q⟩:=m;subst ex;cases r1;obtain⟨z,y,u,rel,o,A,C,g,ex,hd,_,he,w⟩:=ou f.xt e;have eo:=rJ ex hd;subst eo;refine n ?_;refine ST.rG y g ?_;refine⟨i.heap.objs.size,[i.heap.objs.size],_,_,_,rfl,(qA f e g).kept λb o e=>Za _ e,D4 d _ rel he,ZD _ Y,λb hb=>?_,q _⟩;have t:b=i.heap.objs.size:=by simpa using hb
 subst t;exact(qA f e g).Li (Zn _) ((qA f e g).xt.fresh (Zn _))
end
end L2
namespace VS
open PySem PySem.Spec PyProof.Rows L2
noncomputable def VZ:T->Bool
 |.non=>B
 |.bl _=>B
 |.int _=>B
 |.str _=>B
 |_=>L
end VS
end
section
namespace L2
def Fg{α:Type}{b:List α}(d:b.length=n+1):∃a t,b=a :: t/\t.length=n:=by
 obtain⟨a,t,e⟩:=List.exists_cons_of_length_eq_add_one d;subst e;exact⟨a,t,rfl,VC d⟩
def jK{α:Type}{b:List α}(d:b.length=1):∃a,b=[a]:=List.length_eq_one_iff.mp d
def ft{α:Type}{d:List α}(f:d.length=2):∃a b,d=[a,b]:=by
 obtain⟨a,t,rfl,e⟩:=Fg f;obtain⟨b,rfl⟩:=jK e;exact⟨a,b,rfl⟩
def wu{α:Type}{d:List α}(f:d.length=3):∃a b c,d=[a,b,c]:=by
 obtain⟨a,t,rfl,e⟩:=Fg f;obtain⟨b,c,rfl⟩:=ft e;exact⟨a,b,c,rfl⟩
def G2{α:Type}{e:List α}(g:e.length=4):∃a b c d,e=[a,b,c,d]:=by
 obtain⟨a,t,rfl,f⟩:=Fg g;obtain⟨b,c,d,rfl⟩:=wu f;exact⟨a,b,c,d,rfl⟩
end L2
end
section
namespace VS
open PySem PySem.Spec PyProof.Rows L2
inductive Res where | ok (v:Val) | ex (x:Str)
inductive US where | ok (o:Out) | ex (x:Str) (U:VS.Env)
abbrev ExX:=VS.Env->Option Res
abbrev SxX:=VS.Env->Option US
end VS
end
section
namespace VS
open PySem PySem.Spec PyProof.Rows L2 PySem.F
section
variable{K:Ww}
noncomputable def BA:Fn:=λa=>match a with
 |[.scr _]=>Z (.fr,.bl B)
 |_=>J
end
end VS
end
section
namespace TS
open PySem PySem.Spec PyProof.Rows
def vM(o:∀v∈f,∃x t,v=Value.str x t){d:Array Pi}(g:d.Perm (pairsOf f))(p:SortedToK strKind d (pairsOf f).size):((d.map (·.2)).toList.map strOf).Pairwise (λa b=>¬b.cps.toList<a.cps.toList):=by
 obtain⟨n,m⟩:=pD g;rw[X2,YH];intro i j r l u;have key:∀i (h:i<(d.map (·.2)).toList.length),KK strKind d i=(strOf (d.map (·.2)).toList[i]).cps.toList:=λi h=>by
  have e:d[i]?=Z ((d.map (·.2)).toList[i],(d.map (·.2)).toList[i]):=by
   rw[← Z2,← m,ZL,Zk h];rfl
  obtain⟨x,t,ex⟩:=o _ (n.mem_iff.mp (Yo h));unfold KK;rw[e];rw[ex];rfl
 have q:=p i j (ZO u) (by rw[← g.size_eq];simpa using l);rw[key i r,key j l]at q;exact of_decide_eq_false q
def qk{A:SB}(y:∀(q:SB)(z:Z9),q.handled=A.handled->PP (KB prog w) q (collect x) (λf d=>(∀v∈f,∃x t,v=Value.str x t)/\f.length<64/\∀(out:W7)(j:UV)(e:Nat),out.Perm f->(out.map strOf).Pairwise (λa b=>¬b.cps.toList<a.cps.toList)->(∀b o,d.heap.get? b=Z o->j.get? b=Z o)->j.get? d.heap.objs.size=Z (seqObj "list" out.toArray e)->Q (.ref d.heap.objs.size) { d with heap:=j }) z s) :
  PP (KB prog w) A (call (.builtin "sorted") [x]) Q E s:=by
 refine Calls.call_function_entry kind_sorted plain_sorted entry_sorted (args_sorted1 _) (?_);refine Zx (Zm (Zx (YD (y A.in1 (λ_ _=>False) Y) ?_ λ_ _ e=>e.elim)));rintro m d ⟨g,i,h⟩;refine Zx (wpAny_newList ?_ (by rw[Wa];omega));have l:(d.heap.push (seqObj "list" m.toArray 0)).get? d.heap.objs.size=Z (seqObj "list" m.toArray 0):=ZD _ Y;refine Zx (Xf (Y3 slot_list_sort ⟨_,l,rfl⟩ entry_list_sort (list_sort_treeK strKind_oneLt l (strsAre_map _ g).keysOf (λD C rest e=>keyKind_strs (by rw[← e];exact strsAre_map _ g)) i λr p u=>⟨_,rfl,?_⟩) (args_list_sort _)));obtain⟨e,he⟩:=sortedHeap_at l;exact Zm ⟨_,rfl,h ((arrOf r).map (·.2)).toList _ e (pD p).1 (vM g p u) (λb o n=>by
  have hb:=ZI n;rw[sortedHeap_old (ZR hb) (by rw[WK];exact Yl hb),Wu _ _ _ (ZR hb)];exact n) he⟩
end TS
namespace L2
open PySem PySem.Spec PyProof.Rows TS
section
def jQ{X:Cx}(hc:X.calm=B):dD X (.builtin "sorted") (λC H Q=>∃p,∃(d:List Str)(j:List V),C=[.ref p]/\d.length<64/\d.length=j.length/\H p=Z (.dK ((d.map Sum.inr).zip j)) ∧
  ∀(l:KM)(A:List Str),H l=J->A.Perm d->A.Pairwise (λa b=>¬b.cps.toList<a.cps.toList)->Q (.ref l) (upd H l (.lst (A.map V.str)))):=by
 intro f s O H C us Q I P h;refine L2.ai λP_ U=>?_;obtain⟨p,d,j,rfl,h64,hl,hq,q⟩:=h;obtain⟨u,rfl,R⟩:=P.one;cases R;obtain⟨Y,hS,F,rel,z⟩:=ou I.xt hq;obtain⟨ep,z⟩:=z.dictAt;refine U ?_;have Tq:F.length=d.length:=by
  have:=rel.length;rw[Yu,Zu]at this;lia
 refine TS.qk λA' E' hA=>PySem.W.kdu_collect (PySem.W.kdl_dict hS) (hA.trans (I.ok.hd hc)) z (by rw[Yu,Zu]at Y;lia) λE N acc kp G=>?_;have M:Inv X f O H { s with heap:=E,toks:=N }:=I.kept kp;have o:acc.toList.length=d.length:=by rw[YS,G.1,Tq]
 have each:∀i v,acc.toList[i]?=Z v->∃x t,v=Value.str x t/\d[i]?=Z x:=λi v g=>by
  rw[Z2]at g;obtain⟨k,x,e1,e2⟩:=G.2 i v g;have e3:=(λi=>by
  have D:((F.map (·.1)))[i]?=(d.map (Sum.inr:Str->Key))[i]?:=by
   rw[← rel.keys];rw[WX (by rw[Zu];exact Y9 hl)]
  rw[ZL,ZL]at D;exact D) i
  rw[e1]at e3;cases r:d[i]? with
  |none=>rw[r]at e3;cases e3
  |some y =>
   rw[r]at e3;have e5:=Zg e3;subst e5;obtain⟨t,rfl⟩:=V9 (e2);exact⟨y,t,rfl,r⟩
 have g:∀v∈acc.toList,∃x t,v=Value.str x t:=λv n=>by
  obtain⟨i,hi,e⟩:=Yj n;obtain⟨x,t,e1,_⟩:=each i v (by rw[Zk hi,e]);exact⟨x,t,e1⟩
 have es:acc.toList.map strOf=d:=by
  apply V4;intro i;rw[ZL];cases e:acc.toList[i]? with
  |none =>
   have:=Yi.mp e;rw[Yi.mpr (by lia)];rfl
  |some v =>
   obtain⟨x,t,rfl,e1⟩:=each i v e;rw[e1];rfl
 refine⟨g,by omega,λout h2 e m S Jg he=>?_⟩;exact⟨.ref E.objs.size,_,M.laid Jg (Zn _) (show cU X.prog X.w _ h2 _ (.lst ((out.map strOf).map V.str)) from⟨(by rw[Zu,Zu,m.length_eq,o,Wa];omega),out,e,se (λv n=>g v (m.mem_iff.mp n)),he⟩),rfl,q _ _ (M.xt.fresh (Zn _)) (by rw[← es];exact m.map _) S⟩
end
end L2
namespace VS
open PySem PySem.Spec PyProof.Rows L2
section
def gK:Uo->Um
 |[(_,.dct 0 l)]=>(strs? (l.map (·.1))).bind λa=>if a.length<64/\a.all Ry=B then Z (.fr,.lst ((eW a).map .str)) else J
 |_=>J
def zF:eZ G (λn H Q=>∃p,∃(d:List Str)(f:List V),n=[.ref p]/\d.length<64/\d.length=f.length/\H p=Z (.dK ((d.map Sum.inr).zip f)) ∧
  ∀(l:KM)(g:List Str),H l=J->g.Perm d->g.Pairwise (λa b=>¬b.cps.toList<a.cps.toList)->Q (.ref l) (upd H l (.lst (g.map V.str)))) gK:=by
 intro R U E H l f N m t Q A e k;unfold gK at e;split at e
 ·rename_i C x;obtain⟨d,e1,e2⟩:=Zz.mp e;split at e2
  ·rename_i hb;refine L2.ai λD u=>?_;cases e2;obtain⟨v,F,rfl,rfl,q⟩:=(A.rp).one;obtain⟨a,ks,j,o,M,rfl,rfl,y,h,rfl,r⟩:=cW q;refine u ?_;have z:ks.length=o.length:=by rw[h,r.len.1]
   rw[(WX (by rw[Zu];exact Y9 z))]at e1;have i:=keys_str e1;refine⟨a,d.map sx,j,rfl,by rw[Zu];exact hb.1,?_,by rw[← i];exact y,yu k A.same λs w=>zV (Z6.mp hb.2 s w)⟩;rw[← h,i,Zu,Zu,Zu]
  ·cases e2
 ·cases e
def ve{X:Cx}(a:X.mg "sorted" = J)(f:Jj G X [e] cs)(b:{`q2,Gl X "sorted"})(g:{`q2,X.K=G.K})(d:{`q2,X.calm=B})(he:{`q2,K1 e [] X}):PV G X (.Call (.Name "sorted" p) [e] [] pos) (eN gK cs) :=
 i8 (jQ d) zF b a oO f (he:=he)
end
noncomputable def OJ:T->Bool
 |.bl true=>B
 |_=>L
mutual
def gH:T->Bool
 |.tup l=>dZ l
 |.lst l=>dZ l
 |.dct _ l=>r6 l
 |.obj _ l=>eP l
 |_=>B
def dZ:Ul->Bool
 |[]=>B
 |t :: r=>gH t&&dZ r
def r6:List (T×T)->Bool
 |[]=>B
 | (_,v) :: r=>gH v&&r6 r
def eP:List (Nat×T)->Bool
 |[]=>B
 | (n,v) :: r=>(gH v && !(n==0&&OJ v))&&eP r
end
theorem gR:∀{ks:Ul}{a:Ul},ks.length=a.length->r6 (ks.zip a)=B->dZ a=B
 |[],[],_,_=>rfl
 |_ :: _,[],h,_=>nomatch h
 |[],_ :: _,h,_=>nomatch h
 |k :: ks,t :: a,h,e=>by
  have e:=ZS.mp (e);exact ZS.mpr ⟨e.1,gR (VC h) e.2⟩
theorem d8:∀{ks:Us}{a:Ul},ks.length=a.length->eP (ks.zip a)=B->dZ a=B
 |[],[],_,_=>rfl
 |_ :: _,[],h,_=>nomatch h
 |[],_ :: _,h,_=>nomatch h
 |k :: ks,t :: a,h,e=>by
  have e:=ZS.mp (e);exact ZS.mpr ⟨(ZS.mp e.1).1,d8 (VC h) e.2⟩
section
variable{H:Hp}
theorem Rp.at(m:Me)(r:Rp G H v t F):gH t=B->Rp (G.at m) H v t F :=
 Rp.rec (G:=G) (H:=H) (motive_2:=λg e j _=>dZ e=B->RpL (G.at m) H g e j)
  (λ_=>.non) (λb _=>.bl b) (λi _=>.int i) (λs h _=>.str s h) (λh _=>.scr h) (λh _ d f=>.tup h (d f)) (λh _ d f=>.lst h (d f))
  (λh l q d f=>.dct h l (d (gR (by rw[Zu,l];exact q.len.1) f))) (λh l q d f=>.dctT h l (d (gR (by rw[Zu,l];exact q.len.1) f)))
  (λh l n q d f=>.dctN h l n (d (gR (by rw[Zu,l];exact q.len.1) f))) (λh l q d f=>.dctZ h l (d (gR (by rw[Zu,l];exact q.len.1) f))) (λh u _=>.exc h u)
  (λ{c a x b ks g e j} h l w q d f=>by
   have f:=ZS.mp (f);have hb:b=L:=by
    cases b with
    |false=>rfl
    |true=>exact nomatch f.1
   refine .ins h l (λz=>?_) (d (d8 (by rw[l];exact q.len.1) f.2));rw[hb]at z;cases z)
  (λ_ _ _ f=>nomatch f)
  (λ_=>.nil) (λ_ _ p o f=>by
   have f:=ZS.mp f;exact .cons (p f.1) (o f.2)) r
theorem RpL.at(m:Me):∀{b:List V}{a:Ul}{d:Xc},RpL G H b a d->dZ a=B->RpL (G.at m) H b a d:=by
 intro b a
 induction a generalizing b with
 |nil=>intro d r f;cases r;exact .nil
 |cons t a e =>
  intro d r f;cases r with
  |cons r q=>exact .cons (r.at m (ZS.mp f).1) (e q (ZS.mp f).2)
mutual
theorem ot:∀t:T,Iw t=B->gH t=B
 |.non,_=>rfl
 |.bl _,_=>rfl
 |.int _,_=>rfl
 |.str _,_=>rfl
 |.scr _,_=>rfl
 |.tup l,h=>uZ l h
 |.lst _,h=>by cases h
 |.dct _ _,h=>by cases h
 |.obj _ _,h=>by cases h
theorem uZ:∀l:Ul,fU l=B->dZ l=B
 |[],_=>rfl
 |t :: l,h=>by
  have h:=ZS.mp h;exact ZS.mpr ⟨ot t h.1,uZ l h.2⟩
end
end
def qJ(k:Nat):T->Option T
 |.obj (_+1) (_ :: fs)=>(fs.findIdx? λp=>p.1==k).bind λi=>(fs[i]?).map (·.2)
 |_=>J
def bj(k:Nat)(a:Ex):Ex:=λU=>(a U).bind λx=>(qJ k x.2).map λt=>sub x.1 t
section
def w_fld{X:Cx}(J:jF G)(F:Jv G X.K k f)(ha:PV G X a ca)(A:{`q8,XAB a f X.env (eval a X.env)=eval a X.env}):PV G X (.Attribute a f pos) (bj k ca) :=
 PE.weak (zv ha A) λO H Q hq=>by
  refine L2.ai λP_ l=>?_;obtain⟨R,U,m,t,s,e,kq⟩:=hq;obtain⟨⟨mx,y⟩,ea,e1⟩:=Zz.mp e;obtain⟨z,d,e2⟩:=Zt.mp e1;refine l ?_;refine⟨R,U,mx,y,s,ea,λv H' F' sm r1 f1=>?_⟩;unfold qJ at d;split at d
  ·rename_i c q0 fs hy;refine L2.ai λP_ l=>?_;subst hy;obtain⟨j,D,e3⟩:=Zz.mp d;obtain⟨p,C,e4⟩:=Zt.mp e3;subst e4;obtain⟨c',a,dx,b,ns,vs,Y,Fs,ec,rfl,rfl,rfl,rfl,hA,w,A,r⟩:=dW r1;cases ec;obtain⟨q,g,M,E,g3,g4⟩:=js (λn=>n==k) (w.trans r.len.1) D;have ek:q=k:=by simpa using g3
   subst ek;have ep:p=(q,g):=by
    have:(ns.zip Y)[j]?=Z (q,g):=by rw[Ya];exact⟨M,E⟩
    rw[this]at C;exact(Zg C).symm
   subst ep;obtain⟨u,Fi,S,P,h⟩:=r.get j E;refine l ?_;have N:=rL (G:=G) (c:=c+1) J w D M S;rw[F.nm c]at N;refine⟨a,_,dx,_,u,rfl,hA,F.cl c,F.no c,N,?_⟩;have fp:=((f1.sub (YY _ _)).sub (cz P)).up h;unfold VS.sub at e2;rw[e2]at fp;have et:g=t:=Z5 Prod.snd e2;rw[et]at h;exact kq u H' Fi sm h fp
  ·cases d
def jJ(i k:Nat)(e:Ex)(U:VS.Env):Option Out:=(e U).bind λv=>match U[i]? with
 |some (some (.ow (.obj (c+1) (q :: fs))))=>(fit v).bind λt=>if fs.length<900/\(fs.all λp=>!(p.1==k))=B then Z (.nx (U.set i (Z (.ow (.obj (c+1) (q :: (fs++[(k,t)]))))))) else J
 |_=>J
theorem rj{k:Nat}{v:V}(J:∀k l:Nat,g k=g l->k=l):∀{ks:Us}{b:List V}{d:Ul},ks.length=b.length->ks.length=d.length->((ks.zip d).all λp=>!(p.1==k))=B->i6 (g k) v ((ks.map g).zip b)=((ks++[k]).map g).zip (b++[v])
 |[],[],_,_,_,_=>rfl
 |[],_ :: _,_,h,_,_=>by simp at h
 |_ :: _,[],_,h,_,_=>by simp at h
 |_ :: _,_ :: _,[],_,h,_=>by simp at h
 |s :: ks,q :: b,r :: d,n,m,j=>by
  rw[ZM,W4,YI]at j;rw[Zo,ZM,i6,Zq (λz=>by
   have:=J _ _ z;subst this;simp at j),rj J (by simpa using n) (by simpa using m) j.2]
  rfl
def lD{X:Cx}{pos:Pos}(i k:Nat)(J:jF G)(F:Jv G X.K k f)(he:PV G X e ce)(hN:{`q8,X.N[i]?=Z x})(hv:KG X.env.scope x:=by exact .inl Y)(hd:{`q8,K3 x})(A:{`q8,K4 x})(hs:{`q8,swapsWith e (Z (.Attribute (.Name x p1) f pos')) pos.line X.env=pure L}):PSV G X (.Assign [.Attribute (.Name x p1) f pos'] e pos) (jJ i k ce) :=
 PS.weak (Dz (dk hN hv hd A) he hs) λD O H hq=>by
  obtain⟨R,U,out,s,e,kq⟩:=hq;obtain⟨⟨mv,h⟩,ev,e⟩:=Zz.mp e;split at e
  ·rename_i c q0 fs u;obtain⟨t,et,e⟩:=Zz.mp e;cases (mw et);split at e
   ·rename_i j;cases e;obtain⟨v,M,g2⟩:=s.rp _ _ u;refine⟨R,U,.fr,h,s,ev,λy H1 Fy p ry l=>⟨v,M,?_⟩⟩;refine L2.ai λP_ k_=>?_;obtain⟨c',a,S,b,ns,vs,n,Fs,ec,rfl,rfl,rfl,Q,C,w,hb,q⟩:=dW g2;cases ec;refine k_ ?_;have nd:=s.nd i _ u;rw[Q]at nd;have E:=Zc.mp nd;have JI:=p a _ C;have r:Il (H1 a):=by rw[JI];exact True.intro
    have Nk:=w.trans q.len.1;have na:a∉Fy:=λz=>by rw[l.2 a z]at C;cases C
    refine⟨a,_,S,_,rfl,JI,F.cl c,F.no c,(by
     have:=j.1;rw[Yu]at this ⊢;rw[Zu];lia),?_⟩
    have P:=rj (k:=k) (v:=y) (J (c+1)) w Nk j.2;rw[F.nm c]at P;rw[P];have off:=λd hb hw=>Il.xa (q.Iu d hb) (l.2 d hw);have g:Chg G H (.ref a) (R i) (.obj (c+1) ((0,.bl b) :: (ns.zip n++[(k,h)]))) (upd H1 a (.ins (G.ct (c+1)).1 S (((ns++[k]).map (G.ct (c+1)).2).zip (vs++[y])))) (a :: (Fs++[Fy]).flatten):=by
     rw[Q,show ns.zip n++[(k,h)]=(ns++[k]).zip (n++[h]) from by rw[XA Nk];rfl];refine Chg.upd p Zy r (.ins ar (by simp[w]) hb (((q.same p).off r E.1).append (.cons (ry.keep (Kept.upd (.inl r)) λd hb o ho=>by rw[aw (λz=>na (by rw[← z];exact hb))];exact ho) .nil))) ?_ ?_
     ·rw[Yt];refine Zc.mpr ⟨λm=>?_,ZC.mpr ⟨E.2,by simpa using l.1,λb hb c j z=>?_⟩⟩
      ·rcases Zj.mp m with m | m
       ·exact E.1 m
       ·exact na (by simpa using m)
      ·subst z;exact off b hb (by simpa using j)
     ·intro d hb;rcases Zh.mp hb with rfl | hb
      ·exact .inl Zy
      ·rw[Yt]at hb;rcases Zj.mp hb with hb | hb
       ·exact .inl (Zw _ hb)
       ·exact .inr (l.2 d (by simpa using hb))
    obtain⟨z1,z2⟩:=s.mut u M g;exact kq _ O _ z1 z2
   ·cases e
  ·cases e
end
noncomputable abbrev rY:=List (Nat×T)
noncomputable def Ln(a:KM):Me:=λk=>if k=0 then Z (.ref a) else J
abbrev Mt:=rY->Ul->Option (rY×T)
noncomputable def JC:List Bool->Xc->W6
 |b :: bs,F :: a=>(if b then F else [])++JC bs a
 |_,_=>[]
noncomputable def Mo:List Bool->Xc->W6
 |b :: bs,F :: a=>(if b then [] else F)++Mo bs a
 |_,_=>[]
theorem gg:∀{f:List Bool}{e:Xc}{j:Nat}{F:W6},f[j]?=Z B->e[j]?=Z F->F.Sublist (JC f e)
 |[],_,_,_,h,_=>by simp at h
 |_ :: _,[],_,_,_,h=>by simp at h
 |b :: bs,g :: e,0,F,d,a=>by
  simp at d a;subst d a;rw[JC,Zr Y];exact List.sublist_append_left _ _
 |b :: bs,g :: e,j+1,F,d,a=>by
  rw[JC];exact(gg (by simpa using d) (by simpa using a)).trans (Xe _ _)
theorem qd:∀{f:List Bool}{e:Xc}{j:Nat}{F:W6},f[j]?=Z L->e[j]?=Z F->F.Sublist (Mo f e)
 |[],_,_,_,h,_=>by simp at h
 |_ :: _,[],_,_,_,h=>by simp at h
 |b :: bs,g :: e,0,F,d,a=>by
  simp at d a;subst d a;rw[Mo];exact List.sublist_append_left _ _
 |b :: bs,g :: e,j+1,F,d,a=>by
  rw[Mo];exact(qd (by simpa using d) (by simpa using a)).trans (Xe _ _)
theorem vJ:∀{o:List Bool}{d:Xc}{i j:Nat}{F m:W6},(JC o d).Nodup->o[i]?=Z B->o[j]?=Z B->d[i]?=Z F->d[j]?=Z m->i≠j->∀a∈F,a∉m
 |[],_,_,_,_,_,_,h,_,_,_,_=>by simp at h
 |_ :: _,[],_,_,_,_,_,_,_,h,_,_=>by simp at h
 |b :: bs,r :: d,0,0,F,m,_,_,_,_,_,n=>absurd Y n
 |b :: bs,r :: d,0,j+1,F,m,nd,l,g,f,e,n=>λa p q=>by
  simp at l f;subst l f;rw[JC,Zr Y,ZC]at nd;exact nd.2.2 a p a ((gg (by simpa using g) (by simpa using e)).subset q) Y
 |b :: bs,r :: d,i+1,0,F,m,nd,l,g,f,e,n=>λa p q=>by
  simp at g e;subst g e;rw[JC,Zr Y,ZC]at nd;exact nd.2.2 a q a ((gg (by simpa using l) (by simpa using f)).subset p) Y
 |b :: bs,r :: d,i+1,j+1,F,m,nd,l,g,f,e,n=>by
  rw[JC,ZC]at nd;exact vJ nd.2.1 (by simpa using l) (by simpa using g) (by simpa using f) (by simpa using e) (by lia)
theorem vp:∀{e:List Bool}{d:Xc}{a:KM},a∈JC e d->∃(j:Nat)(F:W6),e[j]?=Z B/\d[j]?=Z F/\a∈F
 |[],_,_,h=>by simp[JC]at h
 |_ :: _,[],_,h=>by simp[JC]at h
 |b :: bs,m :: d,a,h=>by
  rw[JC]at h;rcases Zj.mp h with h | h
  ·cases b with
   |true=>exact⟨0,m,rfl,rfl,h⟩
   |false=>simp at h
  ·refine L2.ai λn f=>?_;obtain⟨j,F,l,i,g⟩:=vp h;refine f ?_;exact⟨j+1,F,by simpa using l,by simpa using i,g⟩
noncomputable def nG(b:Bool)(t:T):Up:=Z (if b then .ow t else .pu t)
def yZ(c:Nat)(U:VS.Env):Option rY:=match (U[(0:Nat)]?:Option (Up)) with
 |some (some (.ow (.obj a ((0,.bl true) :: fs))))=>if a=c+1 then Z fs else J
 |_=>J
def Ka(c e g:Nat)(f:List Bool)(a:Sx):Mt:=λfs b=>if b.length+1=e/\f.length=b.length then
 (a ((Z (.ow (.obj (c+1) ((0,.bl B) :: fs))) :: List.zipWith nG f b)++List.replicate (g-e) J)).bind λo=>match o with
  |.rt v U=>(yZ c U).bind λd=>if Iw v.2 then Z (d,v.2) else J
  |.nx U=>(yZ c U).map λd=>(d,.non)
  |_=>J else J
def Mm(G:Gx)(c:Nat)(d:List Bool)(g:Mt):Sp:=λl H Q _=>∃(a:KM)(i:List V)(fs:rY)(f:Ul)(F:W6)(e:Xc)(j:rY)(x:T),l=.ref a :: i/\Rp (G.at (Ln a)) H (.ref a) (.obj (c+1) ((0,.bl B) :: fs)) F ∧
 RpL (G.at (Ln a)) H i f e/\d.length=f.length/\(F++JC d e).Nodup/\(∀b∈F++JC d e,b∉Mo d e)/\g fs f=Z (j,x) ∧
 ∀u h m,Chg (G.at (Ln a)) H (.ref a) (F++JC d e) (.obj (c+1) ((0,.bl B) :: j)) h m->Rp (G.at (Ln a)) h u x []->Q u h
section
variable{H:Hp}
def zm{f:List Bool}(r0:Rp G H v t F)(r:RpL G H E d l)(hm:f.length=d.length)(x:(F++JC f l).Nodup)(S:∀b∈F++JC f l,b∉Mo f l)(n U:Nat)(hn:U=E.length+1) :
  SR G (λi=>(F :: l).getD i []) ((Z (.ow t) :: List.zipWith nG f d)++List.replicate (n-(d.length+1)) J) ((v :: E).map Z++List.replicate (n-U) J) H ∧
  ∀a,bX (λi=>(F :: l).getD i []) ((Z (.ow t) :: List.zipWith nG f d)++List.replicate (n-(d.length+1)) J) a->a∈F++JC f l:=by
 subst hn;have hl:=r.len;have N:(List.zipWith nG f d).length=d.length:=by rw[List.length_zipWith,hm,Wg]
 have back:∀{i:Nat}{c:Cell},((Z (Cell.ow t) :: List.zipWith nG f d)++List.replicate (n-(d.length+1)) J)[i]?=Z (Z c)->(i=0/\c=.ow t)\/∃(j:Nat)(b:Bool)(u:T),i=j+1/\f[j]?=Z b/\d[j]?=Z u/\c=(if b then .ow u else .pu u):=λ{i c} h=>by
  cases i with
  |zero=>exact .inl ⟨rfl,(Zg (Zg h)).symm⟩
  |succ j =>
   rw[XQ,Wi]at h;by_cases M:j<d.length
   ·rw[Yw (by rw[N];exact M),List.getElem?_zipWith]at h;have e1:=Zk (by rw[hm];exact M);have e2:=Zk M;rw[e1,e2]at h;exact .inr ⟨j,_,_,rfl,e1,e2,(Zg (Zg h)).symm⟩
   ·rw[Yy (by rw[N];exact ZJ M),Xr]at h;split at h<;>cases h
 have fp:∀{j:Nat}{u:T},d[j]?=Z u->∃w s,E[j]?=Z w/\l[j]?=Z s/\Rp G H w u s:=λ{j u} h=>r.get j h;have ow:∀{i:Nat}{u:T},((Z (Cell.ow t) :: List.zipWith nG f d)++List.replicate (n-(d.length+1)) J)[i]?=Z (Z (.ow u))->i=0\/∃j:Nat,i=j+1/\f[j]?=Z B/\d[j]?=Z u:=λ{i u} h=>by
  rcases back h with⟨p,g⟩ | ⟨j,b,R,p,g,o,y⟩
  ·exact .inl p
  ·cases b with
   |true=>cases y;exact .inr ⟨j,p,g,o⟩
   |false=>cases y
 rw[ZC]at x;refine⟨⟨?_,λi c h=>?_,λi u h=>?_,λi j u c p g n=>?_⟩,λa ⟨i,u,p,g⟩=>?_⟩
 ·simp[N];lia
 ·rcases back h with⟨rfl,rfl⟩ | ⟨j,b,u,rfl,g,o,y⟩
  ·exact⟨v,rfl,r0⟩
  ·obtain⟨w,s,A,e,C⟩:=fp o;refine⟨w,?_,?_⟩
   ·rw[Zo,XQ,Wi,Yw (by rw[Zu];exact(ZZ.mp A).1),ZL,A];rfl
   ·rw[XS,Zp,e,y];cases b<;>exact C
 ·rcases ow h with rfl | ⟨j,rfl,g,o⟩
  ·exact x.1
  ·obtain⟨w,s,A,e,C⟩:=fp o;rw[XS,Zp,e];exact x.2.1.sublist (gg g e)
 ·rcases ow p with rfl | ⟨X,rfl,Q,a3⟩
  ·rcases back g with⟨rfl,_⟩ | ⟨j',b,R,rfl,D,P,_⟩
   ·exact absurd Y n
   ·obtain⟨w,s,A,e,C⟩:=fp P;intro a m;rw[XS,Zp,e];intro q;cases b with
    |true=>exact x.2.2 a m a ((gg D e).subset q) Y
    |false=>exact S a (Z8 _ m) ((qd D e).subset q)
  ·obtain⟨w,Fi,A,e,C⟩:=fp a3;have ei:(F :: l).getD (X+1) []=Fi:=by rw[XS,Zp,e];rfl
   show ∀a∈(F :: l).getD (X+1) [],_;rw[ei];rcases back g with⟨rfl,_⟩ | ⟨j',b,R,rfl,D,P,_⟩
   ·exact λa m q=>x.2.2 a q a ((gg Q e).subset m) Y
   ·obtain⟨w',s,k1,O,k3⟩:=fp P;intro a m;rw[XS,Zp,O];intro q;cases b with
    |true=>exact vJ x.2.1 Q D e O (λz=>n (by rw[z])) a m q
    |false=>exact S a (ZQ _ ((gg Q e).subset m)) ((qd D O).subset q)
 ·rcases ow p with rfl | ⟨j,rfl,o,y⟩
  ·exact Z8 _ g
  ·obtain⟨w,s,A,e,C⟩:=fp y;have Mu:a∈(F :: l).getD (j+1) []:=g;rw[XS,Zp,e]at Mu;exact ZQ _ ((gg o e).subset Mu)
def zS(h:yZ c U=Z a):U[0]?=Z (Z (.ow (.obj (c+1) ((0,.bl B) :: a)))):=by
 unfold yZ at h;split at h
 ·rename_i d f e;split at h
  ·rename_i b;cases h;rw[e,b]
  ·cases h
 ·cases h
end
section
variable{K:Ww}
def Gv{G:Gx}{X:List Str}(ok:∀{sp:Sp},(∀j H Q E,sp j H Q E->j.length=X.length)->(∀(p:On)(A:SB)(outer:List PySem.Env)(s:IR)(H:Hp)(j:List V)(Q:VK)(E:XK),xh k (A.deeper (envOfC d (ah x) s.heap.objs.size f p))->sp j H Q E →
   ∃t,Kc (jP Jb P w K mg base N d (ah x) f p A outer s H E).Lz (aY x) t/\t { nx:=λ_ g=>Q .non g,rt:=Q } (L2.start N j) H)->FnOk P w K mg base Jb (k+1) f fd X sp)(hp:X.length=np)(hn:N.length=O)(hb:∀(a:KM)(p:On)(A:SB)(outer:List PySem.Env)(s:IR)(H:Hp)(E:XK),xh k (A.deeper (envOfC d (ah x) s.heap.objs.size f p))->jh (G.at (Ln a)) (jP Jb P w K mg base N d (ah x) f p A outer s H E).Lz (aY x) l) :
  FnOk P w K mg base Jb (k+1) f fd X (Mm G c mv (Ka c np O mv l)):=by
 refine ok (λj H Q E h=>?_) λp A outer s H j Q E hr h=>?_
 ·refine L2.ai λP_ n=>?_;obtain⟨a,M,fs,ts,F,Fs,Kf,y,rfl,r0,r,hm,nd,sp,e,q⟩:=h;refine n ?_;unfold Ka at e;split at e
  ·rename_i hl;rw[Zb,r.len.1,hl.1,hp]
  ·cases e
 ·refine L2.ai λP_ n=>?_;obtain⟨a,M,fs,ts,F,Fs,Kf,y,rfl,r0,r,hm,nd,sp,e,q⟩:=h;refine n ?_;refine⟨_,hb a p A outer s H E hr,?_⟩;unfold Ka at e;split at e
  ·rename_i hl;obtain⟨o,e1,e2⟩:=Zz.mp e;obtain⟨s0,Ni⟩:=zm r0 r hm nd sp O (M.length+1) Y;rw[hl.1]at s0 Ni;have e3:L2.start N (V.ref a :: M)=(V.ref a :: M).map Z++List.replicate (O-(M.length+1)) J:=by
    unfold L2.start;rw[hn];rfl
   rw[e3];have fin:∀{m:VS.Env}{D:Iq}{O':L2.St}{g:Hp},yZ c m=Z Kf->SR (G.at (Ln a)) D m O' g->Jc (λi=>(F :: Fs).getD i []) ((Z (.ow (.obj (c+1) ((0,.bl B) :: fs))) :: List.zipWith nG mv ts)++List.replicate (O-np) J) H D m g →
     Chg (G.at (Ln a)) H (.ref a) (F++JC mv Fs) (.obj (c+1) ((0,.bl B) :: Kf)) g (D 0):=λ{m D O' g} hme C fr=>by
    have h0:=zS hme;refine L2.ai λP_ n=>?_;obtain⟨v',g1,g2⟩:=C.rp 0 _ h0;have Py:=g2;obtain⟨c',a',dx,b,ns,j,Ls,KU,ec,rfl,eb,_,eF,hA,hl',U,ra⟩:=dW Py;have Lf:b=B:=by cases eb;rfl
    cases (U Lf);refine n ?_;refine⟨fr.kept,λS o' U ho=>(fr.keep S o' ho λz=>U (Ni S z)).1,fr.Iu,Py,C.nd 0 _ h0,λS U=>?_⟩;rcases fr.ow S ⟨0,_,h0,U⟩ with z | z
    ·exact .inl (Ni S z)
    ·exact .inr z
   refine⟨_,_,o,s0,e1,?_⟩;cases o with
   |nx m =>
    refine L2.ai λP_ n=>?_;obtain⟨fs2,e4,R⟩:=Zt.mp e2;cases R;refine n ?_;intro D O' g C fr;exact q .non g _ (fin e4 C fr) .non
   |rt v m =>
    obtain⟨fs2,e4,R⟩:=Zz.mp e2;split at R
    ·rename_i hi;cases R;intro u g F' D O' C fr r' rf;have:=r'.Iw hi;subst this;exact q u g _ (fin e4 C fr) r'
    ·cases R
   |bk m=>cases e2
   |ct m=>cases e2
  ·cases e
def fnM{G:Gx}(F:Ir K x d g f n)(S:p0 N h (ah g))(p:h.length=i)(q:N.length=j)(r:∀(a:KM)(o:On)(A:SB)(outer:List PySem.Env)(s:IR)(H:Hp)(E:XK),xh k (A.deeper (envOfC d (ah g) s.heap.objs.size f o))->jh (G.at (Ln a)) (jP Jb P w K mg base N d (ah g) f o A outer s H E).Lz (aY g) e) :
  FnOk P w K mg base Jb (k+1) f n h (Mm G c m (Ka c i j m e)):=Gv (λl b=>F.ok S l b) p q r
structure My(K:Ww)(x qual:Str)(st:Stmt)(f:KM)(fd:P3):Prop where
 ex:∃(T:KM)(oc:On)(od:Option KM)(kV doc pm:On)(an:Option KM)(Ij ct:On)(MD:Array (Ut))(o:Obj)(n:Nat),
  fd=PySem.W.fnOf x qual (cK st) (aY st) (ah st) (.ref T) kV doc pm an Ij ct/\K.lookup f=some ⟨oc,od,.func fd,MD⟩/\PySem.W.codeIn K Ij qual=true/\K.lookup T=some o/\o.data=.seq #[.none] n
 kp:PySem.W.keepIn K (.ref f)=true
def My.ok(F:My K x a d f m)(S:p0 N i (ah d))(j:∀b H Q E,g b H Q E->b.length=i.length)(v:∀(e:On)(A:SB)(outer:List PySem.Env)(s:IR)(H:Hp)(b:List V)(Q:VK)(E:XK),xh k (A.deeper (envOfC a (ah d) s.heap.objs.size f e))->g b H Q E →
   ∃t,Kc (jP Jb P w K mg base N a (ah d) f e A outer s H E).Lz (aY d) t/\t { nx:=λ_ y=>Q .non y,rt:=Q } (L2.start N b) H):FnOk P w K mg base Jb (k+1) f m i g:=by
 refine L2.ai λC p=>?_;obtain⟨T,oc,z,kV,doc,pm,an,e,ct,D,o,n,rfl,lk,l,_⟩:=F.ex;refine p ?_;refine C7 lk l S j λA outer s H b Q E r u=>?_;obtain⟨t,h,q⟩:=v e A outer s H b Q E r u;exact⟨t,h.Lz,q⟩
def My.binds{e:List Str}(F:My K x a d f j)(h:∀(s:IR)(T:KM)(kV doc pm:On)(an:Option KM)(g ct:On)(o:Obj)(n:Nat)(b:W7),K.In s.heap->K.lookup T=Z o->o.data=.seq #[.none] n->b.length=e.length->BindsTo s (PySem.W.fnOf x a (cK d) (aY d) (ah d) (.ref T) kV doc pm an g ct) ⟨b,[]⟩ (e.zip b)):Binds K j e []:=by
 obtain⟨T,oc,q,kV,doc,pm,an,g,ct,r,o,n,rfl,lk,p,m,l⟩:=F.ex;intro s b X i;rw[ZV]at i ⊢;exact h s T kV doc pm an g ct o n b X m l i
end
def argsOk:List Bool->Uo->Bool
 |[],[]=>B
 |b :: bs,v :: a=>(if b then v.1 == .fr else Iw v.2)&&argsOk bs a
 |_,_=>L
def jI(c:Nat)(e:List Bool)(g:Mt)(a:Uo):T->Option (T×Val)
 |.obj d ((0,.bl b) :: fs)=>if d=c+1/\eP fs=B/\argsOk e a=B/\dZ (trees a)=B then (g fs (trees a)).bind λz=>if eP z.1=B/\Iw z.2=B then Z (.obj d ((0,.bl b) :: z.1),(.fr,z.2)) else J else J
 |_=>J
def bG(i:Nat)(a:List Lj)(c:Nat)(d:List Bool)(g:Mt)(e:IE)(U:VS.Env):Option (Val×VS.Env):=match (U[i]?:Option (Up)) with
 |some (some (.ow t))=>(keys a U).bind λks=>(e U).bind λb=>(pm (jI c d g b) ks t).map λz=>(z.2,U.set i (Z (.ow z.1)))
 |_=>J
def tX(G:Gx)(x:Xx):TE:=λO H Q=>∃R U v b,SR G R U O H/\x U=Z (v,b)/\Iw v.2=B/\∀u a d,SR G d b O a->Jc R U H d b a->Rp G a u v.2 []->Q u a
def PX(G:Gx)(X:Cx)(e:Expr)(x:Xx):Prop:=PE X e (tX G x)
theorem jX:∀{d:List Bool}{a:Uo},argsOk d a=B->d.length=a.length
 |[],[],_=>rfl
 |[],_ :: _,h=>nomatch h
 |_ :: _,[],h=>nomatch h
 |b :: bs,v :: e,h=>by
  rw[Zb,Zb,jX (ZS.mp h).2]
theorem mZ:∀{e:List Bool}{d:Uo}{Fs:Xc},argsOk e d=B->(JC e Fs).Sublist (JJ d Fs)
 |[],[],_,_=>by simp[JC]
 |[],_ :: _,_,h=>nomatch h
 |_ :: _,[],_,h=>nomatch h
 |b :: bs,v :: f,[],h=>by simp[JC]
 |b :: bs,(m,t) :: f,F :: Fs,h=>by
  have h:=ZS.mp h;have a:=mZ (Fs:=Fs) h.2;rw[JC];cases b with
  |true =>
   have:m=.fr:=by simpa using h.1
   subst this;exact List.Sublist.append (We _) a
  |false =>
   rw[Zq Zf,YA];cases m with
   |fr=>exact a.trans (Xe _ _)
   |pu=>exact a
   |bo=>exact a
theorem qL:∀{d:List Bool}{a:Uo}{f:List V}{e:Xc},argsOk d a=B->RpL G H f (trees a) e->Mo d e=[]
 |[],[],_,_,_,_=>by simp[Mo]
 |[],_ :: _,_,_,h,_=>nomatch h
 |_ :: _,[],_,_,h,_=>nomatch h
 |b :: bs,(m,t) :: i,_,_,h,r=>by
  have h:=ZS.mp h;cases r with
  |cons g q =>
   rw[Mo,qL h.2 q,ZV];cases b with
   |true=>rfl
   |false=>exact g.Iw (by simpa using h.1)
def vF(h:argsOk e d=B)(f:NW R U H d m):∀a∈JC e m,H a=J:=λa o=>by
 obtain⟨j,F,g,q,p⟩:=vp o;have key:∀{e:List Bool}{d:Uo}{j:Nat},argsOk e d=B->e[j]?=Z B->∃v,d[j]?=Z v/\v.1=.fr:=by
  intro e
  induction e with
  |nil=>intro d j _ h;simp at h
  |cons b bs n =>
   intro d j h g;cases d with
   |nil=>exact nomatch h
   |cons v r =>
    have h:=ZS.mp h;cases j with
    |zero =>
     simp at g;subst g;exact⟨v,rfl,by simpa using h.1⟩
    |succ j =>
     obtain⟨w,l,i⟩:=n h.2 (by simpa using g);exact⟨w,by simpa using l,i⟩
 obtain⟨v,l,i⟩:=key h g;have:=f.each j v F l q;rw[i]at this;exact this.2 a p
section
def sJ(J:jF G)(hn:∀k,(G.ct (c+1)).2 k≠m)(ht:∀R U q O H (Rq:List V->Hp->Prop),SR G R U O H->cs U=Z q->(∀j p Fs,aI H p->RpL G p j (trees q) Fs->NW R U H q Fs->Rq j p)->t O H Rq)(h:tX G (bG i way c mv g cs) O H Q):vA (G.ct (c+1)).1 m (Mm G c mv g) [] E (RA G i way) t O H Q:=by
 refine L2.ai λP_ l=>?_;obtain⟨R,U,v,U',s,e,him,kq⟩:=h;refine l ?_;unfold bG at e;split at e
 ·rename_i t0 M;refine L2.ai λP_ l=>?_;obtain⟨ks,ek,e3⟩:=Zz.mp e;obtain⟨q,el,e4⟩:=Zz.mp e3;obtain⟨⟨t',x2⟩,e5,e6⟩:=Zt.mp e4;cases e6;obtain⟨v0,h1,h2⟩:=s.rp _ _ M;obtain⟨w,x,F1,x3,w1,w2,w3,r,w5⟩:=nW ks J h2 (s.nd i t0 M) e5;refine l ?_;unfold jI at r;split at r
  ·rename_i c1 b fs;split at r
   ·rename_i hc;obtain⟨rfl,MH,N,QP⟩:=hc;obtain⟨⟨Kf,y⟩,eg,Y⟩:=Zz.mp r;split at Y
    ·rename_i M7;refine L2.ai λP_ l=>?_;cases Y;obtain⟨c',a,dx,b',ns,j,ts,Fs,ec,rfl,eb,rfl,eF,hA,hl,hb,ra⟩:=dW w2;cases ec;cases eb;refine l ?_;have Nk:=hl.trans ra.len.1;refine⟨R,U,t0,ks,v0,.ref a,s,M,h1,ek,w1,λH1 F=>⟨a,dx,_,rfl,F a _ hA,?_,?_⟩⟩
     ·have key:∀(ns:Us)(j:List V),((ns.map (G.ct (c+1)).2).zip j).lookup m=none:=by
       intro ns
       induction ns with
       |nil=>intro j;simp
       |cons n ns ih =>
        intro j;cases j with
        |nil=>simp
        |cons v j =>
         rw[Zo,ZM,YV];have:(m==(G.ct (c+1)).2 n)=L:=by
          rw[Z0];exact λz=>hn n z.symm
         rw[this];exact ih j
      exact key ns j
     ·refine ht R U q O H1 _ (s.same F) el λus H2 Gs IW Pj OZ=>?_;have C:=F.trans IW;have OE:=vF N (⟨λn v' P a1 a2=>(OZ.each n v' P a1 a2).back F,OZ.nd⟩);refine⟨a,us,ns.zip ts,trees q,F1,Gs,Kf,y,by rw[ZV],?_,Pj.at (Ln a) QP,?_,?_,?_,eg,λu p P A ru=>?_⟩
      ·rw[eF];exact .ins (C a _ hA) hl (λ_=>rfl) ((ra.same C).at (Ln a) (d8 Nk MH))
      ·rw[jX N];simp[trees]
      ·refine ZC.mpr ⟨w3,OZ.nd.sublist (mZ N),λd D b2 Ms z=>?_⟩;subst z;exact Il.xa (w2.Iu d D) (OE d Ms)
      ·rw[qL N Pj];exact λd _ z=>nomatch z
      ·have back:Rp G p (.ref a) (.obj (c+1) ((0,.bl b) :: Kf)) P:=by
        refine L2.ai λP_ l=>?_;obtain⟨c2,a2,dx2,b2,SO,Nf,So,PH,O5,QZ,UE,UD,Ra,QT,Jk,Ms,K8⟩:=dW A.rp;cases O5;cases QZ;subst UD;refine l ?_;rw[Ra];exact .ins QT Jk hb (K8.at G.me (d8 (Jk.trans K8.len.1) M7.1))
       obtain⟨F2,g2⟩:=w5 p P (⟨(Kept.of C).trans A.kept,λd o1 D S=>A.keep d o1 (λz=>(Zj.mp z).elim D λz=>by rw[OE d z]at S;cases S) (C d o1 S),λd h=>A.Iu d λz=>h (C.free z),back,A.nd,λd D=>by
        rcases A.sub d D with z | z
        ·rcases Zj.mp z with z | z
         ·exact .inl z
         ·exact .inr (OE d z)
        ·exact .inr (C.free z)⟩)
       obtain⟨z1,z2⟩:=s.mut M h1 g2;exact kq u p _ z1 z2 (ru.at G.me (ot y M7.2))
    ·cases Y
   ·cases r
  ·cases r
 ·cases e
def AN(J:jF G)(q:∀k,(G.ct (c+1)).2 k≠m)(p:LV G X o i way)(u:JT X.K (G.ct (c+1)).1)(r:Meth X.K (G.ct (c+1)).1 m f)(F:FnOk X.prog X.w X.K X.mg X.base Jb k f fd ps (Mm G c mv g))(n:xh k' X.A)(t:k<=k')(v:Binds X.K fd ps [])(x:Jj G X (e :: es) cs)(y:K1 e es X)(a:K2 pos es X)(l:eval (.Call (.Attribute o m apos) (e :: es) [] pos) X.env=(do
   let b ← eval o X.env
   standAt apos.atName
   let (f,first) ← holding [b] (getMethod b m j)
   callWith pos f first (backTo pos (Pv (e :: es) X.env)) (backToKw pos (SL [] X.env)))):PX G X (.Call (.Attribute o m apos) (e :: es) [] pos) (bG i way c mv g cs) :=
 PE.weak (pO p u r F (n.mono t) v .nil lY x y a l) λO H Q h=>sJ J q (λR U d O H Rq s e k=>⟨R,U,d,s,e,k⟩) h
def zG(J:jF G)(n:∀k,(G.ct (c+1)).2 k≠m)(l:LV G X o i way)(r:JT X.K (G.ct (c+1)).1)(p:Meth X.K (G.ct (c+1)).1 m f)(F:FnOk X.prog X.w X.K X.mg X.base Jb k f fd ps (Mm G c mv g))(j:xh k' X.A)(q:k<=k')(t:Binds X.K fd ps [])(d:eval (.Call (.Attribute o m apos) [] [] pos) X.env=(do
   let a ← eval o X.env
   standAt apos.atName
   let (f,first) ← holding [a] (getMethod a m b)
   callWith pos f first (backTo pos (Pv [] X.env)) (backToKw pos (SL [] X.env)))):PX G X (.Call (.Attribute o m apos) [] [] pos) (bG i way c mv g aj) :=
 PE.weak (rE l r p F (j.mono q) t .nil lY d) λO H Q h=>sJ J n (λR U u O H Rq s e k=>by
  cases (e);exact k [] H [] (aI.refl _) .nil ⟨λi v F h=>by simp at h,by simp[JJ]⟩) h
def RD(x:Xx):Sx:=λU=>(x U).bind λz=>if Iw z.1.2 then Z (.nx z.2) else J
def lV(j:Nat)(x:Xx):Sx:=λU=>(x U).bind λz=>if Iw z.1.2=B/\j<z.2.length then Z (.nx (z.2.set j (Z (.pu z.1.2)))) else J
def sR(x:Xx):Sx:=λU=>(x U).bind λz=>if Iw z.1.2 then Z (.rt (.fr,z.1.2) z.2) else J
def rC{pos:Pos}(h:PX G X e x)(n:swapsWith e J pos.line X.env=pure L):PSV G X (.Expr e pos) (RD x) :=
 PS.weak (fY h n) λD O H b=>by
  obtain⟨R,U,out,s,e,k⟩:=b;obtain⟨⟨v,j⟩,e1,e2⟩:=Zz.mp e;split at e2
  ·rename_i d;cases e2;exact⟨R,U,v,j,s,e1,d,λu p l a f r=>k l O p a f⟩
  ·cases e2
def Bz(h:PX G X e x):PSV G X (.Return (Z e) pos) (sR x) :=
 PS.weak (p5 h) λD O H d=>by
  obtain⟨R,U,out,s,e,k⟩:=d;obtain⟨⟨v,l⟩,e1,e2⟩:=Zz.mp e;split at e2
  ·rename_i j;cases e2;exact⟨R,U,v,l,s,e1,j,λu p n b f r=>k u p [] n O b f r ⟨Xy,λa h=>nomatch h⟩⟩
  ·cases e2
def p9{pos:Pos}(h:PX G X e x)(C:X.N.Nodup)(l:X.N[j]?=Z d)(w:Loc X.env.scope d)(y:swapsWith e (Z (.Name d b)) pos.line X.env=pure L)(A:X.fn d=B\/X.env.scope.names.lookup d=Z .local) :
  PSV G X (.Assign [.Name d b] e pos) (lV j x) :=
 PS.weak (ub C l w h y A) λD O H z=>by
  obtain⟨R,U,out,s,e,k⟩:=z;obtain⟨⟨v,E⟩,e1,e2⟩:=Zz.mp e;split at e2
  ·rename_i l;cases e2;refine⟨R,U,v,E,s,e1,l.1,λu n F p f r=>?_⟩;obtain⟨t,q⟩:=p.val (m:=.fr) l.2 (aI.refl n) r ⟨Xy,λa h=>nomatch h⟩ (.inl ⟨rfl,by decide⟩);exact k _ _ n t (f.trans q)
  ·cases e2
def nA(i:Nat)(a:List Lj)(k:Ex)(x:Xx):Sx:=λU=>(x U).bind λz=>if Iw z.1.2 then fA i a k (λ_=>Z (.fr,z.1.2)) z.2 else J
def yT{mv:Md}(J:jF G)(s:SR G R U O H)(S:U[i]?=Z (Z (.ow t)))(ek:keys way U=Z P)(Mv:ck U=Z (mk,b))(e5:pm (kC (mk,b) (mv,p)) P t=Z (t',y'))(Jr:aI H H1)(rv:Rp G H1 xv p Fv)(Y:Fp R U H mv Fv)(k:∀R' H',SR G R' (U.set i (Z (.ow t'))) O H'->Jc R U H R' (U.set i (Z (.ow t'))) H'->D O H'):GH (RA G i way) (tE G ck) CO xv O H1 D:=by
   refine L2.ai λP_ Q=>?_;obtain⟨v,g1,g2⟩:=s.rp _ _ S;obtain⟨w,x,F1,x3,w1,w2,w3,C,w5⟩:=nW P J g2 (s.nd i t S) e5;refine Q ?_;refine⟨R,U,t,P,v,w,s.same Jr,S,g1,ek,w1.same Jr,λH2 IW=>⟨R,U,mk,b,(s.same Jr).same IW,Mv,λkv H3 Fk K7 rk fk=>?_⟩⟩;have q:=(Jr.trans IW).trans K7;have Ng:=(rv.same IW).same K7;have fin:∀M A,Chg G H w F1 x3 M A->D O M:=λM A g=>by
    obtain⟨F2,Py⟩:=w5 M A g;obtain⟨z1,z2⟩:=s.mut S g1 Py;exact k _ M z1 z2
   refine L2.ai λP_ Q=>?_;cases x with
   |lst l =>
    cases b with
    |int n =>
     obtain⟨tt,et,e7⟩:=Zz.mp (C);obtain⟨j,ej,e8⟩:=Zt.mp e7;cases e8;cases (mw et);obtain⟨a,vs,Fs,rfl,rfl,F,u⟩:=w2.lst_inv;have E:=q a _ F;have nd:=Zc.mp w3;have na:a∉Fv:=λz=>by rw[Y.2 a z]at F;cases F
     have y:Il (H3 a):=by rw[E];exact True.intro
     have off:=λd hb hv=>Il.xa (u.Iu d hb) (Y.2 d hv);refine Q ?_;refine .inl ⟨a,vs,n,j,rfl,rk.int_inv,E,by rw[← uj,u.len.1];exact ej,fin _ (a :: (Fs.set j Fv).flatten) ?_⟩;refine Chg.upd q Zy y (.lst ar ((((u.same q).off y nd.1)).putAt j ((λr hn=>r.keep (Kept.upd (.inl y)) λd hb o' LH=>by rw[aw (λz=>hn (by rw[← z];exact hb))];exact LH) Ng na))) ?_ ?_
     ·rw[Zc];refine⟨λh=>?_,dS nd.2 Y.1 λi' A _ hi d hb=>off d (cM hi hb)⟩;rcases cq h with z | ⟨i',A,_,h1,h2⟩
      ·exact na z
      ·exact nd.1 (cM h1 h2)
     ·intro d hb;rcases Zh.mp hb with rfl | hb
      ·exact .inl Zy
      ·rcases cq hb with z | ⟨i',A,_,h1,h2⟩
       ·exact .inr (Y.2 d z)
       ·exact .inl (Zw _ (cM h1 h2))
    |_=>cases C
   |dct kd l =>
    cases kd with
    |zero =>
     have hc:(iw b=B/\Iw p=B/\l.length<d4)/\x3=.dct 0 (dput l b p):=by
      have Ov:(if iw b/\Iw p/\l.length<d4 then Z (T.dct 0 (dput l b p),()) else none)=Z (x3,y'):=C;split at Ov
      ·rename_i hc;cases Ov;exact⟨hc,rfl⟩
      ·cases Ov
     obtain⟨⟨c1,c2,c3⟩,rfl⟩:=hc;have eF:=Ng.Iw c2;subst eF;obtain⟨a,ns,vs,ts,Fs,rfl,rfl,F,hl,rfl,u⟩:=cW w2;obtain⟨kk,rfl,Nb⟩:=dh rk c1;subst Nb;have E:=q a _ F;have y:Il (H3 a):=by rw[E];exact True.intro
     have nd:=Zc.mp w3;obtain⟨Kt,Ll,Ls,KU,q1,q2,q3,q4,N⟩:=uE Ng hl (u.same q);refine Q ?_;refine .inr ⟨a,_,rfl,tU.k E (by
      have:((ns.map aE).zip ts).length<16777216:=c3;rw[Yu,Zu]at this;rw[Yu];have:=u.len.1;have:(KF:Nat)=16777216:=rfl;lia),fin _ (a :: KU.flatten) ?_⟩
     rw[q1,q3];refine Chg.upd q Zy y (.dct ar q2 (q4.off y λz=>nd.1 (N.subset z))) ?_ ?_
     ·exact Zc.mpr ⟨λz=>nd.1 (N.subset z),nd.2.sublist N⟩
     ·intro d hb;rcases Zh.mp hb with rfl | hb
      ·exact .inl Zy
      ·exact .inl (Zw _ (N.subset hb))
    |succ n=>cases C
   |_=>cases C
def uJ{X:Cx}{pos:Pos}(J:jF G)(E:xh w X.A)(M:LV G X o i way)(N:PV G X b l)(he:PX G X e x)(Q:∀v,assign (.Subscript o b d) X.env v=(do
   let j ← holding [v] (eval o X.env)
   let iv ← holding [v,j] (eval b X.env)
   standAt d
   holding [v,j,iv] (setItem j iv v)
   release [v,j,iv] []))(C:swapsWithSole [.Subscript o b d] e pos.line X.env=pure L)(hw:swappedStores [.Subscript o b d] e X.env=pure none)(S:(assignEach [.Subscript o b d] X.env).map (·.2)=[assign (.Subscript o b d) X.env]):PSV G X (.Assign [.Subscript o b d] e pos) (nA i way l x) :=
 PS.weak (t7 he (t8 M N (xm (kM E)) Q) C hw S) λD O H F=>by
  refine L2.ai λP_ y=>?_;obtain⟨R,U,out,s,e,k⟩:=F;obtain⟨⟨v,U'⟩,e1,e2⟩:=Zz.mp e;refine y ?_;split at e2
  ·rename_i P;refine⟨R,U,v,U',s,e1,P,λu H' R' q f r=>?_⟩;obtain⟨⟨mv,tv⟩,ev,e2⟩:=Zz.mp e2;cases ev;split at e2
   ·rename_i t z;obtain⟨ks,Y,e2⟩:=Zz.mp e2;obtain⟨⟨mk,tk⟩,Mv,e2⟩:=Zz.mp e2;obtain⟨⟨t',y'⟩,e5,e6⟩:=Zt.mp e2;cases e6;exact yT J q z Y Mv e5 (aI.refl H') r ⟨Xy,λa h=>nomatch h⟩ λR2 H2 p n=>k _ O H2 p (f.trans n)
   ·cases e2
  ·cases e2
end
end VS
end
section
namespace L2
open PySem PySem.Spec PyProof.Rows
def tV:dD X (.type "dict") (λf H Q=>∃(d:KM)(a:List (Key×V)),f=[.ref d]/\H d=Z (.dK a)/\∀l,H l=J->Q (.ref l) (upd H l (.dK a))):=by
 intro g s O H f v Q I j h;obtain⟨d,a,rfl,hd,q⟩:=h;obtain⟨u,rfl,m⟩:=j.one;cases m;obtain⟨i,r,t,rel,n⟩:=ou I.xt hd;refine PySem.kt_call_dict r n (by rw[← Wz rel];exact i) λw p sb=>?_;exact⟨.ref s.heap.objs.size,_,I.laid (λb o e=>(sb.2 b (ZR (ZI e))).trans (Za _ e)) (Zn _) (pN i (Z0.mpr (YN (ZR I.big))) rel p),rfl,q _ (I.xt.fresh (Zn _))⟩
end L2
namespace VS
open PySem PySem.Spec PyProof.Rows L2
def nQ:Uo->Um
 |[(_,.dct 0 l)]=>if fU (l.map (·.2))=B then Z (.fr,.dct 0 l) else J
 |_=>J
section
def xp:eZ G (λs H Q=>∃(d:KM)(n:List (Key×V)),s=[.ref d]/\H d=Z (.dK n)/\∀l,H l=J->Q (.ref l) (upd H l (.dK n))) nQ:=by
 intro R U N H l z O m t Q A e k;unfold nQ at e;split at e
 ·rename_i D E;split at e
  ·rename_i j;refine L2.ai λM w=>?_;cases e;obtain⟨v,F,rfl,rfl,r⟩:=(A.rp).one;obtain⟨a,ns,u,C,y,rfl,rfl,x,i,rfl,f⟩:=cW r;refine w ?_;refine⟨a,_,rfl,x,λq h=>?_⟩;have g:aI H (upd H q (.dK (ns.zip u))):=bZ h;rw[WY (by rw[Zu,i,f.len.1];exact Zn _)]at j;refine k _ _ (q :: y.flatten) g (.dct ar i (f.same g)) ?_;rw[(f.Iw j)];exact Fp.new (A.same.free h) (by simp) Fp.nil
  ·cases e
 ·cases e
def AQ{X:Cx}(d:X.mg "dict" = J)(g:Jj G X [e] cs)(f:Gl X "dict")(he:K1 e [] X):PV G X (.Call (.Name "dict" p) [e] [] pos) (eN nQ cs) :=
 lu tV xp f d B6 g (he:=he)
def EF{i d:Int}:PV G X (.Dict [Z (.Constant (.int i) j q)] [.Constant (.int d) l g] pos) (l9 0 [(Q3 i,Q3 d)]) :=
 PE.weak (u9 (rq qO qO vG) Y Y (by simp) (by show 1<=15;decide)) λO H Q n=>by
  refine L2.ai λt h=>?_;obtain⟨R,U,m,r,s,e,k⟩:=n;cases (e);refine h ?_;intro p f;refine⟨ar,[(Sum.inl i,.int d)],rfl,(by show 1<=15;decide),?_⟩;rw[vi];have:Rp G (upd H p (.dK [(Sum.inl i,V.int d)])) (.ref p) (.dct 0 ((([Sum.inl i]:List Key).map aE).zip [.int d])) (p :: ([[]]).flatten) :=
   .dct ar Y (.cons (.int d) .nil)
  exact k _ _ _ (bZ f) this ⟨by simp,λb hb=>by simp at hb;rw[hb];exact f⟩
def vV(x y:Val):Um:=match x.2 with
 |.dct 0 l=>if iw y.2 then Z (match cH l y.2 with | some t=>sub x.1 t | none=>(.fr,.non)) else none
 |_=>J
def w_get{X:Cx}{apos:Pos}(M:xh kr X.A)(P:PV G X o ca)(he:PV G X e cb)(Im:XAB o "get" X.env (eval o X.env)=eval o X.env)(I0:((backTo pe (Pv [e] X.env)).all (λx=>!x.1)&&(backToKw pe (SL [] X.env)).all (λx=>x.1.isSome)
   && decide (([e]:List Expr).length+([]:List Keyword).length+(if ([]:List Keyword).isEmpty then 0 else 1)<30))=B)(Ik:(apos.endLine==pe.line)=B)(h:backTo pe (Pv [e] X.env)=[(L,eval e X.env)]):PV G X (.Call (.Attribute o "get" apos) [e] [] pe) (e2 vV ca cb) :=
 PE.weak (zo (kM M) P he ⟨Im,I0,Ik,h⟩) λO H Q N=>by
  obtain⟨R,U,m,r,s,e,u⟩:=N;obtain⟨⟨C,x⟩,ea,e⟩:=Zz.mp e;obtain⟨⟨z,y⟩,eb,e⟩:=Zz.mp e;unfold vV at e;split at e
  ·rename_i l E;subst E;split at e
   ·rename_i Y;have d:=Zg e;refine⟨R,U,C,_,s,ea,λv H1 F1 t r1 f1=>?_⟩;refine L2.ai λP_ D=>?_;obtain⟨a,ks,vs,ts,Fs,rfl,rfl,j,S,rfl,q⟩:=cW r1;refine D ?_;refine⟨a,rfl,.inl ⟨_,.inl j⟩,R,U,z,y,s.same t,eb,λv2 w F2 g r2 f2=>?_⟩;obtain⟨kk,rfl,ek⟩:=dh r2 Y;rw[ek]at d;rcases jx S (q.same g) with⟨h1,h2⟩ | ⟨i,v,t2,F,a1,a2,a3,a4,n⟩
    ·rw[h1]at d;cases d;refine⟨_,gU.k (g a _ j),?_⟩;rw[h2];exact u .non w [] (t.trans g) .non Fp.nil
    ·rw[a1]at d;refine⟨_,gU.k (g a _ j),?_⟩;rw[a2];have f:=((f1.sub (YY _ _)).sub (cz a4)).up n;unfold VS.sub at d;dsimp only at d;rw[d]at f;have et:t2=r:=Z5 Prod.snd d;rw[et]at n;exact u v w F (t.trans g) n f
   ·cases e
  ·cases e
def sT(x y:Val):Um:=match x.2 with
 |.dct 3 l=>if iw y.2 then (cH l y.2).map (sub x.1) else J
 |_=>J
def tu(r:Rp G H v (.dct 3 l) F):∃(a:KM)(o:Obj)(ks:List Key)(d:List V)(f:Ul)(g:Xc),v=.ref a/\F=g.flatten/\H a=Z (.frz o (.dK (ks.zip d)))/\ks.length=d.length/\l=(ks.map aE).zip f/\RpL G H d f g:=r.inv
def En:fT G (FK G.K) sT:=by
 intro R U S H x y u w F1 F2 m t Q d e k;obtain⟨O,x⟩:=x;unfold sT at e;split at e
 ·rename_i l h;subst h;split at e
  ·rename_i n;obtain⟨N,e1,e2⟩:=Zt.mp e;obtain⟨a,o,ks,E,M,Y,rfl,rfl,r,j,rfl,q⟩:=tu d.r1;obtain⟨g,rfl,z⟩:=dh d.r2 n;rw[z]at e1;rcases jx j q with⟨s,_⟩ | ⟨i,v,t2,F,D,C,P,A,f⟩
   ·rw[s]at e1;cases e1
   ·rw[D]at e1;cases e1;cases e2;refine .inr ⟨a,v,rfl,.inl ⟨_,g,.inr ⟨o,r⟩,rfl,C.symm⟩,?_⟩;exact k v H F (aI.refl _) f ((d.f1.sub (cz A)).up f)
  ·cases e
 ·cases e
def C3{X:Cx}(f:xh kr X.A)(i:PV G X a ca)(g:PV G X b cb)(d:jt b)(j:X.K=G.K):PV G X (.Subscript a b pos) (e2 sT ca cb) :=
 PE.weak (tD (Mh.or qK (qy (kM f))) i g d) λO H Q h=>by rw[j];exact lh En h
end
def eNew(c:Nat)(g:Mt)(b:IE):Ex:=λU=>(b U).bind λa=>if dZ (trees a)=B then (g [] (trees a)).bind λz=>if eP z.1=B/\Pn z.2=B then Z (.fr,.obj (c+1) ((0,.bl L) :: z.1)) else J else J
def dI(c:Nat)(g:Fn)(d:Ex)(b:IE):Ex:=λU=>(d U).bind λx=>match x.2 with
 |.obj e (_ :: _)=>if e=c+1 then (b U).bind λa=>(g (x.2 :: trees a)).bind λr=>match r.1 with
  |.fr=>Z r
  |_=>J else J
 |_=>J
theorem xR{α:Type}:∀(l:List α)(a:Xc),JC (l.map λ_=>L) a=[]
 |[],_=>by simp[JC]
 |_ :: _,[]=>by simp[JC]
 |_ :: l,F :: a=>by
  rw[Zo,JC,Zq Zf,YA];exact xR l a
theorem xB:∀(e:List Bool)(d:Xc),∀a∈Mo e d,a∈d.flatten
 |[],_,a,h=>by simp[Mo]at h
 |_ :: _,[],a,h=>by simp[Mo]at h
 |b :: bs,F :: d,a,h=>by
  rw[Mo]at h;rw[Z1];rcases Zj.mp h with h | h
  ·cases b with
   |true=>simp at h
   |false=>exact Z8 _ (by simpa using h)
  ·exact ZQ _ (xB bs d a h)
section
def BU{G:Gx}(r:Rp G H u t F)(h:Pn t=B):u=.non:=by
 cases r with
 |non=>rfl
 |_=>cases h
def yK{X:Cx}(F:∀n,FnOk X.prog X.w X.K X.mg X.base Jb k f fd ps (Mm G c (List.replicate n L) g)->True)(ht:∀R U d O H (Rq:List V->Hp->Prop),SR G R U O H->cs U=Z d->(∀A v Fs,aI H v->RpL G v A (trees d) Fs->NW R U H d Fs->Rq A v)->t O H Rq)(n:Nat)(hn:∀U d,cs U=Z d->d.length=n)(hq:tE G (eNew c g cs) O H Q):yV (G.ct (c+1)).1 (Mm G c (List.replicate n L) g) [] E t O H Q:=by
 refine L2.ai λP_ D=>?_;obtain⟨R,U,mo,r,s,e,kq⟩:=hq;obtain⟨d,el,e1⟩:=Zz.mp e;refine D ?_;split at e1
 ·rename_i QP;obtain⟨⟨Kf,y⟩,eg,e2⟩:=Zz.mp e1;split at e2
  ·rename_i hc;cases e2;refine ht R U d O H _ s el λA H1 Gs P WJ Sd a dx M QL ne=>?_;have j:=P.free M;have S:aI H1 (upd (upd H1 dx (.own a)) a (.ins (G.ct (c+1)).1 dx [])):=λb C q=>by
    rw[aw (λz=>by rw[z,M]at q;cases q),aw (λz=>by rw[z,QL]at q;cases q)];exact q
   have em:List.replicate n L=(List.range n).map λ_=>L:=by rw[List.map_const',Yx]
   have N:JC (List.replicate n L) Gs=[]:=by rw[em];exact xR _ _
   refine⟨a,A,[],trees d,[a],Gs,Kf,y,by rw[ZV],.ins (ks:=[]) ar Y (λ_=>rfl) .nil,(WJ.same S).at (Ln a) QP,?_,?_,?_,eg,λu v F' l ru=>⟨BU ru hc.2,?_⟩⟩
   ·simp[trees,(hn U d el)]
   ·rw[N];simp
   ·rw[N];intro b hb JE;have:b=a:=by simpa using hb
    subst this;exact Il.xa (WJ.Iu b (xB _ _ b JE)) M
   ·rw[N,ZV]at l;refine kq (.ref a) v F' (λb C q=>l.keep b C (λz=>?_) (S b C (P b C q))) (by
     refine L2.ai λP_ D=>?_;obtain⟨c2,a2,dx2,b2,SO,Nf,So,PH,O5,QZ,UE,UD,Ra,QT,Jk,Ms,K8⟩:=dW l.rp;cases O5;cases QZ;subst UD;refine D ?_;rw[Ra];exact .ins QT Jk (λz=>nomatch z) (K8.at G.me (d8 (Jk.trans K8.len.1) hc.1))) ⟨l.nd,λb hb=>?_⟩
    ·have:b=a:=by simpa using z
     rw[this,j]at q;cases q
    ·rcases l.sub b hb with z | z
     ·have:b=a:=by simpa using z
      rw[this];exact j
     ·exact(λb z=>P.free (S.free z)) b z
  ·cases e2
 ·cases e1
def Ht{G:Gx}{X:Cx}(n:Nat)(M:Mk X.K (G.ct (c+1)).1 f)(F:FnOk X.prog X.w X.K X.mg X.base Jb k f fd ps (Mm G c (List.replicate n L) g))(d:xh k' X.A)(q:k+1<=k')(r:Gl X x)(l:X.mg x=Z (.ref (G.ct (c+1)).1))(t:Binds X.K fd ps [])(u:Jj G X (e :: es) cs)(j:∀U a,cs U=Z a->a.length=n)(v:K3 x)(he:K1 e es X)(b:K2 pos es X):PV G X (.Call (.Name x p) (e :: es) [] pos) (eNew c g cs) :=
 PE.weak (AM M F (d.mono q) r l t .nil lY u v he b) λO H Q h=>yK (X:=X) (k:=k) (f:=f) (fd:=fd) (ps:=ps) (λ_ _=>True.intro) (λR U a O H Rq s e k=>⟨R,U,a,s,e,k⟩) n j h
def Dm{G:Gx}{X:Cx}(M:Mk X.K (G.ct (c+1)).1 f)(F:FnOk X.prog X.w X.K X.mg X.base Jb k f fd ps (Mm G c [] g))(b:xh k' X.A)(j:k+1<=k')(l:Gl X x)(d:X.mg x=Z (.ref (G.ct (c+1)).1))(n:Binds X.K fd ps [])(q:K3 x):PV G X (.Call (.Name x p) [] [] pos) (eNew c g aj) :=
 PE.weak (yY M F (b.mono j) l d n .nil lY q) λO H Q h=>yK (X:=X) (k:=k) (f:=f) (fd:=fd) (ps:=ps) (λ_ _=>True.intro) (λR U a O H Rq s e k=>by
  cases (e);exact k [] H [] (aI.refl _) .nil ⟨λi v F h=>by simp at h,by simp[JJ]⟩) 0 (λU a e=>by
  cases (e);rfl) h
theorem uX{g:Nat->Str}(b:∀k,g k≠m):∀(ns:Us)(a:List V),((ns.map g).zip a).lookup m=J
 |[],a=>by simp
 |_ :: _,[]=>by simp
 |n :: ns,v :: a=>by
  rw[Zo,ZM,YV];have:(m==g n)=L:=by
   rw[Z0];exact λz=>b n z.symm
  rw[this];exact uX b ns a
def u0{G:Gx}(hn:∀k,(G.ct (c+1)).2 k≠m)(S:∀R U d O H (Rq:List V->Hp->Prop),SR G R U O H->cs U=Z d->(∀l j A,aI H j->RpL G j l (trees d) A->NW R U H d A->Rq l j)->t O H Rq)(Y:tE G (dI c h ca cs) O H Q):vA (G.ct (c+1)).1 m (KI G h) [] E (tE G ca) t O H Q:=by
 refine L2.ai λP_ q=>?_;obtain⟨R,U,mo,r,s,e,N⟩:=Y;obtain⟨⟨M,y⟩,ea,e1⟩:=Zz.mp e;refine q ?_;split at e1
 ·rename_i c' q0 fs P;subst P;split at e1
  ·rename_i hc;subst hc;obtain⟨d,el,e2⟩:=Zz.mp e1;obtain⟨⟨n,F⟩,eg,e3⟩:=Zz.mp e2;refine⟨R,U,M,_,s,ea,λv H1 F1 w r1 f1=>?_⟩;refine L2.ai λP_ q=>?_;obtain⟨c2,a,dx,b,ns,l,ts,A,ec,rfl,eb,ef,eF,hA,hl,hb,ra⟩:=dW r1;cases ec;refine q ?_;refine⟨a,dx,_,rfl,hA,uX hn _ _,S R U d O H1 _ (s.same w) el λus H2 Gs z Pj OZ=>?_⟩;rw[ZV];refine⟨_ :: trees d,F1 :: Gs,n,F,.cons (r1.same z) Pj,eg,λu j F' K7 D C=>?_⟩;cases n with
   |fr =>
    cases e3;exact N u j F' ((w.trans z).trans K7) D ⟨C.1,λb hb=>w.free (z.free (C.2 b hb))⟩
   |pu=>cases e3
   |bo=>cases e3
  ·cases e1
 ·cases e1
def Fh{G:Gx}(t:∀k,(G.ct (c+1)).2 k≠m)(r:PV G X o ca)(y:JT X.K (G.ct (c+1)).1)(u:Meth X.K (G.ct (c+1)).1 m f)(F:FnOk X.prog X.w X.K X.mg X.base Jb k f fd ps (KI G h))(n:xh k' X.A)(v:k<=k')(z:Binds X.K fd ps [])(C:Jj G X (e :: es) cs)(D:K1 e es X)(a:K2 pos es X)(l:eval (.Call (.Attribute o m apos) (e :: es) [] pos) X.env=(do
   let b ← eval o X.env
   standAt apos.atName
   let (f,first) ← holding [b] (getMethod b m j)
   callWith pos f first (backTo pos (Pv (e :: es) X.env)) (backToKw pos (SL [] X.env)))):PV G X (.Call (.Attribute o m apos) (e :: es) [] pos) (dI c h ca cs) :=
 PE.weak (pO r y u F (n.mono v) z .nil lY C D a l) λO H Q q=>u0 t (λR U d O H Rq s e k=>⟨R,U,d,s,e,k⟩) q
def BY{G:Gx}(n:∀k,(G.ct (c+1)).2 k≠m)(l:PV G X o ca)(u:JT X.K (G.ct (c+1)).1)(r:Meth X.K (G.ct (c+1)).1 m f)(F:FnOk X.prog X.w X.K X.mg X.base Jb k f fd ps (KI G h))(j:xh k' X.A)(t:k<=k')(y:Binds X.K fd ps [])(d:eval (.Call (.Attribute o m apos) [] [] pos) X.env=(do
   let a ← eval o X.env
   standAt apos.atName
   let (f,first) ← holding [a] (getMethod a m b)
   callWith pos f first (backTo pos (Pv [] X.env)) (backToKw pos (SL [] X.env)))):PV G X (.Call (.Attribute o m apos) [] [] pos) (dI c h ca aj) :=
 PE.weak (rE l u r F (j.mono t) y .nil lY d) λO H Q q=>u0 n (λR U z O H Rq s e k=>by
  cases (e);exact k [] H [] (aI.refl _) .nil ⟨λi v F h=>by simp at h,by simp[JJ]⟩) q
end
def ql(i:Nat)(a:List Lj)(j:Nat)(U:VS.Env):Option Out:=match (U[i]?:Option (Up)),(U[j]?:Option (Up)) with
 |some (some (.ow t)),some (some (.ow u))=>if i≠j then (keys a U).bind λks=>(pm (λx=>aC x [(.fr,u)]) ks t).map λz=>.nx ((U.set j J).set i (Z (.ow z.1))) else J
 |_,_=>J
open Classical in
noncomputable def less(H:Hp)(F:W6):Hp:=λb=>if b∈F then J else H b
section
def qr(h:b∈F):less H F b=J:=Zr h
def g0(h:b∉F):less H F b=H b:=Zq h
def g7{o:HO}(h:less H F b=Z o):H b=Z o/\b∉F:=by
 by_cases q:b∈F
 ·rw[qr q]at h;cases h
 ·rw[g0 q]at h;exact⟨h,q⟩
def wQ(h:∀b∈F,Il (H b)):Kept H (less H F) :=
 ⟨λb a e=>by
  rw[g0 (λz=>by have:=h b z;rw[e]at this;exact this)];exact e,λb o u e=>by
  rw[g0 (λz=>by have:=h b z;rw[e]at this;exact this)];exact e⟩
def An{apos pos:Pos}(J:jF G)(ho:LV G X o i way)(hK:X.K=G.K)(hN:X.N[j]?=Z y)(hv:KG X.env.scope y)(hd:K3 y)(hcd:K4 y)(Im:XAB o "append" X.env (eval o X.env)=eval o X.env)(I0:((backTo pe (Pv [.Name y p1] X.env)).all (λx=>!x.1)&&(backToKw pe (SL [] X.env)).all (λx=>x.1.isSome)
   && decide ([Expr.Name y p1].length+([]:List Keyword).length+(if ([]:List Keyword).isEmpty then 0 else 1)<30))=B)(Ik:(apos.endLine==pe.line)=B)(hs:Pv [.Name y p1] X.env=(L,eval (.Name y p1) X.env) :: Pv [] X.env)(Ip:(backTo pe (Pv [] X.env)).any (·.1)=L)(JW:swapsWith (.Call (.Attribute o "append" apos) [.Name y p1] [] pe) none pos.line X.env=pure L) :
  PSV G X (.Expr (.Call (.Attribute o "append" apos) [.Name y p1] [] pe) pos) (ql i way j) :=
 PS.weak (fY (nq Xv XU XW fu ho (dU (dk hN hv hd hcd) gE hs) Im I0 Ik hs Ip) JW) λD O H hq=>by
  obtain⟨R,U,out,s,e,k⟩:=hq;unfold ql at e;split at e
  ·rename_i t u ht C;split at e
   ·rename_i Lo;refine L2.ai λP_ k_=>?_;obtain⟨ks,ek,e3⟩:=Zz.mp e;obtain⟨⟨M,x2⟩,e5,e6⟩:=Zt.mp e3;cases e6;obtain⟨vj,j1,j2⟩:=s.rp _ _ C;have A:=j2;have ndj:=s.nd j u C;have kp:=wQ A.Iu;have s0:SR G R (U.set j none) O (less H (R j)):=⟨(s.drop j).len,λQ Y h=>by
     obtain⟨n,h'⟩:=bg h;obtain⟨v,S,h2⟩:=s.rp Q Y h';exact⟨v,S,h2.keep kp λb hb d Pq=>by rw[g0 ((λQ Y n h b hb JE=>s.sep j Q u Y C h (YN n) b JE hb) Q Y n h' b hb)];exact Pq⟩,(s.drop j).nd,(s.drop j).sep⟩
    have Td:(U.set j none)[i]?=Z (Z (.ow t)):=by
     rw[XX (YN Lo)];exact ht
    obtain⟨v,S,h2⟩:=s0.rp _ _ Td;obtain⟨w,x,F1,x3,w1,w2,w3,r,w5⟩:=nW ks J h2 (s0.nd i t Td) e5;refine k_ ?_;unfold aC at r;dsimp only at r;split at r
    ·rename_i l yv heq;cases heq;obtain⟨z,ez,e7⟩:=Zz.mp r;cases (ez);split at e7
     ·rename_i hl;cases e7;obtain⟨a,us,Gs,rfl,rfl,ha,ra⟩:=w2.lst_inv;obtain⟨TN,E⟩:=g7 ha;refine⟨R,U,t,ks,v,.ref a,s,ht,S,ek,(by
       have:∀{ks:List Ky}{v w:V},J2 G (less H (R j)) ks v w->J2 G H ks v w:=by
        intro ks v w p
        induction p with
        |nil v=>exact .nil v
        |fld h l _ f=>exact .fld (g7 h).1 l f
        |ix h l m _ f=>exact .ix (g7 h).1 l m f
        |key h l _ f=>exact .key (g7 h).1 l f
        |un _ f=>exact .un f
       exact this w1),λH0 g=>⟨.inl ⟨rfl,us,by rw[hK];exact Iv.of (g a _ TN)⟩,vj,j1,a,us,vj,rfl,rfl,g a _ TN,by rw[ra.len.1];exact hl,?_⟩⟩
      have P:Il (H0 a):=by rw[g a _ TN];exact True.intro
      have RR:=Zc.mp w3;have SI:=λb hb JE=>by
       have:=ra.Iu b hb;rw[qr JE]at this;exact this
      have F:∀b d,less H (R j) b=Z d->H0 b=Z d:=λb d h=>g b d (g7 h).1;have kl:Kept (less H (R j)) H0:=⟨λb xs h=>F b _ h,λb d u h=>F b _ h⟩
      obtain⟨F2,g2⟩:=w5 _ _ (by
       refine⟨kl.trans (Kept.upd (.inl P)),λb d hb h=>by rw[aw (λz=>hb (by rw[z];exact Zy))];exact F b d h,λb h z=>?_,.lst ar ((RpL.off (ra.keep kl λb hb d h=>F b d h) P RR.1).append (.cons (((A.same g)).keep (Kept.upd (.inl P)) λb hb d ho=>by rw[aw (λz=>E (by rw[← z];exact hb))];exact ho) .nil)),?_,λb hb=>?_⟩
       ·by_cases q:b=a
        ·rw[q,ar]at z;cases z
        ·rw[aw q]at z;cases e:less H (R j) b with
         |none=>exact h e
         |some d=>rw[F b d e]at z;cases z
       ·rw[Yt];refine Zc.mpr ⟨λm=>?_,ZC.mpr ⟨RR.2,by simpa using ndj,λb hb c hc z=>?_⟩⟩
        ·rcases Zj.mp m with m | m
         ·exact RR.1 m
         ·exact E (by simpa using m)
        ·subst z;exact SI b hb (by simpa using hc)
       ·rcases Zh.mp hb with rfl | hb
        ·exact .inl Zy
        ·rw[Yt]at hb;rcases Zj.mp hb with hb | hb
         ·exact .inl (Zw _ hb)
         ·exact .inr (qr (by simpa using hb)))
      obtain⟨z1,z2⟩:=s0.mut Td S g2;have back:∀b,less H (R j) b=none->bX R U b\/H b=none:=λb h=>by
       by_cases q:b∈R j
       ·exact .inl ⟨j,u,C,q⟩
       ·rw[g0 q]at h;exact .inr h
      have Ni:∀b,bX R (U.set j none) b->bX R U b:=λb ⟨j',M,q1,q2⟩=>⟨j',M,(bg q1).2,q2⟩
      have pu0:∀b,dG R (U.set j none) b->dG R U b:=λb ⟨j',M,q1,q2⟩=>⟨j',M,(bg q1).2,q2⟩
      refine k _ O _ z1 ⟨λb d h n=>?_,λb h z=>?_,λb h=>?_,λb h=>?_,(Kept.of g).trans (Kept.upd (.inl P))⟩
      ·exact z2.keep b d (by rw[g0 (λz=>n ⟨j,u,C,z⟩)];exact h) λz=>n (Ni b z)
      ·by_cases q:b=a
       ·rw[q,ar]at z;cases z
       ·rw[aw q]at z;exact h (g.free z)
      ·rcases z2.ow b h with h | h
       ·exact .inl (Ni b h)
       ·exact back b h
      ·rcases z2.pu b h with h | h | h
       ·exact .inl (pu0 b h)
       ·exact .inr (.inl (Ni b h))
       ·exact(back b h).elim (λz=>.inr (.inl z)) λz=>.inr (.inr z)
     ·cases e7
    ·cases r
   ·cases e
  ·cases e
end
end VS
end
section
namespace VS
open PySem PySem.Spec PyProof.Rows L2
noncomputable def isInt:T->Bool
 |.int _=>B
 |_=>L
def uI(i:Nat):Ju:=λU=>match (U[i]?:Option (Up)) with
 |some (some (.pu (.dct 3 l)))=>if (l.all λp=>isInt p.1)=B then Z (.fr,l.map (·.1)) else J
 |_=>J
def zx(i:Nat)(a:Tg)(b:Ex):Sx:=λU=>match (U[i]?:Option (Up)) with
 |some (some (.ow (.dct 0 l)))=>(eQ 1 a (uI i) J b (U.set i (Z (.pu (.dct 3 l))))).bind λv=>match v.1 with
  |.fr=>Z (.rt v (U.set i J))
  |_=>J
 |_=>J
theorem zip_inj{α β:Type}:∀{a c:List α}{b d:List β},a.length=b.length->c.length=d.length->a.zip b=c.zip d->a=c
 |[],[],_,_,_,_,_=>rfl
 |[],_ :: _,_,[],_,h,_=>by simp at h
 |[],_ :: _,[],_ :: _,_,_,h=>by simp at h
 |[],_ :: _,_ :: _,_ :: _,h,_,_=>by simp at h
 |_ :: _,_,[],_,h,_,_=>by simp at h
 |_ :: _,[],_ :: _,[],_,_,h=>by simp at h
 |_ :: _,[],_ :: _,_ :: _,_,h,_=>by simp at h
 |_ :: _,_ :: _,_ :: _,[],_,h,_=>by simp at h
 |x :: a,y :: c,z :: b,w :: d,f,e,h=>by
  rw[ZM,ZM]at h;obtain⟨e1,e2⟩:=Ws h;rw[zip_inj (by simpa using f) (by simpa using e) e2,(Wj e1).1]
section
def E5{X:Cx}(i:Nat)(N:List Str)(IL:X.calm=B)(hN:X.N[i]?=Z x)(hv:KG X.env.scope x)(hd:K3 x)(hcd:K4 x)(KQ:xX 1 g)(hg:∀cl C s H fp,Pg G (bS X N sc cl C s H fp) tg g)(he:∀cl C s H fp,PV G (bS X N sc cl C s H fp) elt ce)(KL:oM X.env sc=B)(LI:oJ sc (N.drop 1) X.N=B)(LM:1<=N.length)(hs:∀y,XAC (.Name x p1) X.env y=pure y) :
  PSV G X (.Return (Z (.ListComp elt [⟨tg,.Name x p1,[],0⟩] sc pos)) pos') (zx i g ce) :=
 PS.weak (p5 (uP IL (GY (dk hN hv hd hcd)) KL LI LM (λcl C s H fp=>⟨hg cl C s H fp,nk,he cl C s H fp⟩) hs)) λD O H hq=>by
  obtain⟨R,U,out,s,e,k⟩:=hq;unfold zx at e;split at e
  ·rename_i l A;refine L2.ai λP_ k_=>?_;obtain⟨⟨mv,tv⟩,ev,e1⟩:=Zz.mp e;have Nm:mv=.fr/\out=.rt (.fr,tv) (U.set i J):=by
    cases mv with
    |fr=>cases e1;exact⟨rfl,rfl⟩
    |pu=>cases e1
    |bo=>cases e1
   obtain⟨rfl,rfl⟩:=Nm;obtain⟨v,g1,g2⟩:=s.rp _ _ A;obtain⟨a,ns,E,Y,Fs,rfl,eF,ha,KO,rfl,ra⟩:=cW g2;refine k_ ?_;have nd:=s.nd i _ A;rw[eF]at nd;refine⟨.ref a,g1,a,ns.zip E,rfl,ha,λo=>?_⟩;have mu:Il (H a):=by rw[ha];exact True.intro
   have kp:Kept H (upd H a (.frz o (.dK (ns.zip E)))):=Kept.upd (.inl mu);have es:O.set i (Z (.ref a))=O:=by
    obtain⟨h,e⟩:=ZZ.mp g1;rw[← e];exact Vj h
   have aΦ:a∈R i:=by rw[eF];exact Zy
   have sub:∀b∈Fs.flatten,b∈R i:=λb hb=>by rw[eF];exact Zw _ hb
   have s1:SR G (iJ R i Fs.flatten) (U.set i (Z (.pu (.dct 3 ((ns.map aE).zip Y))))) O (upd H a (.frz o (.dK (ns.zip E)))):=by
    have:=s.put (c:=.pu (.dct 3 ((ns.map aE).zip Y))) ((ZZ.mp A).1) (.dctZ ar KO (ra.off mu (Zc.mp nd).1)) (λj c' n hj w q=>q.keep kp λb hb ob ho=>by
     rw[aw (λz=>s.sep i j _ c' A hj (YN n) a aΦ (by rw[← z];exact hb))];exact ho) (λ_ z=>nomatch z) (λ_ z=>nomatch z) λj u n hj b hb JE=>s.sep j i u _ hj A n b hb (sub b JE)
    rw[es]at this;exact this
   refine L2.ai λP_ k_=>?_;obtain⟨R2,U2,m2,l2,s2,e2,k2⟩:=pI KQ (by
    refine⟨_,_,.fr,tv,s1,ev,λu H' F S r f=>?_⟩;have ee:(U.set i (Z (.pu (.dct 3 ((ns.map aE).zip Y))))).set i J=U.set i J:=by rw[List.set_set]
    have sd:=(s1.drop i).same S;rw[ee]at sd;have Ni:∀b,bX (iJ R i Fs.flatten) (U.set i J) b->bX R U b:=λb ⟨j,t,m,d⟩=>by
     obtain⟨n,Sw⟩:=bg m;rw[eu n]at d;exact⟨j,t,Sw,d⟩
    refine k u H' F _ O sd ⟨λb ob h n=>?_,λb h z=>?_,λb h=>.inl (Ni b h),λb ⟨j,t,m,d⟩=>?_,kp.trans (Kept.of S)⟩ r ⟨f.1,λb hb=>.inl ?_⟩
    ·have nb:b≠a:=λz=>n ⟨i,_,A,by rw[z];exact aΦ⟩;exact⟨S b ob (by rw[aw nb];exact h),λz=>n (Ni b z)⟩
    ·have Q:=S.free z;by_cases q:b=a
     ·rw[q,ar]at Q;cases Q
     ·rw[aw q]at Q;exact h Q
    ·obtain⟨n,Sw⟩:=bg m;rw[eu n]at d;exact .inl ⟨j,t,Sw,d⟩
    ·have:=f.2 b hb;by_cases q:b=a
     ·rw[q,ar]at this;cases this
     ·rw[aw q]at this;exact this)
   refine k_ ?_;refine k2 (UX a o (ns.zip E)) _ [] (aI.refl _) ?_ (λb hb=>nomatch hb);unfold uI at e2;split at e2
   ·rename_i l3 h3;split at e2
    ·rename_i hint;cases e2;obtain⟨v3,m,d⟩:=s2.rp _ _ h3;rw[g1]at m;cases m;obtain⟨a3,o3,ks3,Ow,Nz,NV,UG,_,Lg,JH,rfl,K8⟩:=tu d;cases UG;rw[ar]at Lg;have ek:=zip_inj KO JH (HO.dK.inj (HO.frz.inj (Zg Lg)).2);subst ek;have em:((ns.map aE).zip Nz).map (·.1)=ns.map aE:=WX (by rw[Zu,JH,K8.len.1];exact Zn _);have zl:(ns.zip E).length=ns.length:=by rw[Yu,KO,Wg]
     refine⟨λH2 Jg _=>⟨λn t P=>?_,λn P=>?_⟩,λb hb=>nomatch hb⟩
     ·rw[em,ZL]at P;obtain⟨kk,L9,KP⟩:=Zt.mp P;have M:=(ZZ.mp L9).1;refine⟨⟨Jg.frz _ _ _ ar,by rw[zl];exact M⟩,λy H3 hy=>?_⟩;obtain⟨rfl,p,hp,rfl⟩:=hy;refine⟨aI.refl _,[],?_,λb hb=>nomatch hb⟩;have Pp:p.1=kk:=by
       have OK:=hp;rw[Ya]at OK;rw[L9]at OK;exact(Zg OK.1).symm
      have hi:isInt t=B:=by
       have:=Z6.mp hint (t,Nz[n]'(by rw[← K8.len.1,← JH];exact M)) (by
        refine Yb (i:=n) ?_;rw[Ya];exact⟨by rw[ZL,L9];exact Z5 Z KP,Zk _⟩)
       exact this
      rw[Pp,← KP];rw[← KP]at hi;cases kk with
      |inl n=>exact .int n
      |inr z=>cases hi
     ·refine⟨Jg.frz _ _ _ ar,?_⟩;rw[em,Zu]at P;rw[zl];exact P
    ·cases e2
   ·cases e2
  ·cases e
end
noncomputable def Ee(c:Nat):Option (Up)->Bool
 |some (some (.ow (.obj a (_ :: _))))=>a==c+1
 |_=>L
def pC(i c:Nat)(b:List Bool)(g:Mt)(x:Xx)(d:IE)(U:VS.Env):Option (Val×VS.Env):=if Ee c (U[i]?:Option (Up))=B then (x U).bind λz=>if Iw z.1.2=B then (match (z.2[i]?:Option (Up)) with
 |some (some (.ow t))=>(d z.2).bind λa=>(jI c b g ((.fr,z.1.2) :: a) t).map λr=>(r.2,z.2.set i (Z (.ow r.1)))
 |_=>J) else J else J
section
def BH{G:Gx}{X:Cx}(hn:∀k,(G.ct (c+1)).2 k≠m)(hN:X.N[i]?=Z y)(hv:KG X.env.scope y)(hd:K3 y)(hcd:K4 y)(hc:JT X.K (G.ct (c+1)).1)(hm:Meth X.K (G.ct (c+1)).1 m f)(F:FnOk X.prog X.w X.K X.mg X.base Jb k f fd ps (Mm G c mv g))(hr:xh k' X.A)(hk:k<=k')(hb:Binds X.K fd ps [])(h1:PX G X e x)(ha:Jj G X es cs)(KJ:K1 e es X)(hpl:K2 pos es X)(ht:eval (.Call (.Attribute (.Name y p1) m apos) (e :: es) [] pos) X.env=(do
   let ov ← eval (.Name y p1) X.env
   standAt apos.atName
   let (f,first) ← holding [ov] (getMethod ov m pl)
   callWith pos f first (backTo pos (Pv (e :: es) X.env)) (backToKw pos (SL [] X.env)))):PX G X (.Call (.Attribute (.Name y p1) m apos) (e :: es) [] pos) (pC i c mv g x cs) :=
 PE.weak (pO (dk hN hv hd hcd) hc hm F (hr.mono hk) hb .nil lY (dU h1 ha KJ) KJ hpl ht) λO H Q h=>by
  refine L2.ai λP j=>?_;obtain⟨R,U,v,U',s,e,him,kq⟩:=h;refine j ?_;unfold pC at e;split at e
  ·rename_i M;obtain⟨⟨D,U1⟩,e1,e2⟩:=Zz.mp e;split at e2
   ·rename_i Ts;unfold Ee at M;split at M
    ·rename_i c0 q0 fs0 h0;have ec0:c0=c+1:=by simpa using M
     refine L2.ai λP j=>?_;subst ec0;obtain⟨v0,g1,g2⟩:=s.rp _ _ h0;obtain⟨c',a,dx,b,ns,l,ts,Fs,ec,rfl,eb,ef,eF,hA,hl,hbb,ra⟩:=dW g2;cases ec;refine j ?_;have key:∀(ns:Us)(l:List V),((ns.map (G.ct (c+1)).2).zip l).lookup m=J:=by
      intro ns
      induction ns with
      |nil=>intro l;simp
      |cons n ns ih =>
       intro l;cases l with
       |nil=>simp
       |cons v l =>
        rw[Zo,ZM,YV];have:(m==(G.ct (c+1)).2 n)=L:=by
         rw[Z0];exact λz=>hn n z.symm
        rw[this];exact ih l
     refine⟨.ref a,g1,a,dx,_,rfl,hA,key _ _,R,U,D,U1,s,e1,Ts,λu1 H1 R1 E f1 r1=>?_⟩;split at e2
     ·rename_i t1 Tc;refine L2.ai λP j=>?_;obtain⟨C,el,e3⟩:=Zz.mp e2;obtain⟨⟨x3,y3⟩,p,e4⟩:=Zt.mp e3;cases e4;obtain⟨va,q1,w2⟩:=E.rp _ _ Tc;rw[g1]at q1;cases q1;refine j ?_;have w3:=E.nd i t1 Tc;refine⟨R1,U1,C,E,el,λY H2 Gs o Pj OZ=>?_⟩;show Mm G c mv g (V.ref a :: ((u1 :: Y)++[])) H2 Q E0;rw[ZV];unfold jI at p;split at p
      ·rename_i c1 d fs;split at p
       ·rename_i R5;obtain⟨rfl,MH,S,QP⟩:=R5;obtain⟨⟨Kf,z⟩,eg,e7⟩:=Zz.mp p;split at e7
        ·rename_i M7;refine L2.ai λP j=>?_;cases e7;obtain⟨c2,a2,dx2,b2,SO,Nf,So,PH,O5,QZ,UE,rfl,Ra,QT,Jk,Ms,XN⟩:=dW w2;cases O5;cases QZ;cases UE;refine j ?_;have r:NW R1 U1 H1 ((.fr,D.2) :: C) ([] :: Gs):=⟨λn v' F' a1 a2=>by
          cases n with
          |zero=>cases a1;cases a2;exact Fp.nil
          |succ n=>exact OZ.each n v' F' (by simpa using a1) (by simpa using a2),by
          exact OZ.nd⟩
         have OE:=vF S r;have WG:RpL G H2 (u1 :: Y) (trees ((.fr,D.2) :: C)) ([] :: Gs):=.cons (r1.same o) Pj;refine⟨a,u1 :: Y,SO.zip So,trees ((.fr,D.2) :: C),R1 i,[] :: Gs,Kf,z,rfl,?_,WG.at (Ln a) QP,?_,?_,?_,eg,λu H' F' q ru=>?_⟩
         ·rw[Ra];exact .ins (o a _ QT) Jk (λ_=>rfl) ((XN.same o).at (Ln a) (d8 (Jk.trans XN.len.1) MH))
         ·rw[jX S];simp[trees]
         ·refine ZC.mpr ⟨w3,r.nd.sublist (mZ S),λd t b2 Ms z=>?_⟩;subst z;exact Il.xa (w2.Iu d t) (OE d Ms)
         ·rw[qL S WG];exact λd _ z=>nomatch z
         ·have back:Rp G H' (.ref a) (.obj (c+1) ((0,.bl d) :: Kf)) F':=by
           refine L2.ai λP j=>?_;obtain⟨c3,a3,dx3,b3,N7,Ow,Nz,NV,ec3,UG,eb3,ef3,eF3,hA3,JH,hb3,K8⟩:=dW q.rp;cases ec3;cases UG;subst ef3;refine j ?_;rw[eF3];exact .ins hA3 JH Ms (K8.at G.me (d8 (JH.trans K8.len.1) M7.1))
          obtain⟨z1,z2⟩:=E.mut Tc g1 (⟨(Kept.of o).trans q.kept,λd o1 t ho=>q.keep d o1 (λz=>(Zj.mp z).elim t λz=>by rw[OE d z]at ho;cases ho) (o d o1 ho),λd h=>q.Iu d λz=>h (o.free z),back,q.nd,λd t=>by
           rcases q.sub d t with z | z
           ·rcases Zj.mp z with z | z
            ·exact .inl z
            ·exact .inr (OE d z)
           ·exact .inr (o.free z)⟩)
          exact kq u H' _ z1 (f1.trans z2) (ru.at G.me (ot z M7.2))
        ·cases e7
       ·cases p
      ·cases p
     ·cases e2
    ·cases M
   ·cases e2
  ·cases e
end
noncomputable def Oj(a:List Str)(k:Nat):Str:=match a[k]? with
 |some x=>x
 |none=>⟨#[k]⟩
def Nq(a:List Str)(K:Ww)(C D:KM):Gx:=⟨K,λc=>(if c=2 then D else C,Oj a),λ_=>J⟩
def Ao{a:List Str}(i:a.Nodup)(h:∀x∈a,x.cps.size≠1)(k b:Nat)(e:Oj a k=Oj a b):k=b:=by
 unfold Oj at e;by_cases f:k<a.length
 ·by_cases d:b<a.length
  ·rw[Zk f,Zk d]at e;exact(List.getElem_inj i).mp e
  ·rw[Zk f,Yr (ZJ d)]at e;have g:a[k]=(⟨#[b]⟩:Str):=e;exact absurd (by rw[g];rfl) (h _ (Yo f))
 ·by_cases d:b<a.length
  ·rw[Yr (ZJ f),Zk d]at e;have g:(⟨#[k]⟩:Str)=a[b]:=e;exact absurd (by rw[← g];rfl) (h _ (Yo d))
  ·rw[Yr (ZJ f),Yr (ZJ d)]at e;cases e;rfl
def CK{a:List Str}{K:Ww}(b:a.Nodup)(h:∀x∈a,x.cps.size≠1):jF ((Nq a K C D).at m):=λ_ k d e=>Ao b h k d e
def fz(h:x∉a)(d:x.cps.size≠1)(k:Nat):Oj a k≠x:=λe=>by
 unfold Oj at e;split at e
 ·rename_i y b;exact h (e ▸ Yb b)
 ·exact d (by rw[← e];rfl)
def xi{a:List Str}{K:Ww}(b:a[k]?=Z f)(h:JT K C)(g:JT K D)(e:aR K C f)(d:aR K D f):Jv ((Nq a K C D).at m) K k f :=
 ⟨λc=>by show Oj a k=f;unfold Oj;rw[b],λc=>by show JT K (if c+1=2 then D else C);split<;>assumption,λc=>by show aR K (if c+1=2 then D else C) f;split<;>assumption⟩
structure MtAt(P:Re)(w:XAA)(K:Ww)(mg:Wp)(base:UV)(k:Nat)(G:Gx)(c:Nat)(x:Str)(ps:List Str)(mv:List Bool)(g:Mt):Prop where
 ex:∃f fd,FnOk P w K mg base Jb k f fd ps (Mm G c mv g)/\Meth K (G.ct (c+1)).1 x f/\Binds K fd ps []
 cl:JT K (G.ct (c+1)).1
 no:∀k,(G.ct (c+1)).2 k≠x
structure MpAt(P:Re)(w:XAA)(K:Ww)(mg:Wp)(base:UV)(k:Nat)(G:Gx)(c:Nat)(x:Str)(ps:List Str)(h:Fn):Prop where
 ex:∃f fd,FnOk P w K mg base Jb k f fd ps (KI G h)/\Meth K (G.ct (c+1)).1 x f/\Binds K fd ps []
 cl:JT K (G.ct (c+1)).1
 no:∀k,(G.ct (c+1)).2 k≠x
structure InAt(P:Re)(w:XAA)(K:Ww)(mg:Wp)(base:UV)(k:Nat)(G:Gx)(c n:Nat)(x:Str)(ps:List Str)(g:Mt):Prop where
 ex:∃f fd,FnOk P w K mg base Jb k f fd ps (Mm G c (List.replicate n false) g)/\Mk K (G.ct (c+1)).1 f/\Binds K fd ps []
 mg:mg x=some (.ref (G.ct (c+1)).1)
section
variable{K:Ww}
theorem MtAt.at{m:Me}(h:MtAt P w K mg base k G c x ps mv g):MtAt P w K mg base k (G.at m) c x ps mv g:=⟨h.ex,h.cl,h.no⟩
theorem InAt.at{P:Re}{w:XAA}{mg:Wp}{base:UV}{k c n:Nat}{G:Gx}{x:Str}{ps:List Str}{g:Mt}{m:Me}(h:InAt P w K mg base k G c n x ps g):InAt P w K mg base k (G.at m) c n x ps g:=⟨h.ex,h.mg⟩
def lJ{G:Gx}(F:Ir K x b d f m)(q:Meth K (G.ct (c+1)).1 x f)(r:JT K (G.ct (c+1)).1)(v:∀k,(G.ct (c+1)).2 k≠x)(S:p0 N ps (ah d))(o:ps.length=j)(p:N.length=l)(u:∀(kV doc pm:On)(an:Option KM)(h ct:On)(i:W7),i.length=ps.length->bindArgs (PySem.W.fnOf x b (cK d) (aY d) (ah d) .none kV doc pm an h ct) ⟨i,[]⟩=pure (ps.zip i))(t:∀(a:KM)(h:On)(A:SB)(outer:List PySem.Env)(s:IR)(H:Hp)(E:XK),xh k (A.deeper (envOfC b (ah d) s.heap.objs.size f h))->jh (G.at (Ln a)) (jP Jb P w K mg base N b (ah d) f h A outer s H E).Lz (aY d) e) :
  MtAt P w K mg base (k+1) G c x ps mv (Ka c j l mv e):=⟨⟨f,m,fnM F S o p t,q,F.binds u⟩,r,v⟩
def DR{G:Gx}(F:Ir K y b d f m)(q:Mk K (G.ct (c+1)).1 f)(r:mg x=Z (.ref (G.ct (c+1)).1))(S:p0 N ps (ah d))(o:ps.length=j)(p:N.length=l)(u:∀(kV doc pm:On)(an:Option KM)(h ct:On)(i:W7),i.length=ps.length->bindArgs (PySem.W.fnOf y b (cK d) (aY d) (ah d) .none kV doc pm an h ct) ⟨i,[]⟩=pure (ps.zip i))(t:∀(a:KM)(h:On)(A:SB)(outer:List PySem.Env)(s:IR)(H:Hp)(E:XK),xh k (A.deeper (envOfC b (ah d) s.heap.objs.size f h))->jh (G.at (Ln a)) (jP Jb P w K mg base N b (ah d) f h A outer s H E).Lz (aY d) e) :
  InAt P w K mg base (k+1) G c n x ps (Ka c j l (List.replicate n L) e):=⟨⟨f,m,fnM F S o p t,q,F.binds u⟩,r⟩
def Cy{G:Gx}(F:My K y d e f q)(u:Mk K (G.ct (c+1)).1 f)(v:mg x=Z (.ref (G.ct (c+1)).1))(S:p0 N ps (ah e))(r:ps.length=m)(t:N.length=p)(C:∀(s:IR)(T:KM)(kV doc pm:On)(an:Option KM)(i ct:On)(o:Obj)(n:Nat)(j:W7),K.In s.heap->K.lookup T=Z o->o.data=.seq #[.none] n->j.length=ps.length->BindsTo s (PySem.W.fnOf y d (cK e) (aY e) (ah e) (.ref T) kV doc pm an i ct) ⟨j,[]⟩ (ps.zip j))(z:∀(a:KM)(i:On)(A:SB)(outer:List PySem.Env)(s:IR)(H:Hp)(E:XK),xh k (A.deeper (envOfC d (ah e) s.heap.objs.size f i))->jh (G.at (Ln a)) (jP Jb P w K mg base N d (ah e) f i A outer s H E).Lz (aY e) h) :
  InAt P w K mg base (k+1) G c n x ps (Ka c m p (List.replicate n L) h):=⟨⟨f,q,Gv (λl b=>F.ok S l b) r t z,u,F.binds C⟩,v⟩
def nO{G:Gx}(F:Ir K x a b f l)(p:Meth K (G.ct (c+1)).1 x f)(q:JT K (G.ct (c+1)).1)(u:∀k,(G.ct (c+1)).2 k≠x)(S:p0 N ps (ah b))(m:ps.length=i)(o:N.length=j)(t:∀(kV doc pm:On)(an:Option KM)(e ct:On)(h:W7),h.length=ps.length->bindArgs (PySem.W.fnOf x a (cK b) (aY b) (ah b) .none kV doc pm an e ct) ⟨h,[]⟩=pure (ps.zip h))(r:∀(e:On)(A:SB)(outer:List PySem.Env)(s:IR)(H:Hp)(E:XK),xh k (A.deeper (envOfC a (ah b) s.heap.objs.size f e))->jh G (jP Jb P w K mg base N a (ah b) f e A outer s H E).Lz (aY b) d) :
  MpAt P w K mg base (k+1) G c x ps (fn i j d):=⟨⟨f,l,T2 F S m o r,p,F.binds t⟩,q,u⟩
def Bd{G:Gx}{k:Nat}{g:Fn}(i:G.K=K)(F:FnOk P w K mg base Jb k f b [y] (KI G g))(e:∀ns:Ur,g [.scr ns]=Z (.fr,.bl B)) :
  FnOk P w K mg base Jb k f b [y] (KI (TZ K) BA):=F.imp λo H Q E h=>by
 obtain⟨p,s,m,r,j,a,q⟩:=h;unfold BA at a;split at a
 ·rename_i ns;cases a;cases j with
  |cons r1 r2 =>
   cases r2;cases r1 with
   |scr d=>exact⟨[.scr ns],[[]],.fr,.bl B,.cons (.scr (by rw[i];exact d)) .nil,e ns,λv l F e1 r f1=>q v l F e1 (by cases r;exact .bl _) f1⟩
 ·cases a
end
section
def ij{X:Cx}(J:jF G)(F:MtAt X.prog X.w X.K X.mg X.base k G c m ps mv g)(r:xh k' X.A)(t:k<=k')(s:LV G X o i way)(u:Jj G X (e :: es) cs)(C:{`q8,K1 e es X})(a:{`q8,K2 pos es X})(q:{`q8,eval (.Call (.Attribute o m apos) (e :: es) [] pos) X.env=(do
   let d ← eval o X.env
   standAt apos.atName
   let (f,first) ← holding [d] (getMethod d m l)
   callWith pos f first (backTo pos (Pv (e :: es) X.env)) (backToKw pos (SL [] X.env)))}):PX G X (.Call (.Attribute o m apos) (e :: es) [] pos) (bG i way c mv g cs):=by
 obtain⟨f,fd,z,y,v⟩:=F.ex;exact AN J F.no s F.cl y z r t v u C a q
def zw{X:Cx}(J:jF G)(F:MtAt X.prog X.w X.K X.mg X.base k G c m ps mv g)(q:xh k' X.A)(s:k<=k')(r:LV G X o i way)(l:eval (.Call (.Attribute o m apos) [] [] pos) X.env=(do
   let a ← eval o X.env
   standAt apos.atName
   let (f,first) ← holding [a] (getMethod a m d)
   callWith pos f first (backTo pos (Pv [] X.env)) (backToKw pos (SL [] X.env)))):PX G X (.Call (.Attribute o m apos) [] [] pos) (bG i way c mv g aj):=by
 obtain⟨f,fd,v,u,t⟩:=F.ex;exact zG J F.no r F.cl u v q s t l
def DB{X:Cx}(F:MtAt X.prog X.w X.K X.mg X.base k G c m ps mv g)(t:xh k' X.A)(u:k<=k')(z:X.N[i]?=Z x)(r:KG X.env.scope x)(v:K3 x)(d:K4 x)(H:PX G X e xc)(y:Jj G X es cs)(M:K1 e es X)(a:K2 pos es X)(s:eval (.Call (.Attribute (.Name x p1) m apos) (e :: es) [] pos) X.env=(do
   let l ← eval (.Name x p1) X.env
   standAt apos.atName
   let (f,first) ← holding [l] (getMethod l m q)
   callWith pos f first (backTo pos (Pv (e :: es) X.env)) (backToKw pos (SL [] X.env)))):PX G X (.Call (.Attribute (.Name x p1) m apos) (e :: es) [] pos) (pC i c mv g xc cs):=by
 obtain⟨f,fd,E,D,C⟩:=F.ex;exact BH F.no z r v d F.cl D E t u C H y M a s
def Bh{X:Cx}(F:MpAt X.prog X.w X.K X.mg X.base k G c m ps h)(r:xh k' X.A)(t:k<=k')(s:PV G X o ca)(u:Jj G X (e :: es) cs)(C:K1 e es X)(a:K2 pos es X)(q:eval (.Call (.Attribute o m apos) (e :: es) [] pos) X.env=(do
   let d ← eval o X.env
   standAt apos.atName
   let (f,first) ← holding [d] (getMethod d m l)
   callWith pos f first (backTo pos (Pv (e :: es) X.env)) (backToKw pos (SL [] X.env)))):PV G X (.Call (.Attribute o m apos) (e :: es) [] pos) (dI c h ca cs):=by
 obtain⟨f,fd,z,y,v⟩:=F.ex;exact Fh F.no s F.cl y z r t v u C a q
def g8{X:Cx}(F:MpAt X.prog X.w X.K X.mg X.base k G c m ps h)(q:xh k' X.A)(s:k<=k')(r:PV G X o ca)(l:eval (.Call (.Attribute o m apos) [] [] pos) X.env=(do
   let a ← eval o X.env
   standAt apos.atName
   let (f,first) ← holding [a] (getMethod a m d)
   callWith pos f first (backTo pos (Pv [] X.env)) (backToKw pos (SL [] X.env)))):PV G X (.Call (.Attribute o m apos) [] [] pos) (dI c h ca aj):=by
 obtain⟨f,fd,v,u,t⟩:=F.ex;exact BY F.no r F.cl u v q s t l
def GK{e:Ex}:∀(U:VS.Env)(d:Uo),ae e aj U=Z d->d.length=1:=λU d h=>by
 obtain⟨a,_,h⟩:=Zz.mp h;cases h;rfl
def EO{X:Cx}(F:InAt X.prog X.w X.K X.mg X.base k G c n x ps g)(l:xh k' X.A)(r:k+1<=k')(t:Jj G X (e :: es) cs)(q:∀U d,cs U=Z d->d.length=n)(s:Gl X x)(z:K3 x)(he:K1 e es X)(a:K2 pos es X):PV G X (.Call (.Name x p) (e :: es) [] pos) (eNew c g cs):=by
 obtain⟨f,fd,y,v,u⟩:=F.ex;exact Ht n v y l r s F.mg u t q z he a
def Bo{X:Cx}(F:InAt X.prog X.w X.K X.mg X.base k G c 0 x ps g)(a:xh k' X.A)(d:k+1<=k')(l:Gl X x)(t:K3 x):PV G X (.Call (.Name x p) [] [] pos) (eNew c g aj):=by
 obtain⟨f,fd,s,r,q⟩:=F.ex;exact Dm r s a d l F.mg q t
def qj{apos pos:Pos}(J:jF G)(d:LV G X o i way)(q:Jj G X [e] cs)(s:{`q8,X.K=G.K})(y:{`q8,XAB o "append" X.env (eval o X.env)=eval o X.env})(C:{`q8,((backTo pe (Pv [e] X.env)).all (λx=>!x.1)&&(backToKw pe (SL [] X.env)).all (λx=>x.1.isSome)
   && decide ([e].length+([]:List Keyword).length+(if ([]:List Keyword).isEmpty then 0 else 1)<30))=B})(A:{`q8,(apos.endLine==pe.line)=B})(a:{`q8,K1 e [] X})(w:{`q8,(backTo pe (Pv [] X.env)).any (·.1)=L})(u:{`q8,swapsWith (.Call (.Attribute o "append" apos) [e] [] pe) none pos.line X.env=pure L}) :
  PSV G X (.Expr (.Call (.Attribute o "append" apos) [e] [] pe) pos) (sX (iE i way aC cs)) :=
 xQ J Xv XU XW fu jB (λH v t F l z r h=>gy r h) d q s y C A a w u
end
inductive Ia where | io (i:Nat) (un:Bool) | ex (c:Ex)
abbrev Xt:=VS.Env->Option (Bool×VS.Env)
end VS
end
section
namespace VS
open PySem PySem.Spec PyProof.Rows L2
def x2(f:Val->Val->Um)(a b:Xx):Xx:=λU=>(a U).bind λz=>(b z.2).bind λw=>(f (.fr,z.1.2) (.fr,w.1.2)).bind λv=>if Iw z.1.2=B/\Iw w.1.2=B/\Iw v.2=B then Z ((.fr,v.2),w.2) else J
inductive Ix where | io (i:Nat) (un:Bool) | px (x:Xx)
end VS
end
section
namespace VS
open PySem PySem.Spec PyProof.Rows L2
def U5:T->Bool
 |.tup l=>l.all VZ
 |t=>VZ t
end VS
end
section
namespace VS
open PySem PySem.Spec PyProof.Rows L2
noncomputable def e3(f:Val->Val->Val->Um)(a b c:Ex):Ex:=λU=>(a U).bind λx=>(b U).bind λy=>(c U).bind λz=>f x y z
end VS
end
section
namespace VS
open PySem PySem.Spec PyProof.Rows L2
def t2:T->Bool
 |.lst l=>l.all U5
 |t=>U5 t
end VS
end
section
namespace VS
open PySem PySem.Spec PyProof.Rows L2
section
noncomputable def ny(j i:Nat)(U:VS.Env):Option Out:=match U[i]? with
 |some (some (.ow (.dct 2 l)))=>if j<U.length/\j≠i then Z (.nx ((U.set i J).set j (Z (.pu (.lst (l.map (·.2))))))) else J
 |_=>J
def wB{X:Cx}{Ks:Pos}(jj i:Nat)(N:List Str)(hr:xh kr X.A)(IL:X.calm=B)(hN:X.N[i]?=Z x)(hv:KG X.env.scope x)(hd:K3 x)(hcd:K4 x)(KQ:∀cl C s H fp,PG (bS X N sc cl C s H fp) (.Name y p3) (zB 0)/\PE (bS X N sc cl C s H fp) (.Name x p1) (CC (i+1))/\PE (bS X N sc cl C s H fp) (.Name y p2) (CC 0)/\(bS X N sc cl C s H fp).A.units=X.A.units)(hix:jt (.Name y p2))(KL:oM X.env sc=B)(LI:oJ sc (N.drop 1) X.N=B)(LM:1<=N.length)(hs:∀z,XAC (.Name x p4) X.env z=pure z)(hNd:X.N.Nodup)(hjN:X.N[jj]?=Z F)(hx:Loc X.env.scope F)(JW:swapsWith (.ListComp (.Subscript (.Name x p1) (.Name y p2) p) [⟨.Name y p3,.Name x p4,[],0⟩] sc pos) (Z (.Name F pos')) Ks.line X.env=pure B)(hf:X.fn F=B\/X.env.scope.names.lookup F=Z .local) :
  PSV G X (.Assign [.Name F pos'] (.ListComp (.Subscript (.Name x p1) (.Name y p2) p) [⟨.Name y p3,.Name x p4,[],0⟩] sc pos) Ks) (ny jj i) :=
 PS.weak (om (k:=1) hNd hjN hx IL (FS (dk hN hv hd hcd)) KL LI LM (λcl C s H fp=>⟨(KQ cl C s H fp).1,nk,tD (t5 (by have:=hr.un;rw[(KQ cl C s H fp).2.2.2];lia)) (KQ cl C s H fp).2.1 (KQ cl C s H fp).2.2.1 hix⟩) JW hf hs) λD O H u=>by
  obtain⟨R,U,out,s,e,k⟩:=u;refine L2.ai λP_ k_=>?_;unfold ny at e;split at e
  ·rename_i l E;split at e
   rotate_left
   ·cases e
   rename_i hji;cases e;obtain⟨v,g1,g2⟩:=s.rp _ _ E;have LB:=s.nd i _ E;obtain⟨a,ns,d,ts,Fs,rfl,Q,ha,KO,ML,el,ra⟩:=q9 g2;subst el;rw[Q]at LB;have nd:=Zc.mp LB;refine k_ ?_;refine⟨.ref a,g1,a,JD ns d,rfl,ha,λo hz Tj g M=>?_⟩;have mu:Il (H a):=by rw[ha];exact True.intro
   have aD:g≠a:=λz=>by rw[z,ar]at M;cases M
   have HD:H g=J:=by rw[aw aD]at M;exact M
   have kp:∀P,Kept H (upd (upd H a (.frz o (DN a (JD ns d)))) g (.lst P)):=λP=>(Kept.upd (.inl mu)).trans (Kept.upd (.inr M));refine⟨λj m O' H'=>m+j=(JD ns d).length/\(∃c,O'=c :: O)/\H'=upd (upd H a (.frz o (DN a (JD ns d)))) g (.lst (((JD ns d).take j).map (·.2.2))),⟨(JD ns d).length,rfl,⟨J,rfl⟩,rfl⟩,?_⟩;rintro j m O' H' ⟨hm,⟨c,rfl⟩,rfl⟩;have Tz:∀P,upd (upd H a (.frz o (DN a (JD ns d)))) g (.lst P) a=Z (.frz o (DN a (JD ns d))):=λP=>by rw[aw (YN aD),ar]
   by_cases hj:j<(JD ns d).length
   ·refine .inr ⟨⟨Tz _,hj⟩,?_⟩;rintro x' H2 ⟨rfl,q,u,rfl⟩;refine⟨.ref a,?_,.ref q.2.1,?_,a,o,JD ns d,q.1,q.2.1,q.2.2,rfl,rfl,Tz _,λr hr=>(nJ ML r hr).mono (kp _).tup,(nJ ML q (Yb u)).mono (kp _).tup,Dj Tj u,?_⟩
    ·show (O:L2.St)[i]?=_;exact g1
    ·rfl
    ·refine⟨_,ar,?_,m-1,by omega,by lia,⟨_,rfl⟩,?_⟩
     ·rw[Zu,Yp];lia
     ·rw[vi,List.take_add_one,u,Yz];rfl
   ·refine .inl ⟨⟨Tz _,by exact ZJ hj⟩,?_⟩;rw[(Yq (by exact ZJ hj))];have ev:(JD ns d).map (·.2.2)=d:=by
     rw[Z7];exact WY (Y9 KO.symm)
    rw[ev];have nF:∀b∈Fs.flatten,b≠a/\b≠g:=λb hb=>⟨λz=>nd.1 (z ▸ hb),λz=>Il.xa (ra.Iu b hb) (z ▸ HD)⟩
    have Da:∀b,H b≠J->b≠g:=λb h z=>h (z ▸ HD);have sub:∀b,bX R (U.set i J) b->bX R U b/\b≠a:=λb ⟨j,t,f,w⟩=>⟨⟨j,t,(bg f).2,w⟩,λz=>by
     subst z;exact s.sep i j _ _ E (bg f).2 (bg f).1.symm b (by rw[Q];exact Zy) w⟩
    have Ox:∀b,dG R (U.set i J) b->dG R U b/\b≠a:=λb ⟨j,t,f,w⟩=>⟨⟨j,t,(bg f).2,w⟩,λz=>by
     subst z;exact s.sep i j _ _ E (bg f).2 (bg f).1.symm b (by rw[Q];exact Zy) w⟩
    have S:∀b,bX R U b->H b≠J:=λb u=>by
     obtain⟨j,t,f,w⟩:=u;obtain⟨v',_,r'⟩:=s.rp _ _ f;exact Il.xa (r'.Iu b w)
    have dmp:∀b,dG R U b->H b≠J:=λb u=>by
     obtain⟨j,t,f,w⟩:=u;obtain⟨v',_,r'⟩:=s.rp _ _ f;exact Il.xa (r'.Iu b w)
    rw[(WY (by rw[Zu,KO,ra.len.1];exact Zn _))]at k;have Fb:∀b∈g :: Fs.flatten,H b=J\/(b∈R i/\b≠a):=λb hb=>(Zh.mp hb).elim (λe=>.inl (e ▸ HD)) λhb=>.inr ⟨by rw[Q];exact Zw _ hb,(nF b hb).1⟩;have s0:SR G R (U.set i J) O (upd (upd H a (.frz o (DN a (JD ns d)))) g (.lst d)):=SR.off (SR.off (s.drop i) (.inl mu) (λz=>(Ox a z).2 Y) λz=>(sub a z).2 Y) (.inr M) (λz=>dmp _ (Ox _ z).1 HD) λz=>S _ (sub _ z).1 HD;refine k (iJ R jj (g :: Fs.flatten)) (O.set jj (Z (.ref g))) _ (s0.put (c:=.pu (.lst ts)) (by rw[Ys];exact hji.1) (.lst ar (ra.keep (kp _) λb hb ob h=>?_)) (λ_ _ _ _ _ q=>q) (λ_ e=>nomatch e) (λ_ e=>nomatch e) λk t n hk b hb hF=>?_)
     ⟨λb ob h n=>⟨?_,λz=>?_⟩,λb h=>?_,λb z=>?_,λb z=>?_,kp _⟩
    ·rw[aw (nF b hb).2,aw (nF b hb).1];exact h
    ·rcases Fb b hF with z | ⟨z,_⟩
     ·exact S b (sub b ⟨k,t,hk,hb⟩).1 z
     ·exact s.sep i k _ _ E (bg hk).2 (bg hk).1.symm b z hb
    ·have f:b≠a:=λz=>n (z ▸ (⟨i,_,E,by rw[Q];exact Zy⟩));rw[aw (Da b (by rw[h];simp)),aw f];exact h
    ·rcases jN z with⟨_,e,_⟩ | z
     ·cases e
     ·exact n (sub b z).1
    ·rw[aw (Da b h)];by_cases z:b=a
     ·rw[z,ar];simp
     ·rw[aw z];exact h
    ·rcases jN z with⟨_,e,_⟩ | z
     ·cases e
     ·exact .inl (sub b z).1
    ·rcases pQ z with⟨_,_,hb⟩ | z
     ·rcases Fb b hb with q | ⟨q,_⟩
      ·exact .inr (.inr q)
      ·exact .inr (.inl ⟨i,_,E,q⟩)
     ·exact .inl (Ox b z).1
  ·cases e
end
section
noncomputable def Dh(i:Nat)(U:VS.Env):Option Out:=match U[i]? with
 |some (some (.ow (.lst _)))=>Z (.nx (U.set i (Z (.ow (.lst [])))))
 |_=>J
def Au{X:Cx}{apos pe pos:Pos}(i:Nat)(A:X.N[i]?=Z x)(u:KG X.env.scope x)(y:K3 x)(d:K4 x)(P:XAB (.Name x p1) "clear" X.env (eval (.Name x p1) X.env)=eval (.Name x p1) X.env)(Q:(apos.endLine==pe.line)=B)(M:swapsWith (.Call (.Attribute (.Name x p1) "clear" apos) [] [] pe) J pos.line X.env=pure L) :
  PSV G X (.Expr (.Call (.Attribute (.Name x p1) "clear" apos) [] [] pe) pos) (Dh i) :=
 PS.weak (fY (Em Xv PySem.F.slot_list_clear PySem.F.type_list_clear x9 (dk A u y d) P Q) M) λD O H w=>by
  obtain⟨R,U,o,s,e,k⟩:=w;unfold Dh at e;split at e
  ·rename_i l m;cases e;obtain⟨v,p,C⟩:=s.rp _ _ m;obtain⟨a,j,Fs,rfl,E,f,_⟩:=C.lst_inv;have t:Il (H a):=by rw[f];exact True.intro
   have am:a∈R i:=by rw[E];exact Zy
   have g:Chg G H (.ref a) (R i) (.lst []) (upd H a (.lst [])) [a]:=⟨Kept.upd (.inl t),λb o n h=>by rw[aw (λz:b=a=>n (by rw[z];exact am))];exact h,λb h=>by
    by_cases z:b=a
    ·rw[z,ar];simp
    ·rw[aw z];exact h,.lst (Fs:=[]) ar .nil,by simp,λb hb=>.inl (by rw[Zl.mp hb];exact am)⟩
   obtain⟨r,q⟩:=s.mut m p g;exact⟨.ref a,p,.inl ⟨rfl,j,.inl (.inl f)⟩,a,j,rfl,rfl,f,k _ _ _ r q⟩
  ·cases e
end
end VS
end
section
namespace T06
open VS
def aO:Mt:=Ka 0 4 4 [L,L,B]
  (ak (sX (iE 0 [.fld 1] aC (ae (aa 1) aj)))
  (ak (sX (iE 0 [.fld 2] aC (ae (aa 2) aj)))
  (ak (ql 0 [.fld 3] 3)
  (eA (e2 qu (eN dY (ae (bj 1 (aa 0)) aj)) (Q3 1))))))
def cZ:Mt:=Ka 0 1 1 (List.replicate 0 L)
  (ak (jJ 0 1 (gF aj))
  (ak (jJ 0 2 (gF aj))
  (ak (jJ 0 3 (gF aj))
  (RD (bG 0 [] 0 [L,L,B] aO (ae (Q3 0) (ae (eC .non) (ae (l9 0 []) aj))))))))
def cJ:Sx :=
  (ak (fA 0 [.fld 3,.ix (aa 1)] (aa 2) (aa 5))
  (aT 1 (e2 aH (bj 2 (aa 0)) (aa 1))))
def aA:Mt:=Ka 0 3 6 [L,L]
  (ak (aT 3 (e2 J9 (e2 aH (bj 3 (aa 0)) (aa 1)) (aa 2)))
  (ak (aT 4 (e2 dH (e2 aH (bj 1 (aa 0)) (aa 1)) (Q3 1)))
  (ak (JB (e2 oEq (e2 aH (bj 1 (aa 0)) (aa 3)) (aa 4)) (ji 3) eX)
  (ak (lV 5 (bG 0 [] 0 [L,L,B] aO (ae (aa 4) (ae (e2 aH (bj 2 (aa 0)) (aa 3)) (ae (eN nQ (ae (e2 aH (bj 3 (aa 0)) (aa 3)) aj)) aj)))))
  (ak (fA 0 [.fld 2] (aa 3) (aa 5))
  (ak (nz (ie (gS (aa 1)) (e2 oEq (e2 vV (e2 aH (bj 3 (aa 0)) (aa 1)) (aa 2)) (aa 3))) cJ)
  (ji 5)))))))
def cx:Sx :=
  (ak (fA 0 [.fld 3,.ix (aa 4)] (aa 2) (aa 3))
  (aT 4 (e2 aH (bj 2 (aa 0)) (aa 4))))
def bF:Mt:=Ka 0 3 5 [L,L]
  (ak (JB (e2 ma (aa 2) (e2 aH (bj 3 (aa 0)) (aa 1))) (sR (bG 0 [] 0 [L,L] aA (ae (aa 1) (ae (aa 2) aj)))) eX)
  (ak (lV 3 (bG 0 [] 0 [L,L,B] aO (ae (e2 dH (e2 aH (bj 1 (aa 0)) (aa 1)) (Q3 1)) (ae (Q3 0) (ae (l9 0 []) aj)))))
  (ak (aT 4 (aa 1))
  (ak (nz (ie (gS (aa 4)) (e2 dy (aa 2) (e2 aH (bj 3 (aa 0)) (aa 4)))) cx)
  (ak (JB (gS (aa 4)) (nA 0 [.fld 2] (aa 3) (bG 0 [] 0 [L,L] aA (ae (aa 4) (ae (aa 2) aj)))) eX)
  (ji 3))))))
def cG:Sx :=
  (lV 1 (bG 0 [] 0 [L,L] bF (ae (aa 1) (ae (aa 3) aj))))
def aU:Mt:=Ka 0 3 4 [L,L]
  (ak (iI (bK 3) (h9 (aa 2)) cG)
  (ji 1))
def cT:Sx :=
  (JB (e2 dy (e2 J9 (aa 4) (aa 5)) (aa 1)) (ak (mV 1 (e2 J9 (aa 4) (aa 5)) (eN dY (ae (aa 2) aj)))
  (sX (mh 2 [] aC (ae (e2 J9 (aa 4) (aa 5)) aj)))) eX)
def cR:Sx :=
  (ak (aT 4 (e2 aH (bj 3 (aa 0)) (e2 aH (aa 2) (aa 3))))
  (ak (iI (bK 5) (h9 (eN gK (ae (aa 4) aj))) cT)
  (aT 3 (e2 dH (aa 3) (Q3 1)))))
def aL:Fn:=fn 1 6
  (ak (kH 1 (l9 0 [((Q3 0),(Q3 0))]))
  (ak (kH 2 (gF (ae (Q3 0) aj)))
  (ak (aT 3 (Q3 0))
  (ak (nz (e2 oLt (aa 3) (eN dY (ae (aa 2) aj))) cR)
  (ak (sO 2)
  (ji 1))))))
def bL:Fn:=fn 3 6
  (ak (aT 3 (e2 aH (bj 2 (aa 0)) (aa 1)))
  (ak (aT 4 (e2 aH (bj 3 (aa 0)) (aa 1)))
  (ak (aT 5 (eN iy (ae (eQ 1 (bK 0) (h9 (eN gK (ae (aa 4) aj))) J (kP (ae (aa 0) (ae (e2 sT (aa 3) (e2 J9 (aa 5) (aa 0))) aj)))) aj)))
  (ak (JB (Ha (aa 3)) (eA (kP (ae (Q3 0) (ae (Q3 0) (ae (eC .non) (ae (aa 5) aj)))))) eX)
  (eA (kP (ae (e2 dH (e2 aH (bj 1 (aa 0)) (aa 3)) (Q3 1)) (ae (e2 aH (bj 1 (aa 0)) (aa 1)) (ae (e2 sT (aa 2) (aa 3)) (ae (aa 5) aj))))))))))
def dv:Fn:=fn 1 2
  (ak (kH 1 (dI 0 aL (aa 0) aj))
  (zx 1 (bK 0) (dI 0 bL (aa 1) (ae (aa 0) (ae (aa 2) aj)))))
def aV:Mt:=Ka 1 1 1 []
  (ak (JB (e2 RM (eN dY (ae (bj 4 (aa 0)) aj)) (Q3 8)) RE eX)
  (ak (sX (iE 0 [.fld 4] aC (ae (eC (.str [])) aj)))
  (ak (sX (iE 0 [.fld 5] aC (ae (Q3 0) aj)))
  (eA (e2 qu (eN dY (ae (bj 4 (aa 0)) aj)) (Q3 1))))))
def jT:Fn:=fn 1 1
  (eA (ie (MM .int (aa 0)) (iq (MM .bool (aa 0)))))
def bx:Fn:=fn 2 2
  (JB (Mc (iq (bR jT (ae (aa 1) aj))) (iq (pK oLe oLt (Q3 0) (aa 1) (eN dY (ae (aa 0) aj))))) RE eX)
def iD:Fn:=fn 1 1
  (eA (eN BJ (ae (eQ 1 (bK 0) (h9 (aa 0)) J (eN dY (ae (aa 0) aj))) aj)))
def aS:Mt:=Ka 1 3 3 [L,L]
  (ak (sX (xP (bR bx (ae (bj 4 (aa 0)) (ae (aa 1) aj)))))
  (ak (JB (e2 RL (e2 dH (bR iD (ae (bj 4 (aa 0)) aj)) (eN dY (ae (aa 2) aj))) (Q3 120)) RE eX)
  (ak (nA 0 [.fld 5] (aa 1) (bG 0 [.fld 6] 0 [L,L] aU (ae (e2 aH (bj 5 (aa 0)) (aa 1)) (ae (aa 2) aj))))
  (fA 0 [.fld 4] (aa 1) (e2 dH (e2 aH (bj 4 (aa 0)) (aa 1)) (aa 2))))))
def bQ:Sx :=
  (RD (pC 0 1 [L,L] aS (bG 0 [] 1 [] aV aj) (ae (aa 2) aj)))
def bB:Mt:=Ka 1 2 3 (List.replicate 1 L)
  (ak (jJ 0 4 (gF aj))
  (ak (jJ 0 5 (gF aj))
  (ak (jJ 0 6 (eNew 0 cZ aj))
  (JB (gS (aa 1)) (iI (bK 2) (h9 (aa 1)) bQ) eX))))
def cV:Fn:=fn 1 1
  (eA (eN lN (ae (bj 4 (aa 0)) aj)))
def cB:Fn:=fn 1 1
  (eA (dI 0 dv (bj 6 (aa 0)) aj))
def bq:Fn:=fn 2 2
  (ak (JB (e2 oLt (aa 1) (eN dY (ae (aa 0) aj))) (eA (e2 aH (aa 0) (aa 1))) eX)
  (eA (Q3 0)))
def eR:Fn:=fn 2 3
  (ak (aT 2 (e2 oMod (e2 dH (e2 dH (e2 oMod (aa 0) (Q3 2147483629)) (e2 oE (Q3 48271) (aa 1))) (Q3 11)) (Q3 2147483629)))
  (ak (aT 2 (e2 dH (e2 oMod (e2 oE (aa 2) (aa 2)) (Q3 2147483629)) (e2 oE (Q3 7919) (aa 1))))
  (eA (e2 oMod (e2 oE (aa 2) (aa 2)) (Q3 2147483587)))))
def gC:Sx :=
  (JB (e2 oEq (e2 oMod (bR bq (ae (aa 0) (ae (Q3 0) aj))) (Q3 2)) (Q3 0)) (ak (sX (mh 6 [] aC (ae (e2 aH (aa 1) (e2 oMod (aa 4) (eN dY (ae (aa 1) aj)))) aj)))
  (aT 4 (e2 cA (aa 4) (eN dY (ae (aa 1) aj))))) (sX (mh 6 [] aC (ae (e2 aH (aa 1) (e2 oMod (e2 cA (bR eR (ae (aa 4) (ae (e2 dH (e2 oE (Q3 30) (aa 3)) (aa 7)) aj))) (Q3 7)) (eN dY (ae (aa 1) aj)))) aj))))
def dC:Fn:=fn 4 8
  (ak (aT 4 (bR bq (ae (aa 0) (ae (e2 dH (Q3 1) (aa 3)) aj))))
  (ak (aT 5 (e2 oMod (aa 4) (e2 dH (aa 2) (Q3 1))))
  (ak (aT 4 (e2 cA (aa 4) (e2 dH (aa 2) (Q3 1))))
  (ak (kH 6 (gF aj))
  (ak (iI (bK 7) (fj (aa 5)) gC)
  (ak (sO 6)
  (eA (eM ng (eC (.str [])) (ae (aa 6) aj)))))))))
def ip:Fn:=fn 1 5
  (ak (aT 1 (bR bq (ae (aa 0) (ae (Q3 0) aj))))
  (ak (aT 2 (e2 aH (gF (ae (eC (.str [97,98])) (ae (eC (.str [97,98,99])) (ae (eC (.str [97,98,99,100])) (ae (eC (.str [97,122])) (ae (eC (.str [97])) (ae (eC (.str [97,98,99,100,101,102,103,104,105,106,107,108,109,110,111,112,113,114,115,116,117,118,119,120,121,122])) aj))))))) (e2 oMod (e2 cA (aa 1) (Q3 2)) (Q3 6))))
  (ak (aT 3 (e2 aH (gF (ae (Q3 1) (ae (Q3 2) (ae (Q3 3) (ae (Q3 4) (ae (Q3 2) (ae (Q3 1) (ae (Q3 0) (ae (Q3 8) aj))))))))) (e2 oMod (e2 cA (aa 1) (Q3 12)) (Q3 8))))
  (ak (aT 4 (e2 aH (gF (ae (Q3 24) (ae (Q3 12) (ae (Q3 8) (ae (Q3 6) aj))))) (e2 qu (eN qV (ae (aa 3) (ae (Q3 4) aj))) (Q3 1))))
  (ak (JB (e2 oEq (e2 oMod (e2 cA (aa 1) (Q3 96)) (Q3 8)) (Q3 5)) (aT 4 (e2 cA (e2 aH (gF (ae (Q3 60) (ae (Q3 120) aj))) (e2 oMod (e2 cA (aa 1) (Q3 768)) (Q3 2))) (eN uQ (ae (Q3 1) (ae (aa 3) aj))))) eX)
  (ak (JB (ie (e2 oEq (aa 3) (Q3 8)) (e2 Ly (e2 oMod (e2 cA (aa 1) (Q3 96)) (Q3 8)) (Q3 5))) (aT 4 (Q3 3)) eX)
  (eA (eQ 1 (bK 0) (fj (aa 3)) J (bR dC (ae (aa 1) (ae (aa 3) (ae (aa 5) (ae (aa 0) aj)))))))))))))
def fI:Sx :=
  (jZ 1 (Se (aa 3) (Z (aa 5)) (Z (aa 4))) (ae (kP (ae (aa 2) (ae (aa 4) aj))) aj))
def jq:Sx :=
  (iI (bK 5) (fj (e2 dH (aa 4) (Q3 1))) fI)
def i7:Sx :=
  (iI (bK 4) (fj (e2 dH (eN dY (ae (aa 3) aj)) (Q3 1))) jq)
def gv:Fn:=fn 1 6
  (ak (kH 1 (l9 0 [((eC (.str [])),(gF aj))]))
  (ak (iI (sM [(bK 2),(bK 3)]) (zY (aa 0)) i7)
  (ji 1)))
def gp:Fn:=fn 1 1
  (eA (kP (ae (eN dY (ae (aa 0) aj)) (ae (aa 0) aj))))
def ko:Sx :=
  (ak (aT 4 (kP (ae (eN iy (ae (e2 J9 (aa 1) (aa 3)) aj)) (ae (e2 oEq (aa 3) (eC (.str []))) aj))))
  (i4 2 (aa 4) (ae (aa 3) aj)))
def ke:Sx :=
  (mV 6 (aa 3) (aa 7))
def j4:Sx :=
  (iI (bK 3) (h9 (aa 8)) ke)
def ik:Sx :=
  (ak (aT 10 (eC .non))
  (ak (JB (e2 Ly (e2 aH (aa 8) (Q3 0)) (eC (.str []))) (aT 10 (e2 J9 (aa 6) (Se (e2 aH (aa 8) (Q3 0)) (Z (Q3 1)) J))) eX)
  (ak (aT 11 (eQ 1 (bK 0) (h9 (eC (.str [97,98,99,100,101,102,103,104,105,106,107,108,109,110,111,112,113,114,115,116,117,118,119,120,121,122]))) (Z (e2 ma (e2 dH (e2 aH (aa 9) (Q3 0)) (aa 0)) (aa 2))) (aa 0)))
  (sX (mh 9 [] aC (ae (kP (ae (eN dY (ae (e2 aH (aa 8) (Q3 0)) aj)) (ae (eN dY (ae (e2 aH (aa 8) (Q3 (-1))) aj)) (ae (aa 10) (ae (eN iy (ae (eQ 1 (bK 0) (h9 (aa 11)) J (kP (ae (aa 0) (ae (e2 J9 (aa 7) (e2 dH (e2 aH (aa 9) (Q3 0)) (aa 0))) aj)))) aj)) aj))))) aj))))))
def jv:Fn:=fn 1 12
  (ak (aT 1 (bR gv (ae (aa 0) aj)))
  (ak (kH 2 (l9 2 []))
  (ak (iI (bK 3) (h9 (eN nU (ae (aa 1) aj))) ko)
  (ak (ny 5 2)
  (ak (kH 6 (l9 0 []))
  (ak (iI (sM [(bK 7),(bK 8)]) (zY (aa 5)) j4)
  (ak (sO 6)
  (ak (kH 9 (gF aj))
  (ak (iI (bK 8) (h9 (aa 5)) ik)
  (ji 9))))))))))
def dE:Fn:=fn 1 1
  (eA (ie (MM .int (aa 0)) (iq (MM .bool (aa 0)))))
def iP:Sx :=
  (JB (Mc (iq (MM .tuple (aa 2))) (Mc (iq (MM .str (e2 aH (aa 2) (Q3 0)))) (iq (bR dE (ae (e2 aH (aa 2) (Q3 1)) aj))))) (eA (eC (.bl L))) eX)
def iW:Sx :=
  (ak (JB (Mc (iq (MM .tuple (aa 1))) (Mc (iq (bR dE (ae (e2 aH (aa 1) (Q3 0)) aj))) (iq (bR dE (ae (e2 aH (aa 1) (Q3 1)) aj))))) (eA (eC (.bl L))) eX)
  (ak (JB (Mc (ie (gS (e2 aH (aa 1) (Q3 2))) (iq (bR dE (ae (e2 aH (aa 1) (Q3 2)) aj)))) (iq (MM .tuple (e2 aH (aa 1) (Q3 3))))) (eA (eC (.bl L))) eX)
  (iI (bK 2) (h9 (e2 aH (aa 1) (Q3 3))) iP)))
def gn:Fn:=fn 1 3
  (ak (iI (bK 1) (h9 (aa 0)) iW)
  (eA (eC (.bl B))))
def zz:Fn:=fn 1 7
  (ak (aT 1 (bR ip (ae (aa 0) aj)))
  (ak (kH 2 (eN lN (ae (aa 1) aj)))
  (ak (aT 3 (eNew 1 bB (ae (aa 2) aj)))
  (ak (aT 4 (bR jv (ae (aa 1) aj)))
  (ak (kH 5 (dI 1 cB (aa 3) aj))
  (ak (JB (Mc (iq (MM .list (aa 5))) (Mc (e2 Ly (aa 5) (aa 4)) (Mc (iq (bR gn (ae (aa 5) aj))) (e2 Ly (aa 2) (aa 1))))) (eA (eC (.bl L))) eX)
  (ak (Dh 5)
  (ak (sO 5)
  (ak (sX (mh 2 [] aC (ae (eC (.str [98])) aj)))
  (ak (sO 2)
  (ak (kH 6 (dI 1 cV (aa 3) aj))
  (ak (JB (Mc (iq (MM .list (aa 6))) (e2 Ly (aa 6) (aa 1))) (eA (eC (.bl L))) eX)
  (ak (sX (mh 6 [] aC (ae (eC (.str [97])) aj)))
  (ak (sO 6)
  (eA (ie (e2 oEq (dI 1 cB (aa 3) aj) (aa 4)) (e2 oEq (dI 1 cV (aa 3) aj) (aa 1))))))))))))))))))
def pH(t:Tx)(h:j5 t):gp [.str t]=Z (.fr,.tup [.int t.length,.str t]):=by
 have a:=h.1;simp[gp,fn,dY,Hc,oC];rw[Zr (by decide)];rfl
end T06
end
section
namespace AU
structure St where
 lg:Us
 lk:List (Option Nat)
 wy:List (List (Nat×Nat))
noncomputable def gW(w:List (Nat×Nat))(c:Nat):Option Nat:=(w.find? λp=>p.1==c).map (·.2)
noncomputable def pW(w:List (Nat×Nat))(c m:Nat):List (Nat×Nat):=if w.any (λp=>p.1==c) then w.map (λp=>if p.1==c then (p.1,m) else p) else w++[(c,m)]
structure WF(S:St):Prop where
 lk:S.lk.length=S.lg.length
 wy:S.wy.length=S.lg.length
 pos:0<S.lg.length
 up:∀i n,S.lk.getD i none=some n->n<S.lg.length
 on:∀i c n,gW (S.wy.getD i []) c=some n->n<S.lg.length
 nd:∀w∈S.wy,(w.map (·.1)).Nodup
 az:∀w∈S.wy,∀p∈w,97<=p.1/\p.1<=122
theorem sub_len{α:Type}[DecidableEq α]:∀(l r:List α),l.Nodup->(∀x∈l,x∈r)->l.length<=r.length
 |[],_,_,_=>ZE _
 |a :: l,r,nd,h=>by
  obtain⟨g,f⟩:=Zc.mp nd;have d:=h a Zy;have:=sub_len l (r.erase a) f λx b=>(List.mem_erase_of_ne (λe=>g (by rw[← e];exact b))).mpr (h x (Zw _ b));rw[List.length_erase_of_mem d]at this;have:=List.length_pos_of_mem d;rw[Zb];lia
def WF.small{S:St}(W:WF S)(i:Nat):(S.wy.getD i []).length<16777216:=by
 by_cases h:i<S.wy.length
 ·have a:S.wy.getD i []∈S.wy:=by
   rw[Zp,Zk h];exact Yo h
  have:=sub_len ((S.wy.getD i []).map (·.1)) (List.range 123) (W.nd _ a) λx b=>by
   obtain⟨p,d,rfl⟩:=Yv.mp b;have:=(W.az _ a p d).2;exact Ym.mpr (by exact Nat.lt_succ_of_le this)
  rw[Zu,Yx]at this;lia
 ·rw[Zp,Yr (ZJ h)];decide
def Ed(w:List (Nat×Nat))(c:Nat):(w.any λp=>p.1==c)=(gW w c).isSome:=by
 unfold gW;rw[Xu,Xo,XO,V2]
def CN(w:List (Nat×Nat))(c m d:Nat):gW (pW w c m) d=if d=c then Z m else gW w d:=by
 unfold pW;split
 ·rename_i h
  induction w with
  |nil=>simp at h
  |cons p w f =>
   rw[Zo];unfold gW;rw[Z3,Z3];by_cases q:p.1=c
   ·rw[Zr (by simpa using q)];by_cases r:p.1=d
    ·have:(p.1==d)=B:=by simpa using r
     simp only[this];rw[Zr (by rw[← r,q])];rfl
    ·have a:(p.1==d)=L:=by simpa using r
     have:d≠c:=λe=>r (by rw[e,q]);simp only[a,Zq this];have key:∀w:List (Nat×Nat),(w.map λp=>if p.1==c then (p.1,m) else p).find? (λp=>p.1==d)=w.find? λp=>p.1==d:=by
      intro w
      induction w with
      |nil=>rfl
      |cons x w f =>
       rw[Zo,Z3,Z3,f];by_cases y:x.1=c
       ·rw[Zr (by simpa using y)];have:(x.1==d)=L:=by simpa using λe=>this (by rw[← e,y])
        simp only[this]
       ·rw[Zq (by simpa using y)]
     rw[key w]
   ·rw[Zq (by simpa using q)];have b:=f (by
     rw[Xz]at h;simpa[q] using h)
    by_cases r:p.1=d
    ·have a:(p.1==d)=B:=by simpa using r
     simp only[a];rw[Zq (λe=>q (by rw[r,e]))]
    ·have a:(p.1==d)=L:=by simpa using r
     simp only[a];exact b
 ·rename_i h;unfold gW;rw[V3];by_cases q:d=c
  ·subst q;have:w.find? (λp=>p.1==d)=J:=by
    rw[List.find?_eq_none];intro p g e;exact h (XO.mpr ⟨p,g,e⟩)
   rw[this,Zr Y];simp
  ·rw[Zq q];have:((c==d)=L):=by simpa using λe=>q e.symm
   simp[this]
def Cq(w:List (Nat×Nat))(c m:Nat)(d:(w.map (·.1)).Nodup):((pW w c m).map (·.1)).Nodup:=by
 unfold pW;split
 ·rw[Z7];have:((λp:Nat×Nat=>p.1) ∘ λp=>if (p.1==c)=B then (p.1,m) else p)=λp=>p.1:=by
   funext p;simp only[Function.comp];split<;>rfl
  rw[this];exact d
 ·rename_i h;rw[Yz,ZC];refine⟨d,by simp,λa g b hb e=>?_⟩;have i:b=c:=by simpa using hb
  subst e i;obtain⟨p,f,e⟩:=Yv.mp g;exact h (XO.mpr ⟨p,f,by simpa using e⟩)
def Ea(h:p∈pW w c m):p.1=c\/p∈w:=by
 unfold pW at h;split at h
 ·obtain⟨q,a,rfl⟩:=Yv.mp h;by_cases r:(q.1==c)=B
  ·rw[Zr r];exact .inl (by simpa using r)
  ·rw[Zq r];exact .inr a
 ·rcases Zj.mp h with h | h
  ·exact .inr h
  ·rw[Zl.mp h];exact .inl Y
def fD{α:Type}(l:List α)(i j:Nat)(x d:α):(l.set i x).getD j d=if i=j/\i<l.length then x else l.getD j d:=by
 rw[Zp,Zp,V1];by_cases h:i=j
 ·subst h;by_cases a:i<l.length
  ·rw[Zr Y,Zr a,Zr ⟨rfl,a⟩];rfl
  ·rw[Zr Y,Zq a,Zq (λz=>a z.2),Yr (ZJ a)]
 ·rw[Zq h,Zq (λz=>h z.1)]
def bw{α:Type}(l:List α)(x d:α)(j:Nat):(l++[x]).getD j d=if j=l.length then x else l.getD j d:=by
 rw[Zp,Zp];by_cases h:j<l.length
 ·rw[Yw h,Zq (ZR h)]
 ·rw[Yy (ZJ h)];by_cases a:j=l.length
  ·rw[Zr a,a,Vv];rfl
  ·rw[Zq a,Yr (ZJ h),Yr (by simp;lia)]
def WF.way(W:WF S){n c v:Nat}(g:v<S.lg.length)(j:97<=c/\c<=122):WF ⟨S.lg,S.lk,S.wy.set n (pW (S.wy.getD n []) c v)⟩:=by
 refine⟨W.lk,by rw[Ys];exact W.wy,W.pos,W.up,λi d m h=>?_,λw hw=>?_,λw hw p f=>?_⟩
 ·have b:=h;rw[fD]at b;split at b
  ·rw[CN]at b;split at b
   ·cases b;exact g
   ·exact W.on n d m b
  ·exact W.on i d m b
 ·by_cases a:n<S.wy.length
  ·rcases Wv hw with h | h
   ·exact W.nd w h
   ·rw[h];refine Cq _ c v (W.nd _ ?_);rw[Zp,Zk a];exact Yo a
  ·rw[List.set_eq_of_length_le (ZJ a)]at hw;exact W.nd w hw
 ·by_cases a:n<S.wy.length
  ·rcases Wv hw with h | h
   ·exact W.az w h p f
   ·rw[h]at f;rcases Ea f with e | e
    ·rw[e];exact j
    ·refine W.az _ ?_ p e;rw[Zp,Zk a];exact Yo a
  ·rw[List.set_eq_of_length_le (ZJ a)]at hw;exact W.az w hw p f
def WF.link(W:WF S){n v:Nat}(b:v<S.lg.length):WF ⟨S.lg,S.lk.set n (Z v),S.wy⟩:=by
 refine⟨by rw[Ys];exact W.lk,W.wy,W.pos,λi m h=>?_,W.on,W.nd,W.az⟩;have a:=h;rw[fD]at a;split at a
 ·cases a;exact b
 ·exact W.up i m a
def WF.more(W:WF S){l:Nat}{o:Option Nat}{w:List (Nat×Nat)}(f:∀n,o=Z n->n<S.lg.length)(hw:∀c n,gW w c=Z n->n<S.lg.length)(e:(w.map (·.1)).Nodup)(g:∀p∈w,97<=p.1/\p.1<=122):WF ⟨S.lg++[l],S.lk++[o],S.wy++[w]⟩:=by
 have b:∀{n},n<S.lg.length->n<(S.lg++[l]).length:=λh=>by rw[Zv,ZA];exact Yl h
 refine⟨by rw[Zv,Zv,W.lk];rfl,by rw[Zv,Zv,W.wy];rfl,by rw[Zv];exact Zi W.pos (Zd _ _),λi n h=>?_,λi c n h=>?_,λx d=>?_,λx d=>?_⟩
 ·have a:=h;rw[bw]at a;split at a
  ·exact b (f n a)
  ·exact b (W.up i n a)
 ·have a:=h;rw[bw]at a;split at a
  ·exact b (hw c n a)
  ·exact b (W.on i c n a)
 ·rcases Zj.mp d with h | h
  ·exact W.nd x h
  ·rw[Zl.mp h];exact e
 ·rcases Zj.mp d with h | h
  ·exact W.az x h
  ·rw[Zl.mp h];exact g
def up1(c v:Nat):Nat->St->Option Nat->Option (St×Option Nat)
 |_,S,none=>Z (S,J)
 |0,_,some _=>J
 |k+1,S,some n=>if (gW (S.wy.getD n []) c).isSome then Z (S,Z n) else up1 c v k ⟨S.lg,S.lk,S.wy.set n (pW (S.wy.getD n []) c v)⟩ (S.lk.getD n J)
def NY(c a v:Nat):Nat->St->Option Nat->Option St
 |_,S,none=>Z S
 |0,_,some _=>J
 |k+1,S,some n=>if gW (S.wy.getD n []) c=Z a then NY c a v k ⟨S.lg,S.lk,S.wy.set n (pW (S.wy.getD n []) c v)⟩ (S.lk.getD n J) else Z S
def N8(S:St)(n c:Nat):Option (St×Nat):=(gW (S.wy.getD n []) c).bind λold=>if S.lg.getD old 0=S.lg.getD n 0+1 then Z (S,old) else
 (NY c old S.lg.length 1000 ⟨S.lg++[S.lg.getD n 0+1],(S.lk++[S.lk.getD old J]).set old (Z S.lg.length),S.wy++[S.wy.getD old []]⟩ (Z n)).map λa=>(a,S.lg.length)
def hb(S:St)(h c:Nat):Option (St×Nat):=if (gW (S.wy.getD h []) c).isSome then N8 S h c else
 (up1 c S.lg.length 1000 ⟨S.lg++[S.lg.getD h 0+1],S.lk++[Z 0],S.wy++[[]]⟩ (Z h)).bind λz=>match z.2 with
  |none=>Z (z.1,S.lg.length)
  |some n=>(N8 z.1 n c).map λy=>(⟨y.1.lg,y.1.lk.set S.lg.length (Z y.2),y.1.wy⟩,S.lg.length)
def hg(S:St)(h:Nat):Us->Option (St×Nat)
 |[]=>Z (S,h)
 |c :: r=>(hb S h c).bind λz=>hg z.1 z.2 r
noncomputable def Sm(S:St):Prop:=S.lg.length<=100001
def WF.P4(W:WF S)(i:Nat):((S.wy.getD i []).map (·.1)).Nodup/\∀p∈S.wy.getD i [],97<=p.1/\p.1<=122:=by
 by_cases h:i<S.wy.length
 ·have a:S.wy.getD i []∈S.wy:=by
   rw[Zp,Zk h];exact Yo h
  exact⟨W.nd _ a,W.az _ a⟩
 ·rw[Zp,Yr (ZJ h)];exact⟨Xy,λp b=>nomatch b⟩
noncomputable def S0:St:=⟨[0],[J],[[]]⟩
def GR:WF S0:=by
 refine⟨rfl,rfl,by decide,λi n h=>?_,λi c n h=>?_,λw hw=>?_,λw hw p a=>?_⟩
 ·cases i with
  |zero=>cases h
  |succ i=>cases h
 ·cases i with
  |zero=>cases h
  |succ i=>cases h
 ·rw[Zl.mp hw];exact Xy
 ·rw[Zl.mp hw]at a;cases a
end AU
end
section
namespace VS
def e2v{b:Ex}{x y z:Val}(g:a U=Z x)(e:b U=Z y)(d:f x y=Z z):e2 f a b U=Z z:=by
 show (a U).bind _=_;rw[g,Zs,e];exact d
def xv{r:IE}{x:Val}{b:Uo}(e:a U=Z x)(d:r U=Z b):ae a r U=Z (x :: b):=by
 show (a U).bind _=_;rw[e,Zs,d];rfl
def oA{m:Md}(h:c U=Z (m,.bl B)):JB c a b U=a U:=by
 show (c U).bind _=_;rw[h];rfl
def lO{m:Md}(h:c U=Z (m,.bl L)):JB c a b U=b U:=by
 show (c U).bind _=_;rw[h];rfl
def jc{b:Uo}(h:a U=Z b)(d:f b=Z v):eN f a U=Z v:=by
 show (a U).bind f=_;rw[h,Zs,d]
def dR{e:Ex}{U:Env}{t:T}(h:e U=Z (.fr,t)):eA e U=Z (.rt (.fr,t) U):=by
 show (e U).bind _=_;rw[h];rfl
def mD(h:a U=Z (.rt v d)):ak a b U=Z (.rt v d):=by
 show (a U).bind _=_;rw[h];rfl
def aq{a b:Sx}{U:Env}(h:a U=Z (.nx d)):ak a b U=b d:=by
 show (a U).bind _=_;rw[h];rfl
def sq{U1:Env}(h:a U=Z (.nx U1))(q:b U1=r):ak a b U=r:=(aq h).trans q
def ift{a:Sx}{U:Env}(h:c U=Z (m,.bl B))(q:a U=r):JB c a b U=r:=(oA h).trans q
def wO{m:Md}{r:Option Out}(h:c U=Z (m,.bl L))(q:b U=r):JB c a b U=r:=(lO h).trans q
def eE{a:Ul}{U:Env}(f:a.length=d)(h:b (a.map (λt=>Z (.pu t))++List.replicate (e-d) J)=Z (.rt v U)):fn d e b a=Z v:=by
 unfold fn;rw[Zr f,h];rfl
def FQ{a:Ul}{U:Env}(f:a.length=d)(h:b (a.map (λt=>Z (.pu t))++List.replicate (e-d) J)=Z (.nx U)):fn d e b a=Z (.fr,.non):=by
 unfold fn;rw[Zr f,h];rfl
def uy(f:a U=Z (m,.bl x))(e:x=B->b U=Z v)(d:x=L->v=(.fr,.bl L)):ie a b U=Z v:=by
 show (a U).bind _=_;rw[f,Zs];cases x with
 |true=>exact e Y
 |false=>exact Z5 Z (d Y).symm
def C4{m:Md}{x:Bool}(f:a U=Z (m,.bl x))(e:x=L->b U=Z v)(d:x=B->v=(.fr,.bl B)):Mc a b U=Z v:=by
 show (a U).bind _=_;rw[f,Zs];cases x with
 |false=>exact e Y
 |true=>exact Z5 Z (d Y).symm
def FE{n:Md}(f:a U=Z (m,.bl x))(d:b U=Z (.fr,.bl y)):ie a b U=Z (.fr,.bl (x&&y)):=uy f (λe=>by rw[e];exact d) (λe=>by rw[e];rfl)
def RK{n:Md}{x:Bool}(f:a U=Z (m,.bl x))(d:b U=Z (.fr,.bl y)):Mc a b U=Z (.fr,.bl (x||y)):=C4 f (λe=>by rw[e];exact d) (λe=>by rw[e];rfl)
def uG{m:Md}{b:Bool}(h:a U=Z (m,.bl b)):iq a U=Z (.fr,.bl (!b)):=by
 show (a U).bind _=_;rw[h];rfl
def CF{z:Val}(j:a U=Z x)(i:b U=Z y)(h:f x y=Z (.fr,.bl B))(e:c U=Z z)(d:g y z=Z v):pK f g a b c U=Z v:=by
 show (a U).bind _=_;rw[j,Zs,i,Zs,h,Zs];rw[e];exact d
def C6{n:Nat}{i:Int}(b:0<=i)(a:i<n):JY n i=Z i.toNat:=by rw[JY,Zr b,Zr a]
def t5(a:i<n):JY n (i:Int)=Z i:=by
 rw[JY,Zr (WC i),Zr (Int.ofNat_lt.mpr a)];rfl
def AW(l:Ur)(i:Int)(b:0<=i)(a:i<l.length):aH (m,.scr l) (n,.int i)=Z (.fr,.int (l.getD i.toNat 0)):=by
 show (JY l.length i).bind _=_;rw[C6 b a,Zs,Zp,Zk (by lia)];rfl
def Dx(t:Tx)(i:Int)(b:0<=i)(a:i<t.length):aH (m,.str t) (n,.int i)=Z (.fr,.str [t.getD i.toNat 0]):=by
 show (JY t.length i).bind _=_;rw[C6 b a,Zs,Zp,Zk (by lia)];rfl
def j7(e:Ji 60 a=B)(d:Ji 60 b=B)(h:eqT a b=r):oEq (m,a) (n,b)=Z (.fr,.bl r):=by
 show (if Ji 60 a/\Ji 60 b then Z (Md.fr,T.bl (eqT a b)) else J)=_;rw[Zr ⟨e,d⟩,h]
def uK{n:Md}{r:Bool}(e:Ji 60 a=B)(d:Ji 60 b=B)(h:eqT a b=r):Ly (m,a) (n,b)=Z (.fr,.bl (!r)):=by
 show (if Ji 60 a/\Ji 60 b then Z (Md.fr,T.bl (!eqT a b)) else J)=_;rw[Zr ⟨e,d⟩,h]
def oy{U:Env}{v:T}(d:U[i]?=Z (Z (.ow (.lst l))))(b:e U=Z (.fr,v))(a:l.length<16777216):sX (mh i [] aC (ae e aj)) U=Z (.nx (U.set i (Z (.ow (.lst (l++[v])))))):=by
 unfold sX mh;rw[d];show ((Z ([])).bind _ |>.map _)=_;rw[Zs,(xv b Y),Zs];show ((aC (.lst l) [(.fr,v)]).map _ |>.map _)=_;rw[bV a];rfl
end VS
end
section
namespace T06
open VS AU
noncomputable abbrev pc(t:T):Up:=Z (.pu t)
abbrev Q0(i:Int):Option Cell:=Z (.pu (.int i))
abbrev Q2(t:Tx):Option Cell:=Z (.pu (.str t))
noncomputable abbrev oc(t:T):Up:=Z (.ow t)
noncomputable def IX(w:List (Nat×Nat)):T:=.dct 0 (w.map λp=>(T.str [p.1],T.int (p.2:Int)))
noncomputable def IH:Option Nat->T
 |none=>.non
 |some n=>.int (n:Int)
def Lh(S:St):rY:=[(1,.lst (S.lg.map λ(n:Nat)=>T.int (n:Int))),(2,.lst (S.lk.map IH)),(3,.lst (S.wy.map IX))]
def Ih(S:St)(b:Bool):T:=.obj 1 ((0,.bl b) :: Lh S)
def k9(o:Option Nat):Iw (IH o)=B:=by cases o<;>rfl
theorem d5{α:Type}(f:α->T)(h:∀a,gH (f a)=B):∀l:List α,dZ (l.map f)=B
 |[]=>rfl
 |a :: l=>by rw[Zo,dZ,h a,d5 f h l];rfl
def zE(w:List (Nat×Nat)):gH (IX w)=B:=by
 show r6 (w.map λp=>(T.str [p.1],T.int (p.2:Int)))=B
 induction w with
 |nil=>rfl
 |cons p w a=>rw[Zo,r6,a];rfl
def kh(S:St):eP (Lh S)=B:=by
 have d:gH (.lst (S.lg.map λ(n:Nat)=>T.int (n:Int)))=B:=d5 _ (λ_=>rfl) _;have b:gH (.lst (S.lk.map IH))=B:=d5 _ (λo=>ot _ (k9 o)) _;have a:gH (.lst (S.wy.map IX))=B:=d5 _ zE _;show ((gH _ && !(1==0&&OJ _))&&((gH _ && !(2==0&&OJ _))&&((gH _ && !(3==0&&OJ _))&&B)))=B;rw[d,b,a];rfl
def FX(S:St)(b:Bool):qJ 1 (Ih S b)=Z (.lst (S.lg.map λ(n:Nat)=>T.int (n:Int))):=rfl
def HF(S:St)(b:Bool):qJ 2 (Ih S b)=Z (.lst (S.lk.map IH)):=rfl
def HV(S:St)(b:Bool):qJ 3 (Ih S b)=Z (.lst (S.wy.map IX)):=rfl
def fH{k:Nat}{m:Md}{t:T}(h:a U=Z (m,t))(b:qJ k t=Z u):bj k a U=Z (sub m u):=by
 unfold bj;rw[h,Zs,b];rfl
def nK{α:Type}{m n:Md}(f:α->T)(l:List α)(i:Nat)(d:α)(h:i<l.length):aH (m,.lst (l.map f)) (n,.int (i:Int))=Z (sub m (f (l.getD i d))):=by
 show (JY (l.map f).length (i:Int)).bind _=_;rw[Zu,t5 h,Zs,ZL,Zk h,Zp,Zk h];rfl
section
def qX{i:Nat}(h:a U=Z (m,Ih S b))(he:e U=Z (n,.int (i:Int)))(d:i<S.lg.length):e2 aH (bj 1 a) e U=Z (.fr,.int ((S.lg.getD i 0:Nat):Int)):=e2v (fH h (FX S b)) he (nK _ _ i 0 d)
def u6{i:Nat}(h:a U=Z (m,Ih S b))(he:e U=Z (n,.int (i:Int)))(d:i<S.lk.length):e2 aH (bj 2 a) e U=Z (.fr,IH (S.lk.getD i J)):=(e2v (fH h (HF S b)) he (nK _ _ i J d)).trans (by
 show Z (up _ _)=_;unfold up;rw[k9];rfl)
def nH{i:Nat}(h:a U=Z (m,Ih S b))(he:e U=Z (n,.int (i:Int)))(d:i<S.wy.length):e2 aH (bj 3 a) e U=Z (m,IX (S.wy.getD i [])):=e2v (fH h (HV S b)) he (nK _ _ i [] d)
def Ei(h:a U=Z (m,Ih S b)):eN dY (ae (bj 1 a) aj) U=Z (.fr,.int (S.lg.length:Nat)):=jc (xv (fH h (FX S b)) Y) (by
 show Z (Md.fr,T.int (((S.lg.map λ(n:Nat)=>T.int (n:Int)).length:Nat):Int))=_;rw[Zu])
end
def DI(a c:Nat):eqT (.str [a]) (.str [c])=(a==c):=by
 by_cases h:a=c
 ·simp[h]
 ·simp[h]
def pL(w:List (Nat×Nat))(c:Nat):cH (w.map λp=>(T.str [p.1],T.int (p.2:Int))) (.str [c])=(gW w c).map λ(n:Nat)=>T.int (n:Int):=by
 unfold cH gW;rw[List.find?_map];have:((λp:T×T=>eqT p.1 (.str [c])) ∘ λp:Nat×Nat=>(T.str [p.1],T.int (p.2:Int)))=λp:Nat×Nat=>p.1==c:=by
  funext p;exact DI p.1 c
 rw[this];cases w.find? λp=>p.1==c with
 |none=>rfl
 |some p=>rfl
def Gd(w:List (Nat×Nat))(c m:Nat):dput (w.map λp=>(T.str [p.1],T.int (p.2:Int))) (.str [c]) (.int (m:Int))=(pW w c m).map λp=>(T.str [p.1],T.int (p.2:Int)):=by
 have a:(w.map λp=>(T.str [p.1],T.int (p.2:Int))).any (λp=>eqT p.1 (.str [c]))=w.any λp=>p.1==c:=by
  rw[List.any_map];congr 1;funext p;exact DI p.1 c
 unfold dput pW;rw[a];split
 ·rw[Z7,Z7];apply YU;intro p _;simp only[Function.comp,DI];split<;>rfl
 ·rw[Yz];rfl
section
def HN(h:a U=Z (m,IX w))(he:e U=Z (n,.str [c])):e2 ma e a U=Z (.fr,.bl (gW w c).isSome):=e2v he h (by
 show (if B=B then Z (Md.fr,T.bl (cH _ _).isSome) else J)=_;rw[Zr Y,pL,Xu])
def G4(h:a U=Z (m,IX w))(he:e U=Z (n,.str [c])):e2 dy e a U=Z (.fr,.bl (!(gW w c).isSome)):=e2v he h (by
 show (match (if B=B then Z (Md.fr,T.bl (cH (w.map λp=>(T.str [p.1],T.int (p.2:Int))) (.str [c])).isSome) else J) with | some (_,.bl b)=>some (Md.fr,T.bl (!b)) | _=>none)=_;rw[Zr Y,pL,Xu])
def xM(h:a U=Z (m,IX w))(he:e U=Z (n,.str [c]))(d:gW w c=Z v):e2 J9 a e U=Z (.fr,.int (v:Int)):=e2v h he (by
 show (if B=B then (cH _ _).map (sub m) else J)=_;rw[Zr Y,pL,d];rfl)
def G3(h:a U=Z (m,IX w))(he:e U=Z (n,.str [c])):e2 vV a e U=Z (.fr,IH (gW w c)):=e2v h he (by
 show (if B=B then Z (match cH (w.map λp=>(T.str [p.1],T.int (p.2:Int))) (.str [c]) with | some t=>sub m t | none=>(.fr,.non)) else none)=_;rw[Zr Y,pL];cases gW w c with
 |none=>rfl
 |some v=>rfl)
def zM{S:St}{v:Nat}(d:i<S.wy.length)(he:e (oc (Ih S b) :: r)=Z (n,.int (i:Int)))(l:ec (oc (Ih S b) :: r)=Z (m,.str [c]))(g:ev (oc (Ih S b) :: r)=Z (k,.int (v:Int)))(f:(S.wy.getD i []).length<16777216) :
  fA 0 [.fld 3,.ix e] ec ev (oc (Ih S b) :: r)=Z (.nx (oc (Ih ⟨S.lg,S.lk,S.wy.set i (pW (S.wy.getD i []) c v)⟩ b) :: r)):=by
 unfold fA;rw[g,Zs];show ((keys [.fld 3,.ix e] (oc (Ih S b) :: r)).bind _)=_;have j:keys [.fld 3,.ix e] (oc (Ih S b) :: r)=Z [.fld 3,.at (.int (i:Int))]:=by
  show ((e _).bind _).map _=_;rw[he];rfl
 rw[j,Zs,l,Zs];have h:pm (kC (m,.str [c]) (k,.int (v:Int))) [.fld 3,.at (.int (i:Int))] (Ih S b)=Z (Ih ⟨S.lg,S.lk,S.wy.set i (pW (S.wy.getD i []) c v)⟩ b,()):=by
  show ((pm (kC (m,.str [c]) (k,.int (v:Int))) [.at (.int (i:Int))] (.lst (S.wy.map IX))).map _)=_;have:pm (kC (m,.str [c]) (k,.int (v:Int))) [.at (.int (i:Int))] (.lst (S.wy.map IX))=Z (.lst ((S.wy.set i (pW (S.wy.getD i []) c v)).map IX),()):=by
   show ((JY (S.wy.map IX).length (i:Int)).bind _)=_;rw[Zu,t5 d,Zs,ZL,Zk d];have e1:S.wy.getD i []=S.wy[i]:=by rw[Zp,Zk d];rfl
   rw[e1]at f ⊢;show ((if B=B/\B=B/\(S.wy[i].map _).length<d4 then Z (T.dct 0 (dput _ _ _),()) else J).map _)=_;rw[Zr ⟨rfl,rfl,by rw[Zu];exact f⟩,Gd,Vs];rfl
  rw[this];rfl
 rw[h];rfl
def zC{S:St}{v:Nat}{r:List (Up)}(h:i<S.lk.length)(he:e (oc (Ih S b) :: r)=Z (n,.int (i:Int)))(d:ev (oc (Ih S b) :: r)=Z (.fr,.int (v:Int))) :
  fA 0 [.fld 2] e ev (oc (Ih S b) :: r)=Z (.nx (oc (Ih ⟨S.lg,S.lk.set i (Z v),S.wy⟩ b) :: r)):=by
 unfold fA;rw[d,Zs];show ((keys [.fld 2] (oc (Ih S b) :: r)).bind _)=_;have g:keys [.fld 2] (oc (Ih S b) :: r)=Z [.fld 2]:=rfl;rw[g,Zs,he,Zs];have f:pm (kC (n,.int (i:Int)) (.fr,.int (v:Int))) [.fld 2] (Ih S b)=Z (Ih ⟨S.lg,S.lk.set i (Z v),S.wy⟩ b,()):=by
  show ((kC (n,.int (i:Int)) (.fr,.int (v:Int)) (.lst (S.lk.map IH))).map _)=_;have:kC (n,.int (i:Int)) (.fr,.int (v:Int)) (.lst (S.lk.map IH))=Z (.lst ((S.lk.set i (Z v)).map IH),()):=by
   show ((JY (S.lk.map IH).length (i:Int)).map _)=_;rw[Zu,t5 h,Vs];rfl
  rw[this];rfl
 rw[f];rfl
end
def qD{n:Nat}{b:Env}{m:Md}(e:c U=Z (m,.bl B))(d:a U=Z (.nx b)):eY c a (n+1) U=eY c a n b:=by
 show (c U).bind _=_;rw[e];show (if B=B then (a U).bind _ else Z (.nx U))=_;rw[Zr Y,d];rfl
def gq(b:c U=Z (m,.bl L)):eY c a (n+1) U=Z (.nx U):=by
 show (c U).bind _=_;rw[b];rfl
def iX{mv:List Bool}{as:IE}{b:Bool}{r:List (Up)}(h:as (oc (Ih S b) :: r)=Z a)(j:argsOk mv a=B)(i:dZ (trees a)=B)(f:g (Lh S) (trees a)=Z (Lh d,v))(e:Iw v=B) :
  bG 0 [] 0 mv g as (oc (Ih S b) :: r)=Z ((.fr,v),oc (Ih d b) :: r):=by
 show ((Z ([])).bind λks=>(as (oc (Ih S b) :: r)).bind λa=>(pm (jI 0 mv g a) ks (Ih S b)).map λz=>(z.2,(oc (Ih S b) :: r).set 0 (oc z.1)))=_;rw[Zs,h,Zs];show ((if 1=0+1/\eP (Lh S)=B/\argsOk mv a=B/\dZ (trees a)=B then (g (Lh S) (trees a)).bind λz=>if eP z.1=B/\Iw z.2=B then Z (T.obj 1 ((0,.bl b) :: z.1),(Md.fr,z.2)) else J else J).map _)=_;rw[Zr ⟨rfl,kh S,j,i⟩,f,Zs,Zr ⟨kh d,e⟩];rfl
def Dy{e:Ex}{S:St}{b:Bool}{r:List (Up)}{v:Nat}(h:e (oc (Ih S b) :: r)=Z (.fr,.int (v:Int)))(d:S.lg.length<16777216):sX (iE 0 [.fld 1] aC (ae e aj)) (oc (Ih S b) :: r)=Z (.nx (oc (Ih ⟨S.lg++[v],S.lk,S.wy⟩ b) :: r)):=by
 show (((Z [Ky.fld 1]).bind λks=>(ae e aj (oc (Ih S b) :: r)).bind λa=>(pm (λx=>aC x a) ks (Ih S b)).map _).map _)=_;rw[Zs,xv h Y,Zs];show (((aC (.lst (S.lg.map λ(n:Nat)=>T.int (n:Int))) [(.fr,.int (v:Int))]).map _).map _ |>.map _)=_;rw[bV (by rw[Zu];exact d),show (S.lg.map λ(n:Nat)=>T.int (n:Int))++[.int (v:Int)]=(S.lg++[v]).map λ(n:Nat)=>T.int (n:Int) from by rw[Yz];rfl];rfl
def Dq{e:Ex}{S:St}{b:Bool}{r:List (Up)}{v:Option Nat}(h:e (oc (Ih S b) :: r)=Z (.fr,IH v))(d:S.lk.length<16777216):sX (iE 0 [.fld 2] aC (ae e aj)) (oc (Ih S b) :: r)=Z (.nx (oc (Ih ⟨S.lg,S.lk++[v],S.wy⟩ b) :: r)):=by
 show (((Z [Ky.fld 2]).bind λks=>(ae e aj (oc (Ih S b) :: r)).bind λa=>(pm (λx=>aC x a) ks (Ih S b)).map _).map _)=_;rw[Zs,xv h Y,Zs];show (((aC (.lst (S.lk.map IH)) [(.fr,IH v)]).map _).map _ |>.map _)=_;rw[bV (by rw[Zu];exact d),show (S.lk.map IH)++[IH v]=(S.lk++[v]).map IH from by rw[Yz];rfl];rfl
def EI(o:Option Nat):up .pu (IH o)=(.fr,IH o):=by
 unfold up;rw[k9];rfl
def xw(S:St)(l:Nat)(o:Option Nat)(w:List (Nat×Nat))(f:S.lg.length<16777216)(d:S.lk.length<16777216)(a:S.wy.length<16777216):aO (Lh S) [.int (l:Int),IH o,IX w]=Z (Lh ⟨S.lg++[l],S.lk++[o],S.wy++[w]⟩,.int (S.lg.length:Int)):=by
 have g:=dR (e:=e2 qu (eN dY (ae (bj 1 (aa 0)) aj)) (Q3 1)) (U:=[oc (Ih ⟨S.lg++[l],S.lk++[o],S.wy++[w]⟩ B),Q0 (l:Int),pc (IH o),J]) (e2v (Ei Y) Y (by
  show Z (Md.fr,T.int ((((S.lg++[l]).length:Nat):Int)-1))=_;rw[Zv,ZA,show (((S.lg.length+1:Nat)):Int)-1=(S.lg.length:Int) by omega]))
 unfold aO Ka;rw[Zr ⟨rfl,rfl⟩];have body:=(aq (b:=ak (sX (iE 0 [.fld 2] aC (ae (aa 2) aj))) (ak (ql 0 [.fld 3] 3) (eA (e2 qu (eN dY (ae (bj 1 (aa 0)) aj)) (Q3 1))))) (Dy (S:=S) (b:=B) (r:=[Q0 (l:Int),pc (IH o),oc (IX w)]) (e:=aa 1) (v:=l) Y f)).trans ((aq (Dq (S:=⟨S.lg++[l],S.lk,S.wy⟩) (b:=B) (r:=[Q0 (l:Int),pc (IH o),oc (IX w)]) (e:=aa 2) (v:=o) (Z5 Z (EI o)) d)).trans ((aq (by
  show ((aC (.lst (S.wy.map IX)) [(.fr,IX w)]).map _ |>.map _)=_;rw[bV (by rw[Zu];exact a),show (S.wy.map IX)++[IX w]=(S.wy++[w]).map IX from by rw[Yz];rfl];rfl)).trans g))
 exact Z5 (λz:Option Out=>z.bind _) body
def Fe(w:97<=c/\c<=122):∀(k:Nat)(S b:St)(o:Option Nat),WF S->v<S.lg.length->(∀n,o=Z n->n<S.lg.length)->NY c a v k S o=Z b->WF b/\b.lg=S.lg/\∃d,∀N,k<N->∀z:Up,
  eY (ie (gS (aa 1)) (e2 oEq (e2 vV (e2 aH (bj 3 (aa 0)) (aa 1)) (aa 2)) (aa 3))) cJ N [oc (Ih S B),pc (IH o),Q2 ([c]),Q0 (a:Int),z,Q0 (v:Int)] =
   Z (.nx [oc (Ih b B),pc (IH d),Q2 ([c]),Q0 (a:Int),z,Q0 (v:Int)]):=by
 intro k
 induction k with
 |zero =>
  intro S b o W f i e;cases o with
  |none =>
   cases (e);refine⟨W,rfl,J,λN hN z=>?_⟩;obtain⟨N,rfl⟩:∃M,N=M+1:=⟨N-1,by omega⟩
   exact gq Y
  |some n=>cases e
 |succ k t =>
  intro S b o W f i e;cases o with
  |none =>
   cases (e);refine⟨W,rfl,J,λN hN z=>?_⟩;obtain⟨N,rfl⟩:∃M,N=M+1:=⟨N-1,by omega⟩
   exact gq Y
  |some n =>
   have j:=i n Y;have l:n<S.wy.length:=by rw[W.wy];exact j
   have cond:∀z:Up,ie (gS (aa 1)) (e2 oEq (e2 vV (e2 aH (bj 3 (aa 0)) (aa 1)) (aa 2)) (aa 3)) [oc (Ih S B),Q0 (n:Int),Q2 ([c]),Q0 (a:Int),z,Q0 (v:Int)]=Z (.fr,.bl (decide (gW (S.wy.getD n []) c=Z a))):=λz=>by
    refine uy Y (λ_=>?_) (λh=>by cases h);refine e2v (G3 (nH Y Y l) Y) Y ?_;cases hg:gW (S.wy.getD n []) c with
    |none=>rw[ZK (by simp)];exact j7 Y Y Y
    |some q =>
     refine(j7 Y Y (show eqT (.int (q:Int)) (.int (a:Int))=decide (Z q=Z a) from ?_));by_cases h:q=a
     ·subst h;simp
     ·rw[ZK (λz=>h (Zg z))];exact Z0.mpr (by omega)
   unfold NY at e;split at e
   ·rename_i g;obtain⟨s,r,d,p⟩:=t _ b (S.lk.getD n J) (W.way (n:=n) (c:=c) (v:=v) f w) f (λm u=>W.up n m u) e;refine⟨s,r,d,λN hN z=>?_⟩;obtain⟨N,rfl⟩:∃M,N=M+1:=⟨N-1,by omega⟩
    refine(qD ((cond z).trans (by rw[decide_eq_true g])) ?_).trans (p N (by omega) z);refine(aq (zM l Y Y Y (W.small n))).trans ?_;exact aK (u6 (S:=⟨S.lg,S.lk,S.wy.set n (pW (S.wy.getD n []) c v)⟩) Y Y (by rw[W.lk];exact j)) (by decide) (by decide:1<6)
   ·rename_i g;cases e;refine⟨W,rfl,Z n,λN hN z=>?_⟩;obtain⟨N,rfl⟩:∃M,N=M+1:=⟨N-1,by omega⟩
    exact gq ((cond z).trans (by rw[ZK g]))
def EV(u:97<=c/\c<=122):∀(k:Nat)(S a:St)(o b:Option Nat),WF S->v<S.lg.length->(∀n,o=Z n->n<S.lg.length)->up1 c v k S o=Z (a,b)->WF a/\a.lg=S.lg/\(∀n,b=Z n->n<S.lg.length)/\∀N,k<N->∀z:Up,
  eY (ie (gS (aa 4)) (e2 dy (aa 2) (e2 aH (bj 3 (aa 0)) (aa 4)))) cx N [oc (Ih S B),z,Q2 ([c]),Q0 (v:Int),pc (IH o)] =
   Z (.nx [oc (Ih a B),z,Q2 ([c]),Q0 (v:Int),pc (IH b)]):=by
 intro k
 induction k with
 |zero =>
  intro S a o b W d g e;cases o with
  |none =>
   cases (e);refine⟨W,rfl,(λn h=>nomatch h),λN hN z=>?_⟩;obtain⟨N,rfl⟩:∃M,N=M+1:=⟨N-1,by omega⟩
   exact gq Y
  |some n=>cases e
 |succ k s =>
  intro S a o b W d g e;cases o with
  |none =>
   cases (e);refine⟨W,rfl,(λn h=>nomatch h),λN hN z=>?_⟩;obtain⟨N,rfl⟩:∃M,N=M+1:=⟨N-1,by omega⟩
   exact gq Y
  |some n =>
   have i:=g n Y;have j:n<S.wy.length:=by rw[W.wy];exact i
   have cond:∀z:Up,ie (gS (aa 4)) (e2 dy (aa 2) (e2 aH (bj 3 (aa 0)) (aa 4))) [oc (Ih S B),z,Q2 ([c]),Q0 (v:Int),Q0 (n:Int)]=Z (.fr,.bl (!(gW (S.wy.getD n []) c).isSome)):=λz =>
    uy Y (λ_=>G4 (nH Y Y j) Y) (λh=>by cases h)
   unfold up1 at e;split at e
   ·rename_i f;cases e;refine⟨W,rfl,g,λN hN z=>?_⟩;obtain⟨N,rfl⟩:∃M,N=M+1:=⟨N-1,by omega⟩
    exact gq ((cond z).trans (by rw[f];rfl))
   ·rename_i f;obtain⟨r,q,l,p⟩:=s _ a (S.lk.getD n J) b (W.way (n:=n) (c:=c) (v:=v) d u) d (λm t=>W.up n m t) e;refine⟨r,q,l,λN hN z=>?_⟩;obtain⟨N,rfl⟩:∃M,N=M+1:=⟨N-1,by omega⟩
    have w:(gW (S.wy.getD n []) c).isSome=L:=by simpa using f
    refine(qD ((cond z).trans (by rw[w];rfl)) ?_).trans (p N (by omega) z);refine(aq (zM j Y Y Y (W.small n))).trans ?_;exact aK (u6 (S:=⟨S.lg,S.lk,S.wy.set n (pW (S.wy.getD n []) c v)⟩) Y Y (by rw[W.lk];exact i)) (by decide) (by decide:4<5)
def DS(a b:Nat):oEq (m,.int (a:Int)) (n,.int (b:Int))=Z (.fr,.bl (decide (a=b))):=j7 Y Y (by
 by_cases h:a=b
 ·subst h;simp
 ·rw[ZK h];exact Z0.mpr (by omega))
def zU{r:Nat}(W:WF S)(x:Sm S)(o:n<S.lg.length)(y:97<=c/\c<=122)(e:N8 S n c=Z (a,r)):WF a/\r<a.lg.length/\S.lg.length<=a.lg.length/\a.lg.length<=S.lg.length+1/\aA (Lh S) [.int (n:Int),.str [c]]=Z (Lh a,.int (r:Int)):=by
 obtain⟨old,j,e⟩:=Zz.mp e;have hold:=W.on n c old j;have xt:old<S.lk.length:=by rw[W.lk];exact hold
 have H:S.lg.length<=100001:=x;unfold aA Ka;rw[Zr ⟨rfl,rfl⟩];have i:=aK (e:=e2 J9 (e2 aH (bj 3 (aa 0)) (aa 1)) (aa 2)) (U:=[oc (Ih S B),Q0 (n:Int),Q2 ([c]),J,J,J]) (xM (nH Y Y (by rw[W.wy];exact o)) Y j) (by decide) (by decide:3<6);have h:=aK (e:=e2 dH (e2 aH (bj 1 (aa 0)) (aa 1)) (Q3 1)) (U:=[oc (Ih S B),Q0 (n:Int),Q2 ([c]),Q0 (old:Int),J,J]) (e2v (qX Y Y o) Y Y) (by decide) (by decide:4<6);have cd:e2 oEq (e2 aH (bj 1 (aa 0)) (aa 3)) (aa 4) [oc (Ih S B),Q0 (n:Int),Q2 ([c]),Q0 (old:Int),Q0 ((S.lg.getD n 0+1:Nat):Int),J]=Z (.fr,.bl (decide (S.lg.getD old 0=S.lg.getD n 0+1))):=e2v (qX Y Y hold) Y (DS _ _);split at e
 ·rename_i g;obtain⟨rfl,rfl⟩:=Wj (Zg e);rw[decide_eq_true g]at cd;refine⟨W,hold,Zn _,Nat.le_succ _,?_⟩;have body:∀b:Sx,ak (aT 3 (e2 J9 (e2 aH (bj 3 (aa 0)) (aa 1)) (aa 2))) (ak (aT 4 (e2 dH (e2 aH (bj 1 (aa 0)) (aa 1)) (Q3 1))) (ak (JB (e2 oEq (e2 aH (bj 1 (aa 0)) (aa 3)) (aa 4)) (ji 3) eX) b)) [oc (Ih S B),Q0 (n:Int),Q2 ([c]),J,J,J]=Z (.rt (.fr,.int (old:Int)) [oc (Ih S B),Q0 (n:Int),Q2 ([c]),Q0 (old:Int),Q0 ((S.lg.getD n 0+1:Nat):Int),J]):=λb =>
   (aq i).trans ((aq h).trans (mD ((oA cd).trans Y)))
  exact Z5 (λz:Option Out=>z.bind _) (body _)
 ·rename_i g;rw[ZK g]at cd;obtain⟨q,F,e3⟩:=Zt.mp e;obtain⟨rfl,rfl⟩:=Wj e3;have wn:=W.P4 old;have E:=W.more (l:=S.lg.getD n 0+1) (λm f=>W.up old m f) (λd m f=>W.on old d m f) wn.1 wn.2;have hlen:(S.lg++[S.lg.getD n 0+1]).length=S.lg.length+1:=by rw[Zv];rfl
  have D:=E.link (n:=old) (by show S.lg.length<(S.lg++[S.lg.getD n 0+1]).length;omega);obtain⟨v,u,G,s⟩:=Fe y 1000 _ q (Z n) D (by show S.lg.length<(S.lg++[S.lg.getD n 0+1]).length;omega) (λm f=>by cases f;show n<(S.lg++[S.lg.getD n 0+1]).length;omega) F;have t:q.lg.length=S.lg.length+1:=by rw[u];exact hlen
  refine⟨v,by omega,by omega,by omega,?_⟩;have args:ae (aa 4) (ae (e2 aH (bj 2 (aa 0)) (aa 3)) (ae (eN nQ (ae (e2 aH (bj 3 (aa 0)) (aa 3)) aj)) aj)) [oc (Ih S B),Q0 (n:Int),Q2 ([c]),Q0 (old:Int),Q0 ((S.lg.getD n 0+1:Nat):Int),J]=Z [(.fr,.int ((S.lg.getD n 0+1:Nat):Int)),(.fr,IH (S.lk.getD old J)),(.fr,IX (S.wy.getD old []))] :=
   xv Y (xv (u6 Y Y xt) (xv (jc (xv (nH Y Y (by rw[W.wy];exact hold)) Y) (by
    show (if fU (((S.wy.getD old []).map λp=>(T.str [p.1],T.int (p.2:Int))).map (·.2))=B then Z (Md.fr,IX (S.wy.getD old [])) else J)=_;rw[Zr (by rw[Z7];exact mY _ (λ_=>rfl) _)])) Y))
  have C:argsOk [L,L,B] [(.fr,.int ((S.lg.getD n 0+1:Nat):Int)),(.fr,IH (S.lk.getD old J)),(.fr,IX (S.wy.getD old []))]=B:=by
   show (B&&(Iw (IH (S.lk.getD old J))&&B))=B;rw[k9];rfl
  have A:=iX args C (by
   show (B&&(gH (IH (S.lk.getD old J))&&(gH (IX (S.wy.getD old []))&&B)))=B;rw[ot _ (k9 _),zE];rfl) (xw S (S.lg.getD n 0+1) (S.lk.getD old J) (S.wy.getD old []) (by omega) (by rw[W.lk];omega) (by rw[W.wy];omega)) Y
  have w:=zC (S:=⟨S.lg++[S.lg.getD n 0+1],S.lk++[S.lk.getD old J],S.wy++[S.wy.getD old []]⟩) (b:=B) (r:=[Q0 (n:Int),Q2 ([c]),Q0 (old:Int),Q0 ((S.lg.getD n 0+1:Nat):Int),Q0 (S.lg.length:Int)]) (e:=aa 3) (ev:=aa 5) (by rw[Zv];omega) Y Y;exact Z5 (λz:Option Out=>z.bind _) ((aq i).trans ((aq h).trans ((aq ((lO cd).trans Y)).trans ((aq (by
   unfold lV;rw[A];rfl)).trans ((aq w).trans ((aq (s xD (by decide) (Q0 ((S.lg.getD n 0+1:Nat):Int)))).trans Y))))))
def FV{r:Nat}(W:WF S)(R:S.lg.length<=100000)(x:h<S.lg.length)(y:97<=c/\c<=122)(e:hb S h c=Z (f,r)):WF f/\r<f.lg.length/\S.lg.length<=f.lg.length/\f.lg.length<=S.lg.length+2/\bF (Lh S) [.int (h:Int),.str [c]]=Z (Lh f,.int (r:Int)):=by
 unfold hb at e;unfold bF Ka;rw[Zr ⟨rfl,rfl⟩];have cd:e2 ma (aa 2) (e2 aH (bj 3 (aa 0)) (aa 1)) [oc (Ih S B),Q0 (h:Int),Q2 ([c]),J,J]=Z (.fr,.bl (gW (S.wy.getD h []) c).isSome):=HN (nH Y Y (by rw[W.wy];exact x)) Y;split at e
 ·rename_i u;rw[u]at cd;obtain⟨s,q,t,A,E⟩:=zU W (Nat.le_succ_of_le R) x y e;refine⟨s,q,t,by omega,?_⟩;have j:=iX (mv:=[L,L]) (as:=ae (aa 1) (ae (aa 2) aj)) (b:=B) (r:=[Q0 (h:Int),Q2 ([c]),J,J]) Y Y Y E Y;have N:sR (bG 0 [] 0 [L,L] aA (ae (aa 1) (ae (aa 2) aj))) [oc (Ih S B),Q0 (h:Int),Q2 ([c]),J,J]=Z (.rt (.fr,.int (r:Int)) [oc (Ih f B),Q0 (h:Int),Q2 ([c]),J,J]):=by
   unfold sR;rw[j];rfl
  exact Z5 (λz:Option Out=>z.bind _) (mD ((oA cd).trans N))
 ·rename_i u;have U:(gW (S.wy.getD h []) c).isSome=L:=by simpa using u
  rw[U]at cd;obtain⟨⟨a,o⟩,e1,D⟩:=Zz.mp e;have hlen:(S.lg++[S.lg.getD h 0+1]).length=S.lg.length+1:=by rw[Zv];rfl
  obtain⟨s,q,t,A⟩:=EV y 1000 _ a (Z h) o (W.more (l:=S.lg.getD h 0+1) (o:=Z 0) (w:=[]) (λm i=>by cases i;exact W.pos) (λd m i=>by cases i) Xy (λp P=>nomatch P)) (by show S.lg.length<(S.lg++[S.lg.getD h 0+1]).length;omega) (λm i=>by cases i;show h<(S.lg++[S.lg.getD h 0+1]).length;omega) e1;have F:a.lg.length=S.lg.length+1:=by rw[q];exact hlen
  have args:ae (e2 dH (e2 aH (bj 1 (aa 0)) (aa 1)) (Q3 1)) (ae (Q3 0) (ae (l9 0 []) aj)) [oc (Ih S B),Q0 (h:Int),Q2 ([c]),J,J]=Z [(.fr,.int ((S.lg.getD h 0+1:Nat):Int)),(.fr,.int 0),(.fr,.dct 0 [])] :=
   xv (e2v (qX Y Y x) Y Y) (xv Y (xv Y Y))
  have j:=iX (mv:=[L,L,B]) args Y Y (xw S (S.lg.getD h 0+1) (Z 0) [] (by omega) (by rw[W.lk];omega) (by rw[W.wy];omega)) Y;have hd:∀b:Sx,ak (JB (e2 ma (aa 2) (e2 aH (bj 3 (aa 0)) (aa 1))) (sR (bG 0 [] 0 [L,L] aA (ae (aa 1) (ae (aa 2) aj)))) eX)
    (ak (lV 3 (bG 0 [] 0 [L,L,B] aO (ae (e2 dH (e2 aH (bj 1 (aa 0)) (aa 1)) (Q3 1)) (ae (Q3 0) (ae (l9 0 []) aj)))))
    (ak (aT 4 (aa 1)) (ak (nz (ie (gS (aa 4)) (e2 dy (aa 2) (e2 aH (bj 3 (aa 0)) (aa 4)))) cx) b))) [oc (Ih S B),Q0 (h:Int),Q2 ([c]),J,J] =
    b [oc (Ih a B),Q0 (h:Int),Q2 ([c]),Q0 (S.lg.length:Int),pc (IH o)]:=λb =>
   (aq ((lO cd).trans Y)).trans ((aq (by
   unfold lV;rw[j];rfl)).trans ((aq Y).trans (aq (A xD (by decide) (Q0 (h:Int))))))
  cases o with
  |none =>
   obtain⟨rfl,rfl⟩:=Wj (Zg D);have fin:ak (JB (gS (aa 4)) (nA 0 [.fld 2] (aa 3) (bG 0 [] 0 [L,L] aA (ae (aa 4) (ae (aa 2) aj)))) eX) (ji 3) [oc (Ih a B),Q0 (h:Int),Q2 ([c]),Q0 (S.lg.length:Int),pc (IH J)] =
     Z (.rt (.fr,.int (S.lg.length:Int)) [oc (Ih a B),Q0 (h:Int),Q2 ([c]),Q0 (S.lg.length:Int),pc (IH J)]):=(aq ((lO Y).trans Y)).trans Y
   refine⟨s,by show S.lg.length<a.lg.length;omega,by show S.lg.length<=a.lg.length;omega,by show a.lg.length<=_;omega,?_⟩;exact Z5 (λz:Option Out=>z.bind _) ((hd _).trans fin)
  |some n =>
   obtain⟨⟨g,m⟩,e3,Q⟩:=Zt.mp D;obtain⟨rfl,rfl⟩:=Wj Q;obtain⟨C,H,v3,X,G⟩:=zU s (by show a.lg.length<=100001;omega) (by
    have:=t n Y;rw[q];exact this) y e3
   have j:=iX (mv:=[L,L]) (as:=ae (aa 4) (ae (aa 2) aj)) (b:=B) (r:=[Q0 (h:Int),Q2 ([c]),Q0 (S.lg.length:Int),Q0 (n:Int)]) Y Y Y G Y;have O:=zC (b:=B) (r:=[Q0 (h:Int),Q2 ([c]),Q0 (S.lg.length:Int),Q0 (n:Int)]) (e:=aa 3) (ev:=λ_=>Z (.fr,.int (m:Int))) (by rw[C.lk];omega) Y Y;have M:nA 0 [.fld 2] (aa 3) (bG 0 [] 0 [L,L] aA (ae (aa 4) (ae (aa 2) aj))) [oc (Ih a B),Q0 (h:Int),Q2 ([c]),Q0 (S.lg.length:Int),Q0 (n:Int)]=Z (.nx [oc (Ih ⟨g.lg,g.lk.set S.lg.length (Z m),g.wy⟩ B),Q0 (h:Int),Q2 ([c]),Q0 (S.lg.length:Int),Q0 (n:Int)]):=by
    unfold nA;rw[j];exact O
   refine⟨(C.link (n:=S.lg.length) (v:=m) H),by show S.lg.length<g.lg.length;omega,by show S.lg.length<=g.lg.length;omega,by show g.lg.length<=_;omega,?_⟩;exact Z5 (λz:Option Out=>z.bind _) ((hd _).trans ((aq ((oA (m:=.fr) Y).trans M)).trans Y))
theorem yp:∀{word:Us}{h r:Nat},WF S->S.lg.length+2*word.length<=100000->h<S.lg.length->(∀c∈word,97<=c/\c<=122)->hg S h word=Z (f,r) →
  WF f/\r<f.lg.length/\f.lg.length<=S.lg.length+2*word.length/\∀g:Up,∀a:T,∃l,forL (bK 3) cG (word.map λc=>T.str [c]) [oc (Ih S B),Q0 (h:Int),pc a,g]=Z (.nx [oc (Ih f B),Q0 (r:Int),pc a,l])
 |[],h,r,W,m,i,j,e=>by
  obtain⟨rfl,rfl⟩:=Wj (Zg e);exact⟨W,i,by simp,λg a=>⟨g,rfl⟩⟩
 |c :: word,h,r,W,m,i,j,e=>by
  obtain⟨⟨C,A⟩,e1,w⟩:=Zz.mp e;rw[Zb]at m;obtain⟨p,o,y,x,n⟩:=FV W (by omega) i (j c Zy) e1;obtain⟨u,t,z,s⟩:=yp p (by omega) o (λd hd=>j d (Zw _ hd)) w;refine⟨u,t,by rw[Zb];omega,λg a=>?_⟩;obtain⟨l,q⟩:=s (Q2 ([c])) a;refine⟨l,?_⟩;rw[Zo];refine(cI (U1:=[oc (Ih S B),Q0 (h:Int),pc a,Q2 ([c])]) Y ?_).trans q;have v:=iX (mv:=[L,L]) (as:=ae (aa 1) (ae (aa 3) aj)) (b:=B) (r:=[Q0 (h:Int),pc a,Q2 ([c])]) Y Y Y n Y;unfold cG lV;rw[v];rfl
def GD{a:Tx}(W:WF S)(l:S.lg.length+2*a.length<=100000)(m:h<S.lg.length)(n:∀c∈a,97<=c/\c<=122)(e:hg S h a=Z (b,r)) :
  WF b/\r<b.lg.length/\b.lg.length<=S.lg.length+2*a.length/\aU (Lh S) [.int (h:Int),.str a]=Z (Lh b,.int (r:Int)):=by
 obtain⟨i,g,f,d⟩:=yp W l m n e;obtain⟨o,q⟩:=d J (.str a);refine⟨i,g,f,?_⟩;unfold aU Ka;rw[Zr ⟨rfl,rfl⟩];have j:=(c7 (it:=h9 (aa 2)) Y Y).trans q;exact Z5 (λz:Option Out=>z.bind _) ((aq j).trans Y)
end T06
end
section
namespace AU
noncomputable abbrev Wd:=Us
noncomputable abbrev W(a:List Wd)(n:Nat):Wd:=a.getD n []
structure I(fr:Option Nat)(S:St)(nd:Wd->Option Nat)(wd:List Wd):Prop where
 wf:WF S
 len:wd.length=S.lg.length
 lg:∀n,n<wd.length->S.lg.getD n 0=(W wd n).length
 z:nd []=some 0
 wz:W wd 0=[]
 lt:∀{x n},nd x=some n->n<wd.length
 sf:∀{x n},nd x=some n->x <:+ W wd n
 top:∀{n},n<wd.length->nd (W wd n)=some n
 iv:∀{x y n},nd x=some n->x <:+ y->y <:+ W wd n->nd y=some n
 pre:∀{x c n},nd (x++[c])=some n->∃m,nd x=some m
 ND:∀{x y n},nd y=some n->x <:+ y->∃m,nd x=some m
 Ob:S.lk.getD 0 none=none
 lk:∀{n},0<n->n<wd.length->some n≠fr->∃m,S.lk.getD n none=some m/\(m<wd.length/\some m≠fr)/\W wd m <:+ W wd n/\(W wd m).length<(W wd n).length/\∀y,y <:+ W wd n->(W wd m).length<y.length->nd y=some n
 wy:∀{x n},nd x=some n->∀c,gW (S.wy.getD n []) c=nd (x++[c])
def b7{α:Type}{x y w:List α}(d:x <:+ w)(b:y <:+ w)(a:x.length<=y.length):x <:+ y:=List.suffix_of_suffix_length_le d b a
section
def I.up(H:I fr S nd wd):∀(k n:Nat)(x:Wd),(W wd n).length<=k->n<wd.length->Z n≠fr->x <:+ W wd n->∃m,nd x=Z m/\W wd m <:+ W wd n:=by
 intro k
 induction k with
 |zero =>
  intro n x e b f a;rw[(List.length_eq_zero_iff.mp (Nat.le_zero.mp e))]at a;have:x=[]:=Xp.mp a;subst this;exact⟨0,H.z,by rw[H.wz];exact WQ⟩
 |succ k l =>
  intro n x e b f a;by_cases h:n=0
  ·subst h;rw[H.wz]at a;have:x=[]:=Xp.mp a;subst this;exact⟨0,H.z,Yh _⟩
  ·obtain⟨m,t,⟨p,r⟩,g,s,o⟩:=H.lk (YZ h) b f;by_cases d:(W wd m).length<x.length
   ·exact⟨n,o x a d,Yh _⟩
   ·obtain⟨q,j,i⟩:=l m x (by lia) p r (b7 a g (by exact ZJ d));exact⟨q,j,i.trans g⟩
def I.Rx(H:I fr S nd wd)(b:n<wd.length)(d:Z n≠fr)(a:x <:+ W wd n):∃m,nd x=Z m/\W wd m <:+ W wd n:=H.up _ n x (Zn _) b d a
def I.all(H:I fr S nd wd)(e:q<wd.length)(f:Z q≠fr)(d:nd x=Z n)(b:nd y=Z n)(h:x <:+ W wd q):y <:+ W wd q:=by
 obtain⟨m,a,g⟩:=H.Rx e f h;rw[d]at a;cases a;exact(H.sf b).trans g
def I.inj(H:I fr S nd wd)(b:m<wd.length)(a:n<wd.length)(h:W wd m=W wd n):m=n:=by
 have:=H.top b;rw[h,H.top a]at this;exact(Zg this).symm
def I.way(H:I fr S nd wd){n c:Nat}(b:n<wd.length)(h:gW (S.wy.getD n []) c=Z a):nd (W wd n++[c])=Z a:=by
 rw[← H.wy (H.top b) c];exact h
def I.zero(H:I fr S nd wd)(h:nd x=Z 0):x=[]:=by
 have:=H.sf h;rw[H.wz]at this;exact Xp.mp this
def I.low(H:I fr S nd wd)(g:Z n≠fr)(a:S.lk.getD n J=Z m)(b:nd y=Z n):(W wd m).length<y.length/\m<wd.length/\W wd m <:+ W wd n/\Z m≠fr:=by
 by_cases f:n=0
 ·subst f;rw[H.Ob]at a;cases a
 ·obtain⟨l,i,⟨e,j⟩,d,h,o⟩:=H.lk (YZ f) (H.lt b) g;rw[i]at a;cases a;refine⟨Uy λhle=>?_,e,d,j⟩;have:=H.iv b (b7 (H.sf b) d hle) d;rw[H.top e]at this;cases this;exact YK _ h
def I.below(H:I fr S nd wd)(e:n<wd.length)(g:Z n≠fr)(a:S.lk.getD n J=Z q)(f:m<wd.length)(b:W wd m <:+ W wd n)(l:m≠n):W wd m <:+ W wd q:=by
 by_cases d:n=0
 ·subst d;rw[H.Ob]at a;cases a
 ·obtain⟨p,j,⟨s,_⟩,i,r,h⟩:=H.lk (YZ d) e g;rw[j]at a;cases a;refine b7 b i (ZJ λo=>l ?_);have:=h _ b o;rw[H.top f]at this;exact Zg this
def I.root(H:I fr S nd wd)(b:n<wd.length)(g:Z n≠fr)(d:S.lk.getD n J=J)(f:m<wd.length)(a:W wd m <:+ W wd n):m=n:=by
 have i:n=0:=Nat.eq_zero_of_not_pos λe=>by
  obtain⟨q,h,_⟩:=H.lk e b g;rw[h]at d;cases d
 subst i;rw[H.wz]at a;exact H.inj f b (by rw[H.wz,Xp.mp a])
def fR(a:List (List (Nat×Nat)))(n m c v d:Nat)(b:n<a.length):gW ((a.set n (pW (a.getD n []) c v)).getD m []) d=if m=n/\d=c then Z v else gW (a.getD m []) d:=by
 rw[fD];by_cases h:n=m
 ·subst h;rw[Zr ⟨rfl,b⟩,CN];by_cases hd:d=c
  ·rw[Zr hd,Zr ⟨rfl,hd⟩]
  ·rw[Zq hd,Zq (λz=>hd z.2)]
 ·rw[Zq (λz=>h z.1),Zq (λz=>h z.1.symm)]
def I.O9(H:I fr S nd wd){c v:Nat}:∀(k:Nat)(T:St)(n:Nat),n<wd.length->Z n≠fr->(W wd n).length<k->(∀m,m<wd.length->W wd m <:+ W wd n->T.lk.getD m J=S.lk.getD m J)->wd.length<=T.wy.length →
  (∀m i,m<wd.length->i<wd.length->W wd m <:+ W wd i->W wd i <:+ W wd n->gW (T.wy.getD m []) c=Z b->gW (T.wy.getD i []) c=Z b) →
  ∃o,NY c b v k T (Z n)=Z ⟨T.lg,T.lk,o⟩/\o.length=T.wy.length/\∀m d,gW (o.getD m []) d=if d=c/\m<wd.length/\W wd m <:+ W wd n/\gW (T.wy.getD m []) c=Z b then Z v else gW (T.wy.getD m []) d:=by
 intro k
 induction k with
 |zero=>intro T n _ _ h;lia
 |succ k D =>
  intro T n f t G y hw mono;have l:=Zi f hw;unfold NY;by_cases j:gW (T.wy.getD n []) c=Z b
  ·rw[Zr j,y n f (Yh _)];cases s:S.lk.getD n J with
   |none =>
    refine⟨T.wy.set n (pW (T.wy.getD n []) c v),by cases k<;>rfl,Ys,λm d=>?_⟩;rw[fR _ _ _ _ _ _ l];by_cases a:m=n/\d=c
    ·rw[Zr a,Zr ⟨a.2,by rw[a.1];exact f,by rw[a.1];exact Yh _,by rw[a.1];exact j⟩]
    ·rw[Zq a,Zq λz=>a ⟨H.root f t s z.2.1 z.2.2.1,z.1⟩]
   |some q =>
    obtain⟨F,C,r,A⟩:=H.low t s (H.top f);have ne:∀m,W wd m <:+ W wd q->m≠n:=λm a e=>by
     rw[e]at a;have:=a.length_le;lia
    obtain⟨o,e1,e2,e3⟩:=D ⟨T.lg,T.lk,T.wy.set n (pW (T.wy.getD n []) c v)⟩ q C A (by lia) (λm a p=>y m a (p.trans r)) (by rw[Ys];exact hw) (λm i a E p u h=>by
     have w:=h;rw[fR _ _ _ _ _ _ l,Zq (λz=>ne m (p.trans u) z.1)]at w;rw[fR _ _ _ _ _ _ l,Zq (λz=>ne i u z.1)];exact mono m i a E p (u.trans r) w)
    refine⟨o,e1,by rw[e2];exact Ys,λm d=>?_⟩;rw[e3 m d];by_cases a:m=n
    ·subst a;rw[Zq (λz=>ne m z.2.2.1 Y),fR _ _ _ _ _ _ l];by_cases hd:d=c
     ·rw[Zr ⟨rfl,hd⟩,Zr ⟨hd,f,Yh _,j⟩]
     ·rw[Zq (λz=>hd z.2),Zq (λz=>hd z.1)]
    ·have x:∀d,gW ((T.wy.set n (pW (T.wy.getD n []) c v)).getD m []) d=gW (T.wy.getD m []) d:=λd=>by rw[fR _ _ _ _ _ _ l,Zq (λz=>a z.1)]
     rw[x,x];by_cases g:d=c/\m<wd.length/\W wd m <:+ W wd n/\gW (T.wy.getD m []) c=Z b
     ·rw[Zr g,Zr ⟨g.1,g.2.1,H.below f t s g.2.1 g.2.2.1 a,g.2.2.2⟩]
     ·rw[Zq g,Zq λz=>g ⟨z.1,z.2.1,z.2.2.1.trans r,z.2.2.2⟩]
  ·rw[Zq j];refine⟨T.wy,rfl,rfl,λm d=>?_⟩;rw[Zq λz=>j (mono m n z.2.1 f z.2.2.1 (Yh _) z.2.2.2)]
def I.Pa(H:I fr S nd wd){c v:Nat}:∀(k:Nat)(T:St)(n:Nat),n<wd.length->Z n≠fr->(W wd n).length<k->(∀m,m<wd.length->W wd m <:+ W wd n->T.lk.getD m J=S.lk.getD m J)->wd.length<=T.wy.length →
  (∀m i,m<wd.length->i<wd.length->W wd m <:+ W wd i->W wd i <:+ W wd n->(gW (T.wy.getD i []) c).isSome->(gW (T.wy.getD m []) c).isSome) →
  ∃y s,up1 c v k T (Z n)=Z (⟨T.lg,T.lk,y⟩,s)/\y.length=T.wy.length/\(∀m d,gW (y.getD m []) d=if d=c/\m<wd.length/\W wd m <:+ W wd n/\gW (T.wy.getD m []) c=J then Z v else gW (T.wy.getD m []) d) ∧
   (s=J->∀m,m<wd.length->W wd m <:+ W wd n->gW (T.wy.getD m []) c=J) ∧
   ∀p,s=Z p->p<wd.length/\W wd p <:+ W wd n/\(gW (T.wy.getD p []) c).isSome/\∀m,m<wd.length->W wd m <:+ W wd n->(W wd p).length<(W wd m).length->gW (T.wy.getD m []) c=J:=by
 intro k
 induction k with
 |zero=>intro T n _ _ h;lia
 |succ k X =>
  intro T n f o hk M hw mono;have r:=Zi f hw;unfold up1;by_cases l:(gW (T.wy.getD n []) c).isSome=B
  ·rw[Zr l];refine⟨T.wy,Z n,rfl,rfl,λm d=>?_,(λh=>nomatch h),λp t=>?_⟩
   ·rw[Zq λz=>?_];have:=mono m n z.2.1 f z.2.2.1 (Yh _) l;rw[z.2.2.2]at this;cases this
   ·cases t;refine⟨f,Yh _,l,λm a b j=>?_⟩;have:=b.length_le;lia
  ·have w:gW (T.wy.getD n []) c=J:=by
    cases h:gW (T.wy.getD n []) c with
    |none=>rfl
    |some x=>rw[h]at l;exact absurd Y l
   rw[Zq l,M n f (Yh _)];cases j:S.lk.getD n J with
   |none =>
    refine⟨T.wy.set n (pW (T.wy.getD n []) c v),J,by cases k<;>rfl,Ys,λm d=>?_,λ_ m a b=>?_,(λp t=>nomatch t)⟩
    ·rw[fR _ _ _ _ _ _ r];by_cases a:m=n/\d=c
     ·rw[Zr a,Zr ⟨a.2,by rw[a.1];exact f,by rw[a.1];exact Yh _,by rw[a.1];exact w⟩]
     ·rw[Zq a,Zq λz=>a ⟨H.root f o j z.2.1 z.2.2.1,z.1⟩]
    ·rw[H.root f o j a b];exact w
   |some q =>
    refine L2.ai λP_ U=>?_;obtain⟨l1,R,A,Q⟩:=H.low o j (H.top f);have ne:∀m,W wd m <:+ W wd q->m≠n:=λm a e=>by
     rw[e]at a;have:=a.length_le;lia
    obtain⟨y,s,e1,e2,e3,e4,e5⟩:=X ⟨T.lg,T.lk,T.wy.set n (pW (T.wy.getD n []) c v)⟩ q R Q (by lia) (λm a b=>M m a (b.trans A)) (by rw[Ys];exact hw) (λm i a JZ b C h=>by
     have E:=h;rw[fR _ _ _ _ _ _ r,Zq (λz=>ne i C z.1)]at E;rw[fR _ _ _ _ _ _ r,Zq (λz=>ne m (b.trans C) z.1)];exact mono m i a JZ b (C.trans A) E)
    refine U ?_;have old:∀m,W wd m <:+ W wd q->gW ((T.wy.set n (pW (T.wy.getD n []) c v)).getD m []) c=gW (T.wy.getD m []) c:=λm a=>by rw[fR _ _ _ _ _ _ r,Zq (λz=>ne m a z.1)]
    refine⟨y,s,e1,by rw[e2];exact Ys,λm d=>?_,λho m a b=>?_,λp t=>?_⟩
    ·rw[e3 m d];by_cases a:m=n
     ·subst a;rw[Zq (λz=>ne m z.2.2.1 Y),fR _ _ _ _ _ _ r];by_cases hd:d=c
      ·rw[Zr ⟨rfl,hd⟩,Zr ⟨hd,f,Yh _,w⟩]
      ·rw[Zq (λz=>hd z.2),Zq (λz=>hd z.1)]
     ·have F:∀d,gW ((T.wy.set n (pW (T.wy.getD n []) c v)).getD m []) d=gW (T.wy.getD m []) d:=λd=>by rw[fR _ _ _ _ _ _ r,Zq (λz=>a z.1)]
      rw[F,F];by_cases g:d=c/\m<wd.length/\W wd m <:+ W wd n/\gW (T.wy.getD m []) c=J
      ·rw[Zr g,Zr ⟨g.1,g.2.1,H.below f o j g.2.1 g.2.2.1 a,g.2.2.2⟩]
      ·rw[Zq g,Zq λz=>g ⟨z.1,z.2.1,z.2.2.1.trans A,z.2.2.2⟩]
    ·by_cases u:m=n
     ·rw[u];exact w
     ·have hb:=H.below f o j a b u;rw[← old m hb];exact e4 ho m a hb
    ·obtain⟨P,D,O,N⟩:=e5 p t;have G:=O;rw[old p D]at G;refine⟨P,D.trans A,G,λm a b Js=>?_⟩;by_cases u:m=n
     ·rw[u];exact w
     ·have hb:=H.below f o j a b u;rw[← old m hb];exact N m a hb Js
end
def ER(g:97<=c/\c<=122):∀(k:Nat)(S a:St)(o:Option Nat),WF S->v<S.lg.length->NY c b v k S o=Z a->WF a:=by
 intro k
 induction k with
 |zero =>
  intro S a o H d e;cases o with
  |none=>cases (e);exact H
  |some n=>cases e
 |succ k f =>
  intro S a o H d e;cases o with
  |none=>cases (e);exact H
  |some n =>
   unfold NY at e;split at e
   ·exact f ⟨S.lg,S.lk,S.wy.set n (pW (S.wy.getD n []) c v)⟩ a _ (H.way (n:=n) d g) d e
   ·cases e;exact H
def DX(g:97<=c/\c<=122):∀(k:Nat)(S a:St)(o b:Option Nat),WF S->v<S.lg.length->up1 c v k S o=Z (a,b)->WF a:=by
 intro k
 induction k with
 |zero =>
  intro S a o b H d e;cases o with
  |none=>cases (e);exact H
  |some n=>cases e
 |succ k f =>
  intro S a o b H d e;cases o with
  |none=>cases (e);exact H
  |some n =>
   unfold up1 at e;split at e
   ·cases e;exact H
   ·exact f ⟨S.lg,S.lk,S.wy.set n (pW (S.wy.getD n []) c v)⟩ a _ b (H.way (n:=n) d g) d e
def jg{α:Type}{x y:List α}{a b:α}(h:x++[a] <:+ y++[b]):a=b/\x <:+ y:=by
 obtain⟨t,e⟩:=h;rw[← Ze]at e;obtain⟨e1,e2⟩:=List.append_inj' e Y;exact⟨by simpa using e2,⟨t,e1⟩⟩
def gO{α:Type}{x y:List α}(a:α)(h:x <:+ y):x++[a] <:+ y++[a]:=by
 obtain⟨t,e⟩:=h;exact⟨t,by rw[← e,Ze]⟩
noncomputable def iK(b:Wd->Option Nat)(a l h:Nat)(x:Wd):Option Nat:=if b x=Z a/\x.length<=l then Z h else b x
theorem I.split(H:I O S o b)(G:n<b.length)(hf:Z n≠O)(hc:97<=c/\c<=122)(ho:gW (S.wy.getD n []) c=Z a)(OQ:Z a≠O)(Nm:O≠Z b.length)(Ke:S.lg.getD a 0≠S.lg.getD n 0+1)(hk:(W b n).length<1000) :
  ∃S',N8 S n c=Z (S',S.lg.length)/\I O S' (iK o a ((W b n).length+1) b.length) (b++[W b n++[c]]):=by
 have M:=H.len.symm;have hw:=H.way G ho;have hold:=H.lt hw;have t:=H.sf hw;have lw:(W b n++[c]).length=(W b n).length+1:=by rw[Zv];rfl
 rw[H.lg a hold,H.lg n G]at Ke;have Js:(W b n).length+1<(W b a).length:=by
  have:=t.length_le;rw[lw]at this;lia
 have o0:a≠0:=λe=>by
  rw[e,H.wz]at Js;simp at Js
 have QS:0<b.length:=by rw[H.len];exact H.wf.pos
 have l1:S.lk.length=b.length:=by rw[H.wf.lk,M]
 have l2:S.wy.length=b.length:=by rw[H.wf.wy,M]
 have Oc:∀m,((S.lk++[S.lk.getD a J]).set a (Z S.lg.length)).getD m J=if m=a then Z b.length else if m=b.length then S.lk.getD a J else S.lk.getD m J:=λm=>by
  rw[fD,bw,l1,M];by_cases h:m=a
  ·rw[Zr ⟨h.symm,by rw[Zv,l1];lia⟩,Zr h]
  ·rw[Zq (λz=>h z.1.symm),Zq h]
 have KY:∀m,(S.wy++[S.wy.getD a []]).getD m []=if m=b.length then S.wy.getD a [] else S.wy.getD m []:=λm=>by rw[bw,l2]
 have MP:∀m,m<b.length->(S.wy++[S.wy.getD a []]).getD m []=S.wy.getD m []:=λm f=>by rw[KY,Zq (ZR f)]
 obtain⟨w2,e1,e2,e3⟩:=H.O9 (c:=c) (v:=S.lg.length) 1000 ⟨S.lg++[S.lg.getD n 0+1],(S.lk++[S.lk.getD a J]).set a (Z S.lg.length),S.wy++[S.wy.getD a []]⟩ n G hf hk (λm f hs=>by
   have:=hs.length_le;rw[Oc,Zq (λe=>by rw[e]at this;lia),Zq (ZR f)])
  (by rw[Zv,l2];exact Zd _ _)
  (λm u f D hs Jx h=>by
   have C:=h;rw[MP m f]at C;rw[MP u D,H.wy (H.top D) c];rw[H.wy (H.top f) c]at C;exact H.iv C (gO c hs) ((gO c Jx).trans t))
 have wn:=H.wf.P4 a;have W1:=H.wf.more (l:=S.lg.getD n 0+1) (λm f=>H.wf.up a m f) (λd m f=>H.wf.on a d m f) wn.1 wn.2;have hlen:(S.lg++[S.lg.getD n 0+1]).length=S.lg.length+1:=by rw[Zv];rfl
 have W2:=W1.link (n:=a) (v:=S.lg.length) (by lia);have Sn:=ER hc 1000 _ _ _ W2 (by lia) e1;refine⟨⟨S.lg++[S.lg.getD n 0+1],(S.lk++[S.lk.getD a J]).set a (Z S.lg.length),w2⟩,?_,?_⟩
 ·unfold N8;rw[ho,Zs,Zq (by rw[H.lg a hold,H.lg n G];exact Ke),e1];rfl
 have Wn:∀m,W (b++[W b n++[c]]) m=if m=b.length then W b n++[c] else W b m:=λm=>bw b _ _ m
 have s:W (b++[W b n++[c]]) b.length=W b n++[c]:=by rw[Wn,Zr Y]
 have g:∀{m},m<b.length->W (b++[W b n++[c]]) m=W b m:=λ{m} f=>by rw[Wn,Zq (ZR f)]
 have ft:(b++[W b n++[c]]).length=b.length+1:=by rw[Zv];rfl
 have tell:∀{x m},iK o a ((W b n).length+1) b.length x=Z m->(m=b.length/\o x=Z a/\x.length<=(W b n).length+1)\/(m<b.length/\o x=Z m/\¬(m=a/\x.length<=(W b n).length+1)):=λ{x m} h=>by
  unfold iK at h;split at h
  ·rename_i q;cases h;exact .inl ⟨rfl,q.1,q.2⟩
  ·rename_i q;exact .inr ⟨H.lt h,h,λz=>q ⟨by rw[h,z.1],z.2⟩⟩
 have R:∀{x},o x=Z a->x.length<=(W b n).length+1->iK o a ((W b n).length+1) b.length x=Z b.length:=λ{x} A h2=>Zr ⟨A,h2⟩;have tO:∀{x m},o x=Z m->¬(m=a/\x.length<=(W b n).length+1)->iK o a ((W b n).length+1) b.length x=Z m:=λ{x m} A h2=>by
  unfold iK;rw[Zq (λz=>h2 ⟨by rw[A]at z;exact Zg z.1,z.2⟩),A]
 have N2:∀{x m},o x=Z m->∃u,iK o a ((W b n).length+1) b.length x=Z u:=λ{x m} h=>by
  unfold iK;split
  ·exact⟨_,rfl⟩
  ·exact⟨m,h⟩
 have un:∀{x m},iK o a ((W b n).length+1) b.length x=Z m->∃u,o x=Z u:=λ{x m} h=>(tell h).elim (λz=>⟨_,z.2.1⟩) λz=>⟨_,z.2.1⟩
 refine⟨Sn,by rw[ft,hlen,M],λm f=>?_,tO H.z (λz=>o0 z.1.symm),by rw[g QS];exact H.wz,λ{x m} h=>by rcases tell h with z | z<;>lia,λ{x m} h=>?_,λ{m} f=>?_,λ{x y m} h P i=>?_,λ{x d m} h=>?_,λ{x y m} h P=>?_,?_,λ{m} h0 f Tn=>?_,λ{x m} h d=>?_⟩
 ·rw[ft]at f;rw[bw,M];by_cases e:m=b.length
  ·rw[Zr e,e,s,H.lg n G,lw]
  ·rw[Zq e,g (by lia),H.lg m (by lia)]
 ·rcases tell h with⟨rfl,j,E⟩ | ⟨F,j,_⟩
  ·rw[s];exact b7 (H.sf j) t (by rw[lw];exact E)
  ·rw[g F];exact H.sf j
 ·rw[ft]at f;by_cases e:m=b.length
  ·rw[e,s];exact R hw (by rw[lw];exact Zn _)
  ·rw[g (by lia)];exact tO (H.top (by lia)) (λz=>by have:=z.2;rw[z.1]at this;lia)
 ·rcases tell h with⟨rfl,j,E⟩ | ⟨F,j,E⟩
  ·rw[s]at i;have:=i.length_le;rw[lw]at this;exact R (H.iv j P (i.trans t)) this
  ·rw[g F]at i;exact tO (H.iv j P i) (λz=>E ⟨z.1,ZU P.length_le z.2⟩)
 ·obtain⟨u,C⟩:=un h;obtain⟨q,p⟩:=H.pre C;exact N2 p
 ·obtain⟨u,C⟩:=un h;obtain⟨q,p⟩:=H.ND C P;exact N2 p
 ·rw[Oc,Zq (YN o0),Zq (by exact ZR QS)];exact H.Ob
 ·rw[ft]at f;show ∃q,((S.lk++[S.lk.getD a J]).set a (Z S.lg.length)).getD m J=Z q/\_;rw[Oc,ft];refine L2.ai λP_ N=>?_;obtain⟨q,q1,⟨Q,X⟩,q3,q4,q5⟩:=H.lk (YZ o0) hold OQ;obtain⟨lo,_⟩:=H.low OQ q1 hw;refine N ?_;rw[lw]at lo;by_cases e:m=a
  ·subst e;rw[Zr Y];refine⟨b.length,rfl,⟨by exact Y0 _,λz=>Nm z.symm⟩,?_,?_,λy i w=>?_⟩
   ·rw[s,g hold];exact t
   ·rw[s,g hold,lw];exact Js
   ·rw[s,lw]at w;rw[g hold]at i;exact tO (H.iv hw (b7 t i (by rw[lw];exact ZO w)) i) (λz=>by have:=z.2;lia)
  ·rw[Zq e];by_cases eL:m=b.length
   ·subst eL;rw[Zr Y,q1];refine⟨q,rfl,⟨by exact Yl Q,X⟩,?_,?_,λy i w=>?_⟩
    ·rw[s,g Q];exact b7 q3 t (by rw[lw];exact ZO lo)
    ·rw[s,g Q,lw];exact lo
    ·rw[s]at i;rw[g Q]at w;have:=i.length_le;rw[lw]at this;exact R (q5 y (i.trans t) w) this
   ·rw[Zq eL];have D:m<b.length:=by lia
    refine L2.ai λP_ N=>?_;obtain⟨r,r1,⟨r2,U⟩,r3,r4,r5⟩:=H.lk h0 D Tn;refine N ?_;rw[r1];refine⟨r,rfl,⟨by exact Yl r2,U⟩,by rw[g r2,g D];exact r3,by rw[g r2,g D];exact r4,λy i w=>?_⟩;rw[g D]at i;rw[g r2]at w;exact tO (r5 y i w) (λz=>e z.1)
 ·rw[e3 m d];rcases tell h with⟨rfl,j,E⟩ | ⟨F,j,E⟩
  ·rw[Zq (λz=>YK _ z.2.1),KY,Zr Y,H.wy j d];unfold iK;rw[Zq];intro z;have A:=z.1;rw[← H.wy j d,H.wy (H.top hold) d]at A;have:=(H.sf A).length_le;rw[Zv,ZA]at this;lia
  ·rw[MP m F,H.wy j c,H.wy j d];unfold iK;by_cases p:o (x++[d])=Z a/\(x++[d]).length<=(W b n).length+1
   ·refine L2.ai λP_ N=>?_;obtain⟨rfl,hx⟩:=jg (b7 (H.sf p.1) t (by rw[lw];exact p.2));obtain⟨u,m1,m2⟩:=H.Rx G hf hx;rw[j]at m1;cases m1;refine N ?_;rw[Zr ⟨rfl,F,m2,p.1⟩,Zr p,M]
   ·rw[Zq p,Zq];rintro⟨rfl,_,a3,a4⟩;refine p ⟨a4,?_⟩;have b1:=(H.sf j).length_le;have b2:=a3.length_le;rw[Zv,ZA];lia
end AU
end
section
namespace AU
open Classical in
noncomputable def iz(a:Wd->Option Nat)(w:Wd)(f:Nat)(x:Wd):Option Nat:=match a x with
 |some m=>Z m
 |none=>if x <:+ w then Z f else J
def dq(h:a x=Z m):iz a w f x=Z m:=by
 unfold iz;rw[h]
def fC(h:a x=J)(b:x <:+ w):iz a w f x=Z f:=by
 unfold iz;rw[h];exact Zr b
def cE(h:iz a w f x=Z m):a x=Z m\/(m=f/\a x=J/\x <:+ w):=by
 unfold iz at h;split at h
 ·rename_i q e;cases h;exact .inl e
 ·rename_i e;split at h
  ·rename_i b;cases h;exact .inr ⟨rfl,e,b⟩
  ·cases h
def Aa{α:Type}{y t:List α}{c:α}(h:y <:+ t++[c])(d:y≠[]):∃a,y=a++[c]/\a <:+ t:=by
 rcases List.eq_nil_or_concat y with e | ⟨a,b,e⟩
 ·exact absurd e d
 ·rw[List.concat_eq_append]at e;subst e;obtain⟨e1,e2⟩:=jg h;exact⟨a,by rw[e1],e2⟩
section
def I.fresh(H:I J S nd wd)(t:h<wd.length)(hc:97<=c/\c<=122)(hn:gW (S.wy.getD h []) c=J)(hk:(W wd h).length<1000) :
  ∃D u,up1 c S.lg.length 1000 ⟨S.lg++[S.lg.getD h 0+1],S.lk++[Z 0],S.wy++[[]]⟩ (Z h)=Z (D,u)/\I (Z wd.length) D (iz nd (W wd h++[c]) wd.length) (wd++[W wd h++[c]])/\D.lk.getD wd.length J=Z 0/\D.lg.length=S.lg.length+1 ∧
   (∀m,m<wd.length->(gW (S.wy.getD m []) c).isSome->gW (D.wy.getD m []) c=gW (S.wy.getD m []) c) ∧
   (u=J->∀m,m<wd.length->W wd m <:+ W wd h->gW (S.wy.getD m []) c=J) ∧
   ∀p,u=Z p->p<wd.length/\W wd p <:+ W wd h/\(gW (S.wy.getD p []) c).isSome/\∀m,m<wd.length->W wd m <:+ W wd h->(W wd p).length<(W wd m).length->gW (S.wy.getD m []) c=J:=by
 have C:=H.len.symm;have l1:S.lk.length=wd.length:=by rw[H.wf.lk,C]
 have l2:S.wy.length=wd.length:=by rw[H.wf.wy,C]
 have QS:0<wd.length:=by rw[H.len];exact H.wf.pos
 have O:∀m,(S.lk++[Z 0]).getD m J=if m=wd.length then Z 0 else S.lk.getD m J:=λm=>by rw[bw,l1]
 have KY:∀m,(S.wy++[[]]).getD m []=if m=wd.length then [] else S.wy.getD m []:=λm=>by rw[bw,l2]
 have s:∀m,m<wd.length->(S.wy++[[]]).getD m []=S.wy.getD m []:=λm b=>by rw[KY,Zq (ZR b)]
 obtain⟨w2,u,e1,e2,e3,e4,e5⟩:=H.Pa (c:=c) (v:=S.lg.length) 1000 ⟨S.lg++[S.lg.getD h 0+1],S.lk++[Z 0],S.wy++[[]]⟩ h t (λz=>nomatch z) hk (λm b _=>by
   rw[O,Zq (ZR b)])
  (by rw[Zv,l2];exact Zd _ _)
  (λm m' b j g Jx q=>by
   have X:=q;rw[s m' j,H.wy (H.top j) c]at X;rw[s m b,H.wy (H.top b) c];obtain⟨r,f⟩:=YW.mp X;obtain⟨U,Q⟩:=H.ND f (gO c g);rw[Q];rfl)
 have hlen:(S.lg++[S.lg.getD h 0+1]).length=S.lg.length+1:=by rw[Zv];rfl
 have Sn:=DX hc 1000 _ _ _ _ (H.wf.more (l:=S.lg.getD h 0+1) (o:=Z 0) (w:=[]) (λm b=>by cases b;exact H.wf.pos) (λd m b=>by cases b) Xy (λp R=>nomatch R)) (by lia) e1;have lw:(W wd h++[c]).length=(W wd h).length+1:=by rw[Zv];rfl
 have Wn:∀m,W (wd++[W wd h++[c]]) m=if m=wd.length then W wd h++[c] else W wd m:=λm=>bw wd _ _ m
 have N:W (wd++[W wd h++[c]]) wd.length=W wd h++[c]:=by rw[Wn,Zr Y]
 have i:∀{m},m<wd.length->W (wd++[W wd h++[c]]) m=W wd m:=λ{m} b=>by rw[Wn,Zq (ZR b)]
 have ft:(wd++[W wd h++[c]]).length=wd.length+1:=by rw[Zv];rfl
 refine⟨⟨S.lg++[S.lg.getD h 0+1],S.lk++[Z 0],w2⟩,u,e1,?_,by rw[O,Zr Y],hlen,λm b g=>?_,λho m b g=>?_,λp R=>?_⟩
 rotate_left
 ·rw[e3 m c];rw[s m b,Zq (λz=>by rw[z.2.2.2]at g;cases g)]
 ·have:=e4 ho m b g;have F:=this;rw[s m b]at F;exact F
 ·obtain⟨p1,p2,p3,p4⟩:=e5 p R;have Qo:=p3;rw[s p p1]at Qo;refine⟨p1,p2,Qo,λm b g M=>?_⟩;have:=p4 m b g M;have F:=this;rw[s m b]at F;exact F
 refine⟨Sn,by rw[ft];rw[hlen,C],λm b=>?_,dq H.z,by rw[i QS];exact H.wz,λ{x m} q=>?_,λ{x m} q=>?_,λ{m} b=>?_,λ{x y m} q E n=>?_,λ{x d m} q=>?_,λ{x y m} q E=>?_,?_,λ{m} h0 b Tn=>?_,λ{x m} q d=>?_⟩
 ·rw[ft]at b;rw[bw,C];by_cases e:m=wd.length
  ·rw[Zr e,e,N,H.lg h t,lw]
  ·rw[Zq e,i (by lia),H.lg m (by lia)]
 ·rw[ft];rcases cE q with z | z
  ·have:=H.lt z;exact Yl this
  ·lia
 ·rcases cE q with z | ⟨rfl,_,z⟩
  ·rw[i (H.lt z)];exact H.sf z
  ·rw[N];exact z
 ·rw[ft]at b;by_cases e:m=wd.length
  ·rw[e,N];exact fC (by rw[← H.wy (H.top t) c];exact hn) (Yh _)
  ·rw[i (by lia)];exact dq (H.top (by lia))
 ·rcases cE q with z | ⟨rfl,G,z2⟩
  ·rw[i (H.lt z)]at n;exact dq (H.iv z E n)
  ·rw[N]at n;refine fC ?_ n;cases e:nd y with
   |none=>rfl
   |some r =>
    obtain⟨U,f⟩:=H.ND e E;rw[G]at f;cases f
 ·rcases cE q with z | ⟨_,_,z⟩
  ·obtain⟨r,f⟩:=H.pre z;exact⟨r,dq f⟩
  ·obtain⟨_,A⟩:=jg z;obtain⟨r,f⟩:=H.ND (H.top t) A;exact⟨r,dq f⟩
 ·rcases cE q with z | ⟨_,_,z⟩
  ·obtain⟨r,f⟩:=H.ND z E;exact⟨r,dq f⟩
  ·cases e:nd x with
   |none=>exact⟨_,fC e (E.trans z)⟩
   |some r=>exact⟨r,dq e⟩
 ·rw[O,Zq (by exact ZR QS)];exact H.Ob
 ·rw[ft]at b;have j:m<wd.length:=by
   have:m≠wd.length:=λe=>Tn (by rw[e]);lia
  show ∃q,(S.lk++[Z 0]).getD m J=Z q/\_;rw[O,Zq (ZR j),ft];refine L2.ai λP_ P=>?_;obtain⟨r,r1,⟨r2,_⟩,r3,r4,r5⟩:=H.lk h0 j (λz=>nomatch z);refine P ?_;refine⟨r,r1,⟨by exact Yl r2,λz=>?_⟩,by rw[i r2,i j];exact r3,by rw[i r2,i j];exact r4,λy n M=>?_⟩
  ·have:=Zg z;lia
  ·rw[i j]at n;rw[i r2]at M;exact dq (r5 y n M)
 ·rw[e3 m d];rcases cE q with z | ⟨rfl,G,z2⟩
  ·have b:=H.lt z;rw[s m b,H.wy z c,H.wy z d];cases e:nd (x++[d]) with
   |some r =>
    rw[dq e,Zq];rintro⟨rfl,_,_,a⟩;rw[e]at a;cases a
   |none =>
    by_cases g:x++[d] <:+ W wd h++[c]
    ·refine L2.ai λP_ P=>?_;obtain⟨rfl,A⟩:=jg g;obtain⟨m',m1,m2⟩:=H.Rx t (λz=>nomatch z) A;rw[z]at m1;cases m1;refine P ?_;rw[fC e g,Zr ⟨rfl,b,m2,e⟩,C]
    ·have:iz nd (W wd h++[c]) wd.length (x++[d])=J:=by
      unfold iz;rw[e];exact Zq g
     rw[this,Zq];rintro⟨rfl,_,a,_⟩;exact g (gO d ((H.sf z).trans a))
  ·rw[Zq (λa=>YK _ a.2.1),KY,Zr Y];have e:nd (x++[d])=J:=by
    cases e:nd (x++[d]) with
    |none=>rfl
    |some r =>
     obtain⟨U,f⟩:=H.pre e;rw[G]at f;cases f
   have:iz nd (W wd h++[c]) wd.length (x++[d])=J:=by
    unfold iz;rw[e];refine Zq λg=>?_;obtain⟨_,A⟩:=jg g;obtain⟨r,f⟩:=H.ND (H.top t) A;rw[G]at f;cases f
   rw[this];rfl
def I.fix{f m:Nat}(H:I (Z f) S nd wd)(j:f<wd.length)(b:m<wd.length)(h:W wd m <:+ W wd f)(a:(W wd m).length<(W wd f).length)(g:∀y,y <:+ W wd f->(W wd m).length<y.length->nd y=Z f):I J ⟨S.lg,S.lk.set f (Z m),S.wy⟩ nd wd:=by
 refine⟨H.wf.link (by rw[← H.len];exact b),H.len,H.lg,H.z,H.wz,H.lt,H.sf,H.top,H.iv,H.pre,H.ND,?_,λ{n} l i _=>?_,H.wy⟩
 ·rw[fD,Zq (λz=>(λe=>by
  rw[e,H.wz]at a;simp at a) z.1)]
  exact H.Ob
 ·show ∃q,(S.lk.set f (Z m)).getD n J=Z q/\_;rw[fD];by_cases e:f=n
  ·subst e;rw[Zr ⟨rfl,(by rw[H.wf.lk,← H.len];exact j)⟩];exact⟨m,rfl,⟨b,λz=>nomatch z⟩,h,a,g⟩
  ·rw[Zq (λz=>e z.1)];obtain⟨r,r1,⟨r2,_⟩,d⟩:=H.lk l i (λz=>e (Zg z).symm);exact⟨r,r1,⟨r2,λz=>nomatch z⟩,d⟩
end
end AU
end
section
namespace AU
structure Ru(nd JG:Wd->Option Nat)(w:Wd):Prop where
 eq:∀{x y m n},JG x=some m->JG y=some n->(m=n↔nd x=nd y/\(x <:+ w↔y <:+ w))
section
def I.QA(H:I fr S nd wd){n c:Nat}(t:n<wd.length)(U:Z n≠fr)(X:97<=c/\c<=122)(s:gW (S.wy.getD n []) c=Z a)(j:Z a≠fr)(o:fr≠Z wd.length)(R:(W wd n).length<1000) :
  ∃i r p e,N8 S n c=Z (i,r)/\I fr i p e/\r<e.length/\Z r≠fr/\W e r=W wd n++[c]/\(∀m,m<wd.length->W e m=W wd m)/\wd.length<=e.length/\e.length<=wd.length+1 ∧
   (∀x,(∃m,p x=Z m) ↔ ∃m,nd x=Z m)/\Ru nd p (W wd n++[c])/\∀x f,f≠a->nd x=Z f->p x=Z f:=by
 have hw:=H.way t s;have hold:=H.lt hw;have M:=H.sf hw;have lw:(W wd n++[c]).length=(W wd n).length+1:=by rw[Zv];rfl
 by_cases w:S.lg.getD a 0=S.lg.getD n 0+1
 ·have v:W wd a=W wd n++[c]:=by
   have:=w;rw[H.lg a hold,H.lg n t]at this;exact(M.eq_of_length (by rw[lw,this])).symm
  refine⟨S,a,nd,wd,?_,H,hold,j,v,λm _=>rfl,Zn _,Nat.le_succ _,λx=>Iff.rfl,⟨λ{x y m k} d b=>?_⟩,λx f _ h=>h⟩
  ·unfold N8;rw[s,Zs,Zr w]
  ·constructor
   ·rintro rfl;exact⟨by rw[d,b],λh=>by rw[← v]at h ⊢;exact H.all hold j d b h,λh=>by rw[← v]at h ⊢;exact H.all hold j b d h⟩
   ·rintro⟨h,_⟩;rw[d,b]at h;exact Zg h
 ·obtain⟨i,e1,A⟩:=H.split t U X s j o w R;have F:W (wd++[W wd n++[c]]) wd.length=W wd n++[c]:=(bw wd _ _ _).trans (Zr Y);have ft:(wd++[W wd n++[c]]).length=wd.length+1:=by rw[Zv];rfl
  have inv:∀{x m},iK nd a ((W wd n).length+1) wd.length x=Z m->(m=wd.length/\nd x=Z a/\x.length<=(W wd n).length+1)\/nd x=Z m:=λ{x m} h=>by
   unfold iK at h;split at h
   ·rename_i q;cases h;exact .inl ⟨rfl,q.1,q.2⟩
   ·exact .inr h
  have G:∀{x},nd x=Z a->(x.length<=(W wd n).length+1↔x <:+ W wd n++[c]):=λ{x} h=>⟨λQ=>b7 (H.sf h) M (by rw[lw];exact Q),λg=>by have:=g.length_le;rw[lw]at this;exact this⟩
  refine⟨i,S.lg.length,_,_,e1,A,by rw[ft,← H.len];exact Y0 _,by rw[← H.len];exact λz=>o z.symm,by rw[← H.len];exact F,(λm P=>(bw wd _ _ m).trans (Zq (ZR P))),by lia,by exact Y9 ft,λx=>⟨λ⟨m,h⟩=>(inv h).elim (λz=>⟨_,z.2.1⟩) λz=>⟨_,z⟩,λ⟨m,h⟩=>?_⟩,⟨λ{x y m k} d b=>?_⟩,λx f u h=>?_⟩
  ·unfold iK;split
   ·exact⟨_,rfl⟩
   ·exact⟨m,h⟩
  ·constructor
   ·rintro rfl;have C:wd.length<(wd++[W wd n++[c]]).length:=by lia
    have E:=λh=>A.all C (λz=>o z.symm) d b h;have D:=λh=>A.all C (λz=>o z.symm) b d h;rw[F]at E D;refine⟨?_,E,D⟩;rcases inv d with⟨z1,N,_⟩ | z
    ·rcases inv b with⟨_,O,_⟩ | y
     ·rw[N,O]
     ·have:=H.lt y;lia
    ·rcases inv b with⟨y1,_,_⟩ | y
     ·have:=H.lt z;lia
     ·rw[z,y]
   ·rintro⟨h,g⟩;have:iK nd a ((W wd n).length+1) wd.length x=iK nd a ((W wd n).length+1) wd.length y:=by
     unfold iK;rw[h];by_cases q:nd y=Z a
     ·have e1:=G (by rw[h,q]);have e2:=G q;by_cases l:y.length<=(W wd n).length+1
      ·rw[Zr ⟨q,e1.mpr (g.mpr (e2.mp l))⟩,Zr ⟨q,l⟩]
      ·rw[Zq (λz=>l (e2.mpr (g.mp (e1.mp z.2)))),Zq (λz=>l z.2)]
     ·rw[Zq (λz=>q z.1),Zq (λz=>q z.1)]
    rw[d,b]at this;exact Zg this
  ·unfold iK;rw[Zq (λz=>u (by rw[h]at z;exact Zg z.1))];exact h
end
section
def I.step(H:I J S nd wd)(N:h<wd.length)(hc:97<=c/\c<=122)(hk:(W wd h).length+1<1000) :
  ∃S' r v o,hb S h c=Z (S',r)/\I J S' v o/\r<o.length/\W o r=W wd h++[c]/\(∀m,m<wd.length->W o m=W wd m)/\wd.length<=o.length/\o.length<=wd.length+2 ∧
   (∀x,(∃m,v x=Z m)↔(∃m,nd x=Z m)\/x <:+ W wd h++[c])/\Ru nd v (W wd h++[c]):=by
 cases hg:gW (S.wy.getD h []) c with
 |some old =>
  refine L2.ai λP_ F=>?_;obtain⟨S',r,v,o,e,H',h1,_,h2,h3,h4,h5,h6,h7,_⟩:=H.QA N (λz=>nomatch z) hc hg (λz=>nomatch z) (λz=>nomatch z) (by exact Yg hk);refine F ?_;refine⟨S',r,v,o,?_,H',h1,h2,h3,h4,by exact Nat.le_succ_of_le h5,λx=>(h6 x).trans ⟨.inl,λz=>z.elim id λz=>H.ND (H.way N hg) z⟩,h7⟩;unfold hb;rw[hg];exact e
 |none =>
  have O:=H.len.symm;refine L2.ai λP_ F=>?_;obtain⟨s,o',e1,w,k0,k1,k2,k3,k4⟩:=H.fresh N hc hg (by exact Yg hk);refine F ?_;have WL:W (wd++[W wd h++[c]]) wd.length=W wd h++[c]:=(bw wd _ _ _).trans (Zr Y);have Wl:∀m,m<wd.length->W (wd++[W wd h++[c]]) m=W wd m:=λm hm=>(bw wd _ _ m).trans (Zq (ZR hm));have ft:(wd++[W wd h++[c]]).length=wd.length+1:=by rw[Zv];rfl
  have lw:(W wd h++[c]).length=(W wd h).length+1:=by rw[Zv];rfl
  have ex:∀x,(∃m,iz nd (W wd h++[c]) wd.length x=Z m)↔(∃m,nd x=Z m)\/x <:+ W wd h++[c]:=λx=>⟨λ⟨m,q⟩=>(cE q).elim (λz=>.inl ⟨_,z⟩) λz=>.inr z.2.2,λq=>by
   cases e:nd x with
   |some m=>exact⟨m,dq e⟩
   |none=>exact q.elim (λ⟨m,z⟩=>by rw[e]at z;cases z) λz=>⟨_,fC e z⟩⟩
  have same:∀{x y m n},iz nd (W wd h++[c]) wd.length x=Z m->iz nd (W wd h++[c]) wd.length y=Z n->(m=n↔nd x=nd y):=λ{x y m n} t j=>by
   rcases cE t with z | ⟨z1,z2,_⟩
   ·rcases cE j with i | ⟨y1,y2,_⟩
    ·rw[z,i];exact⟨λe=>by rw[e],λe=>Zg e⟩
    ·have:=H.lt z;refine⟨λe=>by lia,λe=>?_⟩;rw[z,y2]at e;cases e
   ·rcases cE j with i | ⟨y1,y2,_⟩
    ·have:=H.lt i;refine⟨λe=>by lia,λe=>?_⟩;rw[z2,i]at e;cases e
    ·exact⟨λ_=>by rw[z2,y2],λ_=>by rw[z1,y1]⟩
  have N0:∀{y},y <:+ W wd h++[c]->y≠[]->∀{q},nd y=Z q->∃i m,y=i++[c]/\i <:+ W wd h/\nd i=Z m/\m<wd.length/\W wd m <:+ W wd h/\(gW (S.wy.getD m []) c).isSome:=λ{y} d Ke {q} X=>by
   obtain⟨i,rfl,NM⟩:=Aa d Ke;obtain⟨m,E,m2⟩:=H.Rx N (λz=>nomatch z) NM;exact⟨i,m,rfl,NM,E,H.lt E,m2,by rw[H.wy E c,X];rfl⟩
  unfold hb;rw[hg,Zq (by simp),e1];cases o' with
  |none =>
   have none_:∀{y},y <:+ W wd h++[c]->y≠[]->nd y=J:=λ{y} d Ke=>by
    cases e:nd y with
    |none=>rfl
    |some q =>
     obtain⟨i,m,_,_,_,m3,m4,D⟩:=N0 d Ke e;rw[(k3 Y) m m3 m4]at D;cases D
   have H3:=w.fix (m:=0) (by lia) (by lia) (by rw[w.wz];exact WQ) (by rw[w.wz,WL,lw];exact Nat.succ_pos _) (λy d g=>by
    rw[WL]at d;rw[w.wz]at g;exact fC (none_ d (λe=>by rw[e]at g;cases g)) d)
   have eS:(⟨s.lg,s.lk.set wd.length (Z 0),s.wy⟩:St)=s:=by
    have g:wd.length<s.lk.length:=by rw[w.wf.lk,← w.len,ft];exact Y0 _
    have:s.lk.set wd.length (Z 0)=s.lk:=by
     rw[Zp,Zk g,Xm]at k0;rw[← k0];exact Vj g
    rw[this]
   rw[eS]at H3;refine⟨s,S.lg.length,_,_,rfl,H3,by rw[ft,O];exact Y0 _,by rw[O];exact WL,Wl,by lia,by lia,ex,⟨λ{x y m n} t j=>?_⟩⟩;rw[same t j];refine⟨λe=>⟨e,?_⟩,λe=>e.1⟩;have key:∀{x y m n},iz nd (W wd h++[c]) wd.length x=Z m->iz nd (W wd h++[c]) wd.length y=Z n->nd x=nd y->x <:+ W wd h++[c]->y <:+ W wd h++[c]:=λ{x y m n} t j e hx=>by
    rcases cE j with z | z
    ·rw[z]at e;by_cases M:x=[]
     ·subst M;rw[H.z]at e;cases e;rw[H.zero z];exact WQ
     ·rw[none_ hx M]at e;cases e
    ·exact z.2.2
   exact⟨key t j e,key j t e.symm⟩
  |some p =>
   refine L2.ai λP_ F=>?_;obtain⟨A,R,p3,p4⟩:=k4 p Y;obtain⟨old,ho⟩:=YW.mp p3;have ho2:gW (s.wy.getD p []) c=Z old:=by rw[k2 p A p3];exact ho
   have C:=H.way A ho;have hold:=H.lt C;have ph:(W wd p).length<(W wd h).length:=by
    rcases Nat.lt_or_eq_of_le R.length_le with l | l
    ·exact l
    ·have:=H.inj A N (R.eq_of_length l);rw[this,hg]at ho;cases ho
   obtain⟨S3,r,v,o,f1,H3,f2,f2',f3,f4,f5,f6,f7,f8,f9⟩:=w.QA (n:=p) (c:=c) (by lia) (λz=>by have:=Zg z;lia) hc ho2 (λz=>by have:=Zg z;lia) (λz=>by have:=Zg z;lia) (by rw[Wl p A];lia);refine F ?_;rw[Wl p A]at f3 f8;have SY:(W wd p++[c]).length=(W wd p).length+1:=by rw[Zv];rfl
   have Sh:W o wd.length=W wd h++[c]:=by rw[f4 _ (by lia),WL]
   have none_:∀{y},y <:+ W wd h++[c]->(W wd p).length+1<y.length->nd y=J:=λ{y} d g=>by
    cases e:nd y with
    |none=>rfl
    |some q =>
     obtain⟨i,m,rfl,E,m2,m3,m4,D⟩:=N0 d (λe=>by rw[e]at g;cases g) e;have l1:=(H.sf m2).length_le;rw[Zv,ZA]at g;rw[p4 m m3 m4 (by lia)]at D;cases D
   refine⟨⟨S3.lg,S3.lk.set S.lg.length (Z r),S3.wy⟩,S.lg.length,v,o,?_,by rw[O];exact(H3.fix (f:=wd.length) (m:=r) (by lia) f2 (by rw[f3,Sh];exact gO c R) (by rw[f3,Sh,SY,lw];exact Nat.succ_lt_succ ph) (λy d g=>by
    rw[Sh]at d;rw[f3,SY]at g;exact f9 y wd.length (by exact Vu hold) (fC (none_ d g) d))),by rw[O];lia,by rw[O];exact Sh,λm hm=>by rw[f4 m (by lia),Wl m hm],by lia,by lia,λx=>(f7 x).trans (ex x),⟨λ{x y m n} t j=>?_⟩⟩
   ·show (N8 s p c).map _=_;rw[f1];rfl
   ·rw[f8.eq t j];obtain⟨E,Q⟩:=(f7 x).mp ⟨m,t⟩;obtain⟨n1,P⟩:=(f7 y).mp ⟨n,j⟩;have e1:iz nd (W wd h++[c]) wd.length x=iz nd (W wd h++[c]) wd.length y↔nd x=nd y:=by
     rw[Q,P];exact⟨λe=>(same Q P).mp (Zg e),λe=>by rw[(same Q P).mpr e]⟩
    rw[e1];have sw:=gO c R;have U:∀{z q},nd z=Z q->(z <:+ W wd h++[c]↔z <:+ W wd p++[c]):=λ{z q} G=>⟨λa=>b7 a sw (by
     rw[SY];refine ZJ λb=>?_;rw[none_ a b]at G;cases G),λa=>a.trans sw⟩
    have un:∀{z q},nd z=J->iz nd (W wd h++[c]) wd.length z=Z q->z <:+ W wd h++[c]/\¬z <:+ W wd p++[c]:=λ{z q} G a=>by
     rcases cE a with b | b
     ·rw[G]at b;cases b
     ·refine⟨b.2.2,λa=>?_⟩;obtain⟨q',X⟩:=H.ND C a;rw[G]at X;cases X
    refine⟨λ⟨a,b⟩=>⟨a,?_⟩,λ⟨a,b⟩=>⟨a,?_⟩⟩
    ·cases u:nd x with
     |some q=>rw[U u,U (by rw[← a,u])];exact b
     |none =>
      exact⟨λ_=>(un (show nd y=J by rw[← a,u]) P).1,λ_=>(un u Q).1⟩
    ·cases u:nd x with
     |some q=>rw[← U u,← U (by rw[← a,u])];exact b
     |none =>
      exact⟨λz=>absurd z (un u Q).2,λz=>absurd z (un (show nd y=J by rw[← a,u]) P).2⟩
end
structure K(P:Wd->Prop)(S:St)(nd:Wd->Option Nat)(wd:List Wd):Prop where
 i:I none S nd wd
 nil:P []
 some:∀x,(∃m,nd x=some m) ↔ ∃p,P p/\x <:+ p
 eq:∀{x y m n},nd x=.some m->nd y=.some n->(m=n ↔ ∀p,P p->(x <:+ p↔y <:+ p))
def K.congr(H:K P S b a)(h:∀p,P p↔Q p):K Q S b a:=by
 have:P=Q:=funext λp=>propext (h p);rw[← this];exact H
noncomputable def LB(x:Wd):Option Nat:=if x=[] then Z 0 else J
def fq(h:LB x=Z n):x=[]/\n=0:=by
 unfold LB at h;split at h
 ·exact⟨by assumption,(Zg h).symm⟩
 ·cases h
def K0:K (λp=>p=[]) S0 LB [[]]:=by
 refine⟨⟨GR,rfl,λn d=>?_,rfl,rfl,λ{x n} h=>?_,λ{x n} h=>?_,λ{n} d=>?_,λ{x y n} h b a=>?_,λ{x c n} h=>?_,λ{x y n} h b=>?_,rfl,λ{n} b a=>?_,λ{x n} h c=>?_⟩,rfl,λx=>?_,λ{x y m n} b a=>?_⟩
 ·have:n=0:=Nat.lt_one_iff.mp d;subst this;rfl
 ·rw[(fq h).2];exact Nat.one_pos
 ·rw[(fq h).1];exact WQ
 ·have:n=0:=Nat.lt_one_iff.mp d;subst this;rfl
 ·have e:=(fq h).2;subst e;have:y=[]:=Xp.mp a;subst this;rfl
 ·have:=(fq h).1;exact absurd this (by simp)
 ·have e:=(fq h).1;subst e;have:x=[]:=Xp.mp b;subst this;exact⟨0,rfl⟩
 ·have:n<1:=a;lia
 ·obtain⟨rfl,rfl⟩:=(fq h)
  rfl
 ·constructor
  ·rintro⟨m,h⟩;exact⟨[],rfl,by rw[(fq h).1];exact WQ⟩
  ·rintro⟨p,rfl,h⟩;have:x=[]:=Xp.mp h;subst this;exact⟨0,rfl⟩
 ·obtain⟨rfl,rfl⟩:=fq b;obtain⟨rfl,rfl⟩:=fq a;exact⟨λ_ _ _=>Iff.rfl,λ_=>rfl⟩
section
theorem K.step(H:K P S nd wd)(C:h<wd.length)(D:97<=c/\c<=122)(A:(W wd h).length+1<1000) :
  ∃j r l f,hb S h c=.some (j,r)/\K (λp=>P p\/p=W wd h++[c]) j l f/\r<f.length/\W f r=W wd h++[c]/\(∀m,m<wd.length->W f m=W wd m)/\wd.length<=f.length/\f.length<=wd.length+2:=by
 refine L2.ai λR v=>?_;obtain⟨j,r,l,f,e,Q,O,N,M,G,F,u,E⟩:=H.i.step C D A;refine v ?_;refine⟨j,r,l,f,e,⟨Q,.inl H.nil,λx=>?_,λ{x y m n} t s=>?_⟩,O,N,M,G,F⟩
 ·rw[u,H.some];constructor
  ·rintro (⟨p,a,b⟩ | a)
   ·exact⟨p,.inl a,b⟩
   ·exact⟨_,.inr Y,a⟩
  ·rintro⟨p,a | rfl,b⟩
   ·exact .inl ⟨p,a,b⟩
   ·exact .inr b
 ·rw[E.eq t s];have un:∀{z q},l z=.some q->nd z=J->z <:+ W wd h++[c]/\∀p,P p->¬z <:+ p:=λ{z q} a b=>⟨((u z).mp ⟨q,a⟩).elim (λ⟨m,x⟩=>by rw[b]at x;cases x) id,λp d w=>by
   obtain⟨m,x⟩:=(H.some z).mpr ⟨p,d,w⟩;rw[b]at x;cases x⟩
  have old:nd x=nd y ↔ ∀p,P p->(x <:+ p↔y <:+ p):=by
   cases ex:nd x with
   |some a =>
    cases g:nd y with
    |some b=>exact⟨λe=>(H.eq ex g).mp (Zg e),λe=>by rw[(H.eq ex g).mpr e]⟩
    |none =>
     refine⟨λe=>(nomatch e),λe=>?_⟩;obtain⟨p,d,o⟩:=(H.some x).mp ⟨a,ex⟩;exact absurd ((e p d).mp o) ((un s g).2 p d)
   |none =>
    cases g:nd y with
    |some b =>
     refine⟨λe=>(nomatch e),λe=>?_⟩;obtain⟨p,d,o⟩:=(H.some y).mp ⟨b,g⟩;exact absurd ((e p d).mpr o) ((un t ex).2 p d)
    |none=>exact⟨λ_ p d=>⟨λz=>absurd z ((un t ex).2 p d),λz=>absurd z ((un s g).2 p d)⟩,λ_=>rfl⟩
  rw[old];constructor
  ·rintro⟨a,b⟩ p (d | rfl)
   ·exact a p d
   ·exact b
  ·intro a;exact⟨λp d=>a p (.inl d),a _ (.inr Y)⟩
end
def K.grow:∀(w:Us){P:Wd->Prop}{S:St}{nd:Wd->Option Nat}{b:List Wd}(H:K P S nd b){h:Nat},h<b.length->P (W b h)->(∀c∈w,97<=c/\c<=122)->(W b h).length+w.length<1000 →
  ∃s r M e,hg S h w=.some (s,r)/\K (λp=>P p\/∃v,v <+: w/\p=W b h++v) s M e/\r<e.length/\W e r=W b h++w/\(∀m,m<b.length->W e m=W b m)/\b.length<=e.length/\e.length<=b.length+2*w.length:=by
 intro w
 induction w with
 |nil =>
  intro P S nd b H h l j hw o;refine⟨S,h,nd,b,rfl,H.congr λp=>⟨.inl,?_⟩,l,(ZV _).symm,λ_ _=>rfl,Zn _,Zn _⟩;rintro (a | ⟨v,a,rfl⟩)
  ·exact a
  ·rw[List.prefix_nil.mp a,ZV];exact j
 |cons c w x =>
  intro P S nd b H h l j hw o;rw[Zb]at o;refine L2.ai λY u=>?_;obtain⟨U,r1,X,t,e1,O,E,f,D,q,R⟩:=H.step l (hw c Zy) (by lia);obtain⟨G,r2,i,g,e2,N,C,A,z,y,Q⟩:=x O E (.inr f) (λd hd=>hw d (Zw _ hd)) (by rw[f,Zv,ZA];lia);refine u ?_;refine⟨G,r2,i,g,?_,N.congr λp=>?_,C,?_,λm n=>by rw[z m (by exact Zi n q),D m n],by exact ZU q y,by rw[Zb];lia⟩
  ·show (hb S h c).bind _=_;rw[e1];exact e2
  ·rw[f];constructor
   ·rintro ((a | rfl) | ⟨v,a,rfl⟩)
    ·exact .inl a
    ·exact .inr ⟨[c],Vh.mpr ⟨rfl,List.nil_prefix⟩,rfl⟩
    ·exact .inr ⟨c :: v,Vh.mpr ⟨rfl,a⟩,by rw[Ze];rfl⟩
   ·rintro (a | ⟨v,a,rfl⟩)
    ·exact .inl (.inl a)
    ·cases v with
     |nil=>rw[ZV];exact .inl (.inl j)
     |cons d v =>
      obtain⟨rfl,F⟩:=Vh.mp a;exact .inr ⟨v,F,by rw[Ze];rfl⟩
  ·rw[A,f,Ze];rfl
noncomputable def Hd(b:List Wd)(p:Wd):Prop:=p=[]\/∃t∈b,p <+: t
def sk(w:List (Nat×Nat)):Us:=(List.range' 97 26).filter λc=>(gW w c).isSome
def visit(w:List (Nat×Nat)):Us->Us->Us
 |[],met=>met
 |c :: r,met=>visit w r (if (gW w c).getD 0∈met then met else met++[(gW w c).getD 0])
def Kg(S:St):Nat->Us->Nat->Option (Us)
 |k,met,d=>if d<met.length then (match k with
  |0=>J
  |k+1=>Kg S k (visit (S.wy.getD (met.getD d 0) []) (sk (S.wy.getD (met.getD d 0) [])) met) (d+1)) else Z met
def steps(S:St)(a:Us)(n:Nat):List (Nat×Nat):=(sk (S.wy.getD n [])).map λc=>(c,a.idxOf ((gW (S.wy.getD n []) c).getD 0))
noncomputable abbrev Row:=Nat×Nat×Option Nat×List (Nat×Nat)
def row(S:St)(a:Us)(n:Nat):Row:=match S.lk.getD n J with
 |none=>(0,0,J,steps S a n)
 |some l=>(S.lg.getD l 0+1,S.lg.getD n 0,Z (a.idxOf l),steps S a n)
def tab(S:St)(a:Us):List Row:=a.map (row S a)
section
def lM{w:List (Nat×Nat)}{c:Nat}(h:c∈sk w):∃m,gW w c=Z m:=YW.mp (Xd.mp h).2
theorem mU(hw:∀c m,gW w c=Z m->m<N):∀(r met:Us),(∀c∈r,∃m,gW w c=Z m)->(∀x∈met,x<N)->∀x∈visit w r met,x<N
 |[],met,_,a=>a
 |c :: r,met,b,a=>by
  refine mU hw r _ (λd hd=>b d (Zw _ hd)) ?_;obtain⟨m,e⟩:=b c Zy;rw[e,Xm];split
  ·exact a
  ·intro x g;rcases Zj.mp g with h | h
   ·exact a x h
   ·rw[Zl.mp h];exact hw c m e
def getD_mem{l:Us}(h:d<l.length):l.getD d 0∈l:=by
 rw[Zp,Zk h];exact Yo h
end
theorem kZ{w:List (Nat×Nat)}:∀(r met:Us),∃l,visit w r met=met++l
 |[],met=>⟨[],(ZV _).symm⟩
 |c :: r,met=>by
  obtain⟨l,e⟩:=kZ (w:=w) r (if (gW w c).getD 0∈met then met else met++[(gW w c).getD 0]);show ∃l,visit w r _=_;rw[e];split
  ·exact⟨l,rfl⟩
  ·exact⟨_,Ze _ _ _⟩
theorem nM{w:List (Nat×Nat)}:∀(r met:Us),met.Nodup->(visit w r met).Nodup
 |[],met,h=>h
 |c :: r,met,h=>by
  refine nM (w:=w) r _ ?_;split
  ·exact h
  ·rename_i q;rw[ZC];refine⟨h,by simp,λa d b hb e=>q ?_⟩;rw[Zl.mp hb]at e;rw[← e];exact d
theorem lG{w:List (Nat×Nat)}:∀(r met:Us),∀c∈r,(gW w c).getD 0∈visit w r met
 |d :: r,met,c,a=>by
  rcases Zh.mp a with rfl | a
  ·obtain⟨l,e⟩:=kZ (w:=w) r (if (gW w c).getD 0∈met then met else met++[(gW w c).getD 0]);show _∈visit w r _;rw[e];refine Z8 _ ?_;split
   ·assumption
   ·exact ZQ _ Zy
  ·exact lG r _ c a
def t6(d:∀p∈w,97<=p.1/\p.1<=122)(h:gW w c=Z m):c∈sk w:=by
 refine Xd.mpr ⟨?_,by rw[h];rfl⟩;obtain⟨p,a,_⟩:=Zt.mp h;have:=d p (List.mem_of_find?_eq_some a);have b:p.1=c:=by simpa using(List.find?_some a)
 rw[b]at this;rw[List.mem_range'_1];lia
def D6(o:WF S):∀(k:Nat)(met:Us)(d:Nat),met.Nodup->(∀x∈met,x<S.lg.length)->d<=met.length->S.lg.length<=k+d->(∀i,i<d->∀c m,gW (S.wy.getD (met.getD i 0) []) c=Z m->m∈met) →
  ∃l,Kg S k met d=Z (met++l)/\(met++l).Nodup/\(∀x∈met++l,x<S.lg.length)/\∀n∈met++l,∀c m,gW (S.wy.getD n []) c=Z m->m∈met++l:=by
 intro k;have fin:∀(met:Us)(d:Nat),¬d<met.length->d<=met.length->(∀i,i<d->∀c m,gW (S.wy.getD (met.getD i 0) []) c=Z m->m∈met)->∀n∈met,∀c m,gW (S.wy.getD n []) c=Z m->m∈met:=by
  intro met d f b h n t c m e;obtain⟨i,g,q⟩:=Vd.mp t;refine h i (by lia) c m ?_;have:met.getD i 0=n:=by rw[Zp,Zk g,q];rfl
  rw[this];exact e
 induction k with
 |zero =>
  intro met d nd lt hd u h;have z:met.length<=S.lg.length:=by
   have:=sub_len met (List.range S.lg.length) nd λx s=>Ym.mpr (lt x s)
   rwa [Yx]at this
  have a:¬d<met.length:=by lia
  refine⟨[],?_,?_⟩
  ·unfold Kg;rw[Zq a,ZV]
  ·rw[ZV];exact⟨nd,lt,fin met d a hd h⟩
 |succ k r =>
  intro met d nd lt hd u h;by_cases a:d<met.length
  ·obtain⟨p,e1⟩:=kZ (sk (S.wy.getD (met.getD d 0) [])) met;obtain⟨l,e,f,b,j⟩:=r (visit (S.wy.getD (met.getD d 0) []) (sk (S.wy.getD (met.getD d 0) [])) met) (d+1) (nM _ _ nd) (mU (λc m e=>o.on _ c m e) _ _ (λc v=>lM v) lt) (by rw[e1,Zv];lia) (by lia) (λi g c m e=>by
    have y:(visit (S.wy.getD (met.getD d 0) []) (sk (S.wy.getD (met.getD d 0) [])) met).getD i 0=met.getD i 0:=by
     rw[e1,Zp,Zp,Yw (by lia)]
    rw[y]at e;by_cases q:i=d
    ·subst q;have:=lG (w:=S.wy.getD (met.getD i 0) []) (sk (S.wy.getD (met.getD i 0) [])) met c (t6 (o.P4 _).2 e);rw[e]at this;exact this
    ·rw[e1];exact Z8 _ (h i (by lia) c m e))
   rw[e1,Ze]at f b j;refine⟨p++l,?_,f,b,j⟩;unfold Kg;rw[Zr a];show Kg S k _ (d+1)=_;rw[e,e1,Ze]
  ·refine⟨[],?_,?_⟩
   ·unfold Kg;rw[Zq a,ZV]
   ·rw[ZV];exact⟨nd,lt,fin met d a hd h⟩
def Ay{α:Type}{p:List α->Prop}(h0:p [])(h1:∀l a,p l->p (l++[a]))(l:List α):p l:=by
 have:∀l:List α,p l.reverse:=by
  intro l
  induction l with
  |nil=>exact h0
  |cons a l ih=>rw[List.reverse_cons];exact h1 _ a ih
 rw[← List.reverse_reverse l];exact this _
def K.met{S:St}(H:K P S nd wd){k:Nat}(hk:wd.length<=k):∃l,Kg S k [0] 0=Z (0 :: l)/\(0 :: l).Nodup/\(∀x,x∈0 :: l↔x<wd.length)/\(0 :: l).length=wd.length:=by
 have L:=H.i.len.symm;obtain⟨l,e,h1,h2,h3⟩:=D6 H.i.wf k [0] 0 (by simp) (λx hx=>by rw[Zl.mp hx];exact H.i.wf.pos) (ZE _) (by lia) (λi hi=>absurd hi (Vo _));have h0:∀(x:Wd) n,nd x=Z n->n∈0 :: l:=by
  intro x
  induction x using Ay with
  |h0=>intro n e;rw[H.i.z]at e;cases e;exact Zy
  |h1 x c ih =>
   intro n e;obtain⟨m,hm⟩:=H.i.pre e;exact h3 m (ih m hm) c n (by rw[H.i.wy hm];exact e)
 have hx:∀x,x∈0 :: l↔x<wd.length:=λx=>⟨λz=>by rw[← L];exact h2 x z,λz=>h0 _ x (H.i.top z)⟩
 refine⟨l,e,h1,hx,YJ ?_ ?_⟩
 ·have:=sub_len (0 :: l) (List.range wd.length) h1 λx z=>Ym.mpr ((hx x).mp z)
  rwa [Yx]at this
 ·have:=sub_len (List.range wd.length) (0 :: l) Ux λx z=>(hx x).mpr (Ym.mp z)
  rwa [Yx]at this
end AU
end
section
namespace T06
open VS AU
def B9(w:List (Nat×Nat))(c:Nat):c∈w.map (·.1)↔(gW w c).isSome=B:=by
 rw[← Ed,XO,Yv];exact⟨λ⟨p,b,a⟩=>⟨p,b,by rw[a];exact beq_self_eq_true c⟩,λ⟨p,b,a⟩=>⟨p,b,by simpa using a⟩⟩
def vx{w:List (Nat×Nat)}(a:(w.map (·.1)).Nodup)(b:∀p∈w,97<=p.1/\p.1<=122):(sk w).Perm (w.map (·.1)):=by
 refine(List.perm_ext_iff_of_nodup ?_ a).mpr λc=>?_
 ·exact List.Nodup.sublist List.filter_sublist List.nodup_range'
 ·rw[B9];constructor
  ·intro h;exact(Xd.mp h).2
  ·intro h;obtain⟨m,e⟩:=YW.mp h;exact t6 b e
def yF{w:List (Nat×Nat)}(e:(w.map (·.1)).Nodup)(d:∀p∈w,97<=p.1/\p.1<=122):gK [(m,IX w)]=Z (.fr,.lst ((sk w).map λc=>T.str [c])):=by
 show ((strs? ((w.map λp=>(T.str [p.1],T.int (p.2:Int))).map (·.1))).bind _)=_;have e1:(w.map λp=>(T.str [p.1],T.int (p.2:Int))).map (·.1)=(w.map (·.1)).map λc=>T.str [c]:=by
  rw[Z7,Z7];rfl
 rw[e1,strs_map (λc=>[c]),Zs,Zr]
 ·have:(sk w).map (λc=>[c])=eW ((w.map (·.1)).map λc=>[c]):=by
   refine oS ((vx e d).map _) ?_;rw[X2];refine List.Pairwise.imp ?_ (Vb _ (List.pairwise_lt_range'));intro a b j h;rcases YQ.mp h with h | ⟨_,h⟩
   ·omega
   ·exact absurd h (List.not_lt_nil _)
  rw[← this,Z7];rfl
 ·refine⟨?_,Z6.mpr ?_⟩
  ·rw[Zu,← (vx e d).length_eq];have:(sk w).length<=(List.range' 97 26).length:=X1 _ _;rw[List.length_range']at this;omega
  intro s f;obtain⟨c,i,rfl⟩:=Yv.mp f;obtain⟨p,g,rfl⟩:=Yv.mp i;have:=d p g;show (decide (1<=d4)&&(decide (p.1<1114112)&&B))=B;rw[decide_eq_true (show p.1<1114112 by omega)];rfl
noncomputable def nE:Nat->Us->List (T×T)
 |_,[]=>[]
 |k,n :: r=>(T.int (n:Int),T.int (k:Int)) :: nE (k+1) r
theorem zk:∀(met:Us)(k:Nat),(nE k met).length=met.length
 |[],_=>rfl
 |_ :: r,k=>by rw[nE,Zb,Zb,zk r]
theorem qB:∀(met:Us)(k:Nat),(nE k met).map (·.1)=met.map λ(n:Nat)=>T.int (n:Int)
 |[],_=>rfl
 |_ :: r,k=>by rw[nE,Zo,Zo,qB r]
theorem zb:∀(met:Us)(k n:Nat),nE k (met++[n])=nE k met++[(T.int (n:Int),T.int ((k+met.length:Nat):Int))]
 |[],k,n=>rfl
 |m :: r,k,n=>by
  rw[XQ,nE,nE,zb r (k+1) n,Zb,XQ];rw[show k+1+r.length=k+(r.length+1) by omega]
def HS(a b:Nat):eqT (.int (a:Int)) (.int (b:Int))=(a==b):=by
 simp only[eqT];by_cases h:a=b
 ·simp[h]
 ·rw[Z0.mpr h,Z0.mpr (by omega)]
theorem pX:∀(met:Us)(k n:Nat),cH (nE k met) (.int (n:Int))=if n∈met then Z (T.int ((k+met.idxOf n:Nat):Int)) else J
 |[],_,_=>rfl
 |m :: r,k,n=>by
  show ((((T.int (m:Int),T.int (k:Int)) :: nE (k+1) r).find? λp=>eqT p.1 (.int (n:Int))).map (·.2))=_;rw[Z3];simp only[HS];by_cases h:m=n
  ·subst h;simp[List.idxOf_cons]
  ·have hb:=Z0.mpr h;have a:=pX r (k+1) n;unfold cH at a;simp only[hb];rw[a,List.idxOf_cons,hb];by_cases q:n∈r
   ·rw[Zr q,Zr (Zw _ q)];show Z (T.int ((k+1+r.idxOf n:Nat):Int))=Z (T.int ((k+(r.idxOf n+1):Nat):Int));rw[show k+1+r.idxOf n=k+(r.idxOf n+1) by omega]
   ·rw[Zq q,Zq (λz=>(Zh.mp z).elim (λe=>h e.symm) q)]
def DU(a:Us)(n:Nat)(h:n∉a):dput (nE 0 a) (.int (n:Int)) (.int (a.length:Int))=nE 0 (a++[n]):=by
 unfold dput;rw[Zq,zb]
 ·rw[XH]
 ·intro z;obtain⟨p,b,e⟩:=XO.mp z;have:(cH (nE 0 a) (.int (n:Int))).isSome=B:=by
   unfold cH;rw[Xu,V2];exact⟨p,b,e⟩
  rw[pX,Zq h]at this;cases this
def nT(a:Us):T:=.dct 0 (nE 0 a)
noncomputable def mT(a:Us):T:=.lst (a.map λ(n:Nat)=>T.int (n:Int))
def C2{n:Nat}(h:a U=Z (m,nT d))(he:e U=Z (k,.int (n:Int))):e2 dy e a U=Z (.fr,.bl (decide (n∉d))):=e2v he h (by
 show (match (if B=B then Z (Md.fr,T.bl (cH (nE 0 d) (.int (n:Int))).isSome) else J) with | some (_,.bl b)=>some (Md.fr,T.bl (!b)) | _=>none)=_;rw[Zr Y,pX];by_cases q:n∈d
 ·rw[Zr q,ZK (λz=>z q)];rfl
 ·rw[Zq q,decide_eq_true q];rfl)
section
theorem zr{d:Nat}:∀(r met:Us)(z:Up),(∀c∈r,∃m,gW w c=Z m)->met.length+r.length<16777216->∃b,forL (bK 5) cT (r.map λc=>T.str [c]) [a,oc (nT met),oc (mT met),Q0 (d:Int),pc (IX w),z]=Z (.nx [a,oc (nT (visit w r met)),oc (mT (visit w r met)),Q0 (d:Int),pc (IX w),b])
 |[],met,z,_,_=>⟨z,rfl⟩
 |c :: r,met,z,h,l=>by
  obtain⟨m,e⟩:=h c Zy;rw[Zb]at l;by_cases q:m∈met
  ·obtain⟨b,g⟩:=zr r met (Q2 ([c])) (λd hd=>h d (Zw _ hd)) (by omega);refine⟨b,?_⟩;have ev:visit w (c :: r) met=visit w r met:=by
    show visit w r (if (gW w c).getD 0∈met then met else met++[(gW w c).getD 0])=_;rw[e,Xm,Zr q]
   rw[ev,Zo];refine(cI Y ?_).trans g;refine(lO (m:=.fr) ?_).trans Y;refine(C2 Y (xM Y Y e)).trans ?_;rw[ZK (λz=>z q)]
  ·obtain⟨b,g⟩:=zr r (met++[m]) (Q2 ([c])) (λd hd=>h d (Zw _ hd)) (by rw[Zv,ZA];omega);refine⟨b,?_⟩;have ev:visit w (c :: r) met=visit w r (met++[m]):=by
    show visit w r (if (gW w c).getD 0∈met then met else met++[(gW w c).getD 0])=_;rw[e,Xm,Zq q]
   rw[ev,Zo];refine(cI Y ?_).trans g;refine(oA (m:=.fr) ?_).trans ?_
   ·refine(C2 Y (xM Y Y e)).trans ?_;rw[decide_eq_true q]
   ·have f:∀nn i:Up,e2 J9 (aa 4) (aa 5) [a,nn,i,Q0 (d:Int),pc (IX w),Q2 ([c])]=Z (.fr,.int (m:Int)):=λnn i=>xM Y Y e;have j:mV 1 (e2 J9 (aa 4) (aa 5)) (eN dY (ae (aa 2) aj)) [a,oc (nT met),oc (mT met),Q0 (d:Int),pc (IX w),Q2 ([c])]=Z (.nx [a,oc (nT (met++[m])),oc (mT met),Q0 (d:Int),pc (IX w),Q2 ([c])]):=by
     unfold mV;rw[(jc (xv (x:=(.bo,mT met)) Y Y) (by
      show Z (Md.fr,T.int (((met.map λ(n:Nat)=>T.int (n:Int)).length:Nat):Int))=_;rw[Zu])),Zs]
     show ((e2 J9 (aa 4) (aa 5) [a,oc (nT met),oc (mT met),Q0 (d:Int),pc (IX w),Q2 ([c])]).bind _)=_;rw[f,Zs];rw[Zr ⟨rfl,rfl,by rw[(zk met 0)];show met.length<16777216;omega⟩,DU met m q];rfl
    refine(aq j).trans ?_;refine(oy Y (f _ _) (by rw[Zu];omega)).trans ?_;rw[show (met.map λ(n:Nat)=>T.int (n:Int))++[.int (m:Int)]=(met++[m]).map λ(n:Nat)=>T.int (n:Int) from by rw[Yz];rfl];rfl
end
def tW(w:List (Nat×Nat)):(sk w).length<=26:=by
 refine ZU (X1 _ _) ?_;rw[List.length_range'];exact Zn _
def Cf{S:St}{a:Us}(b:a.Nodup)(d:∀x∈a,x<S.lg.length):a.length<=S.lg.length:=by
 have:=sub_len a (List.range S.lg.length) b λx e=>Ym.mpr (d x e)
 rwa [Yx]at this
def FZ(j:WF S)(z:S.lg.length<=100001):∀(k:Nat)(met:Us)(d:Nat)(M:Us),met.Nodup->(∀x∈met,x<S.lg.length)->Kg S k met d=Z M->∀N,k<N->∀f a:Up,∃i t u,
  eY (e2 oLt (aa 3) (eN dY (ae (aa 2) aj))) cR N [pc (Ih S L),oc (nT met),oc (mT met),Q0 ((d:Nat):Int),f,a] =
   Z (.nx [pc (Ih S L),oc (nT M),oc (mT M),pc i,t,u]):=by
 have cond:∀(met:Us)(d:Nat)(f a:Up),e2 oLt (aa 3) (eN dY (ae (aa 2) aj)) [pc (Ih S L),oc (nT met),oc (mT met),Q0 ((d:Nat):Int),f,a]=Z (.fr,.bl (decide (d<met.length))):=λmet d f a =>
  e2v Y (jc (xv Y Y) (by
   show Z (Md.fr,T.int (((met.map λ(n:Nat)=>T.int (n:Int)).length:Nat):Int))=_;rw[Zu])) (by
   show Z (Md.fr,T.bl (decide ((d:Int)<(met.length:Int))))=_;rw[show decide ((d:Int)<(met.length:Int))=decide (d<met.length) from decide_eq_decide.mpr (by omega)])
 intro k
 induction k with
 |zero =>
  intro met d M nd lt e N hN f a;obtain⟨N,rfl⟩:∃M,N=M+1:=⟨N-1,by omega⟩
  unfold Kg at e;split at e
  ·cases e
  ·rename_i h;cases e;exact⟨_,f,a,gq ((cond _ _ _ _).trans (by rw[ZK h]))⟩
 |succ k s =>
  intro met d M nd lt e N hN f a;obtain⟨N,rfl⟩:∃M,N=M+1:=⟨N-1,by omega⟩
  unfold Kg at e;split at e
  ·rename_i h;have v:met.getD d 0<S.wy.length:=by rw[j.wy];exact(lt _ (getD_mem h))
   have y:=Cf nd lt;have w:=tW (S.wy.getD (met.getD d 0) []);obtain⟨l,r⟩:=zr (sk (S.wy.getD (met.getD d 0) [])) met a (λc g=>lM g) (by omega);obtain⟨i,p,o,q⟩:=s _ (d+1) M (nM _ _ nd) (mU (λc m e=>j.on _ c m e) _ _ (λc g=>lM g) lt) e N (by omega) (pc (IX (S.wy.getD (met.getD d 0) []))) l;refine⟨i,p,o,(qD ((cond _ _ _ _).trans (by rw[decide_eq_true h])) ?_).trans q⟩;have ix:e2 aH (aa 2) (aa 3) [pc (Ih S L),oc (nT met),oc (mT met),Q0 ((d:Nat):Int),f,a]=Z (.fr,.int ((met.getD d 0:Nat):Int)):=e2v Y Y (nK _ met d 0 h);refine(aq (aK (m:=.pu) (nH (S:=S) (b:=L) (m:=.pu) (n:=.fr) Y ix v) (by decide) (by decide:4<6))).trans ?_;have nw:=j.P4 (met.getD d 0);refine(aq ((c7 (m:=.fr) ?_ Y).trans r)).trans ?_
   ·show (eN gK (ae (aa 4) aj) _).bind zh=_;rw[jc (xv Y Y) (yF nw.1 nw.2)];rfl
   ·exact aK Y (by decide) (by decide:3<6)
  ·rename_i h;cases e;exact⟨_,f,a,gq ((cond _ _ _ _).trans (by rw[ZK h]))⟩
def EK(a:WF S)(g:S.lg.length<=100001)(h:k<1000000)(e:Kg S k [0] 0=Z M):aL [Ih S L]=Z (.fr,nT M):=by
 obtain⟨i,d,b,q⟩:=FZ a g k [0] 0 M (by simp) (λx f=>by rw[Zl.mp f];exact a.pos) e xD (by exact h) J J;refine eE (U:=[pc (Ih S L),J,pc (mT M),pc i,d,b]) Y ?_;exact(aq Y).trans ((aq Y).trans ((aq Y).trans ((aq q).trans ((aq Y).trans Y))))
noncomputable def Lw(l:List (Nat×Nat)):T:=.tup (l.map λp=>T.tup [.str [p.1],.int (p.2:Int)])
def lQ(r:Row):T:=.tup [.int (r.1:Int),.int (r.2.1:Int),IH r.2.2.1,Lw r.2.2.2]
theorem uN:∀l:List (Nat×Nat),fU (l.map λp=>T.tup [.str [p.1],.int (p.2:Int)])=B
 |[]=>rfl
 |p :: l=>by
  rw[Zo];show (B&&fU _)=B;rw[uN l];rfl
def uB(l:List (Nat×Nat)):Iw (Lw l)=B:=uN l
def GB(h:a U=Z (.fr,x))(g:b U=Z (.fr,y))(f:c U=Z (.fr,z))(e:d U=Z (.fr,w)):kP (ae a (ae b (ae c (ae d aj)))) U=Z (.fr,.tup [x,y,z,w]):=by
 show (ae a (ae b (ae c (ae d aj))) U).bind oC=_;rw[xv h (xv g (xv f (xv e Y))),Zs];show Z (up .fr _)=_;unfold up;split<;>rfl
def E9(b:WF S)(j:∀x,x<S.lg.length->x∈a)(g:n<S.lg.length):bL [Ih S L,.int (n:Int),.dct 3 (nE 0 a)]=Z (.fr,lQ (row S a n)):=by
 have nw:=b.P4 n;have get:∀v,v<S.lg.length->cH (nE 0 a) (.int (v:Int))=Z (T.int ((a.idxOf v:Nat):Int)):=λv q=>by rw[pX,Zr (j v q),XH]
 have f:aT 3 (e2 aH (bj 2 (aa 0)) (aa 1)) [pc (Ih S L),Q0 (n:Int),pc (.dct 3 (nE 0 a)),J,J,J]=Z (.nx [pc (Ih S L),Q0 (n:Int),pc (.dct 3 (nE 0 a)),pc (IH (S.lk.getD n J)),J,J]):=aK (u6 Y Y (by rw[b.lk];exact g)) (by decide) (by decide:3<6);have e:aT 4 (e2 aH (bj 3 (aa 0)) (aa 1)) [pc (Ih S L),Q0 (n:Int),pc (.dct 3 (nE 0 a)),pc (IH (S.lk.getD n J)),J,J]=Z (.nx [pc (Ih S L),Q0 (n:Int),pc (.dct 3 (nE 0 a)),pc (IH (S.lk.getD n J)),pc (IX (S.wy.getD n [])),J]):=aK (m:=.pu) (nH Y Y (by rw[b.wy];exact g)) (by decide) (by decide:4<6);have s:eN iy (ae (eQ 1 (bK 0) (h9 (eN gK (ae (aa 4) aj))) J (kP (ae (aa 0) (ae (e2 sT (aa 3) (e2 J9 (aa 5) (aa 0))) aj)))) aj) [pc (Ih S L),Q0 (n:Int),pc (.dct 3 (nE 0 a)),pc (IH (S.lk.getD n J)),pc (IX (S.wy.getD n [])),J]=Z (.fr,Lw (steps S a n)):=by
  have u:=gQ (k:=1) (tg:=bK 0) (it:=h9 (eN gK (ae (aa 4) aj))) (elt:=kP (ae (aa 0) (ae (e2 sT (aa 3) (e2 J9 (aa 5) (aa 0))) aj))) (U:=[pc (Ih S L),Q0 (n:Int),pc (.dct 3 (nE 0 a)),pc (IH (S.lk.getD n J)),pc (IX (S.wy.getD n [])),J]) (λc=>T.str [c]) (λc=>T.tup [.str [c],.int ((a.idxOf ((gW (S.wy.getD n []) c).getD 0):Nat):Int)]) (sk (S.wy.getD n [])) (by
   show (eN gK (ae (aa 4) aj) _).bind zh=_;rw[jc (xv Y Y) (yF nw.1 nw.2)];rfl) Y (ZU (tW _) (by decide)) (λc r=>by
   obtain⟨v,ev⟩:=lM r;refine⟨[Q2 ([c]),pc (Ih S L),Q0 (n:Int),pc (.dct 3 (nE 0 a)),pc (IH (S.lk.getD n J)),pc (IX (S.wy.getD n [])),J],rfl,?_⟩;rw[ev,Xm];show (ae (aa 0) (ae (e2 sT (aa 3) (e2 J9 (aa 5) (aa 0))) aj) _).bind oC=_;rw[xv Y (xv (e2v (x:=(.pu,.dct 3 (nE 0 a))) Y (xM (m:=.pu) (n:=.fr) (c:=c) (w:=S.wy.getD n []) Y Y ev) (by
     show (if B=B then (cH (nE 0 a) (.int (v:Int))).map (sub .pu) else J)=_;rw[Zr Y,get v (b.on n c v ev)];rfl)) Y)]
   rfl)
  refine jc (xv u Y) ?_;show (if _<=d4 then Z (up .fr (.tup _)) else J)=_;rw[Zr (by rw[Zu];exact ZU (tW _) (by decide))];have:T.tup ((sk (S.wy.getD n [])).map λc=>T.tup [.str [c],.int ((a.idxOf ((gW (S.wy.getD n []) c).getD 0):Nat):Int)])=Lw (steps S a n):=by
   unfold Lw steps;rw[Z7];rfl
  rw[this];unfold up;rw[uB];rfl
 have d:=aK s (by decide) (by decide:5<6);have o:∀U:Env,U[5]?=Z (pc (Lw (steps S a n)))->aa 5 U=Z (.fr,Lw (steps S a n)):=λU h=>by
  show (match U[5]? with | some (some (.pu t))=>some (up .pu t) | some (some (.ow t))=>some (.bo,t) | _=>none)=_;rw[h];show Z (up .pu _)=_;unfold up;rw[uB];rfl
 unfold row;cases i:S.lk.getD n J with
 |none =>
  rw[i]at f e d;refine eE (U:=[pc (Ih S L),Q0 (n:Int),pc (.dct 3 (nE 0 a)),pc (IH J),pc (IX (S.wy.getD n [])),pc (Lw (steps S a n))]) Y ?_;refine(aq f).trans ((aq e).trans ((aq d).trans (mD ((oA Y).trans (dR (GB Y Y Y (o _ Y)))))))
 |some l =>
  rw[i]at f e d;have p:=b.up n l i;refine eE (U:=[pc (Ih S L),Q0 (n:Int),pc (.dct 3 (nE 0 a)),pc (IH (Z l)),pc (IX (S.wy.getD n [])),pc (Lw (steps S a n))]) Y ?_;refine(aq f).trans ((aq e).trans ((aq d).trans ((aq ((lO Y).trans Y)).trans (dR (GB ?_ ?_ ?_ (o _ Y))))))
  ·exact e2v (qX Y Y p) Y Y
  ·exact qX Y Y g
  ·exact e2v Y Y (by
    show (if B=B then (cH (nE 0 a) (.int (l:Int))).map (sub .pu) else J)=_;rw[Zr Y,get l p];rfl)
def MT(t:List Row):T:=.lst (t.map lQ)
def Er(b:WF S)(g:S.lg.length<=100001){k:Nat}(l:k<1000000)(e:Kg S k [0] 0=Z M)(a:∀x,x∈M↔x<S.lg.length)(j:M.length<=16777216):dv [Ih S L]=Z (.fr,MT (tab S M)):=by
 have d:=EK b g l e;refine eE (U:=[pc (Ih S L),J]) Y ?_;refine(aq (by
  show (dI 0 aL (aa 0) aj [pc (Ih S L),J]).bind _=_;have:dI 0 aL (aa 0) aj [pc (Ih S L),J]=Z (.fr,nT M):=by
   show ((aL [Ih S L]).bind _)=_;rw[d];rfl
  rw[this];rfl)).trans ?_
 show ((eQ 1 (bK 0) (uI 1) J (dI 0 bL (aa 1) (ae (aa 0) (ae (aa 2) aj))) [pc (Ih S L),pc (.dct 3 (nE 0 M))]).bind _)=_;rw[(gQ (k:=1) (tg:=bK 0) (it:=uI 1) (elt:=dI 0 bL (aa 1) (ae (aa 0) (ae (aa 2) aj))) (m:=.fr) (U:=[pc (Ih S L),pc (.dct 3 (nE 0 M))]) (λ(n:Nat)=>T.int (n:Int)) (λn=>lQ (row S M n)) M (by
  show (if ((nE 0 M).all λp=>isInt p.1)=B then Z (Md.fr,(nE 0 M).map (·.1)) else J)=_;rw[Zr,qB];rw[Z6];intro p h;have:p.1∈(nE 0 M).map (·.1):=List.mem_map_of_mem h;rw[qB]at this;obtain⟨n,_,e⟩:=Yv.mp this;rw[← e];rfl) Y j (λn i=>by
  refine⟨[Q0 (n:Int),pc (Ih S L),pc (.dct 3 (nE 0 M))],rfl,?_⟩;show ((bL [Ih S L,.int (n:Int),.dct 3 (nE 0 M)]).bind _)=_;rw[E9 b (λx f=>(a x).mpr f) ((a n).mp i)];rfl))]
 unfold MT tab;rw[Z7];rfl
def LP(a:List Tx)(b:Us)(S:St):rY:=[(4,.lst (a.map .str)),(5,.lst (b.map λ(n:Nat)=>T.int (n:Int))),(6,Ih S L)]
def Io(a:List Tx)(d:Us)(S:St)(b:Bool):T:=.obj 2 ((0,.bl b) :: LP a d S)
def Aw(S:St):gH (Ih S L)=B:=by
 show ((B && !(0==0&&L))&&eP (Lh S))=B;rw[kh];rfl
def j9(a:List Tx)(b:Us)(S:St):eP (LP a b S)=B:=by
 have e:gH (.lst (a.map T.str))=B:=d5 _ (λ_=>rfl) _;have d:gH (.lst (b.map λ(n:Nat)=>T.int (n:Int)))=B:=d5 _ (λ_=>rfl) _;show ((gH _ && !(4==0&&OJ _))&&((gH _ && !(5==0&&OJ _))&&((gH _ && !(6==0&&OJ _))&&B)))=B;rw[e,d,Aw];rfl
def Ac(a:List Tx)(d:Us)(S:St)(b:Bool):qJ 4 (Io a d S b)=Z (.lst (a.map .str)):=rfl
def Hw(d:List Tx)(a:Us)(S:St)(b:Bool):qJ 5 (Io d a S b)=Z (.lst (a.map λ(n:Nat)=>T.int (n:Int))):=rfl
def HP(a:List Tx)(d:Us)(S:St)(b:Bool):qJ 6 (Io a d S b)=Z (Ih S L):=rfl
section
def yc{m:Md}(h:a U=Z (m,Io tx hd S b)):eN dY (ae (bj 4 a) aj) U=Z (.fr,.int (tx.length:Nat)):=jc (xv (fH h (Ac tx hd S b)) Y) (by
 show Z (Md.fr,T.int (((tx.map T.str).length:Nat):Int))=_;rw[Zu])
def Df{e:Ex}{v:Tx}(h:e (oc (Io tx hd S b) :: r)=Z (.fr,.str v))(d:tx.length<16777216):sX (iE 0 [.fld 4] aC (ae e aj)) (oc (Io tx hd S b) :: r)=Z (.nx (oc (Io (tx++[v]) hd S b) :: r)):=by
 show (((Z [Ky.fld 4]).bind λks=>(ae e aj (oc (Io tx hd S b) :: r)).bind λa=>(pm (λx=>aC x a) ks (Io tx hd S b)).map _).map _)=_;rw[Zs,xv h Y,Zs];show (((aC (.lst (tx.map T.str)) [(.fr,.str v)]).map _).map _ |>.map _)=_;rw[bV (by rw[Zu];exact d),show (tx.map T.str)++[.str v]=(tx++[v]).map T.str from by rw[Yz];rfl];rfl
def D8{e:Ex}{v:Nat}(h:e (oc (Io tx hd S b) :: r)=Z (.fr,.int (v:Int)))(d:hd.length<16777216):sX (iE 0 [.fld 5] aC (ae e aj)) (oc (Io tx hd S b) :: r)=Z (.nx (oc (Io tx (hd++[v]) S b) :: r)):=by
 show (((Z [Ky.fld 5]).bind λks=>(ae e aj (oc (Io tx hd S b) :: r)).bind λa=>(pm (λx=>aC x a) ks (Io tx hd S b)).map _).map _)=_;rw[Zs,xv h Y,Zs];show (((aC (.lst (hd.map λ(n:Nat)=>T.int (n:Int))) [(.fr,.int (v:Int))]).map _).map _ |>.map _)=_;rw[bV (by rw[Zu];exact d),show (hd.map λ(n:Nat)=>T.int (n:Int))++[.int (v:Int)]=(hd++[v]).map λ(n:Nat)=>T.int (n:Int) from by rw[Yz];rfl];rfl
def yh{tx:List Tx}{hd:Us}(d:tx.length<8)(f:hd.length=tx.length):aV (LP tx hd S) []=Z (LP (tx++[[]]) (hd++[0]) S,.int (tx.length:Int)):=by
 unfold aV Ka;rw[Zr ⟨rfl,rfl⟩];have a:=dR (e:=e2 qu (eN dY (ae (bj 4 (aa 0)) aj)) (Q3 1)) (U:=[oc (Io (tx++[[]]) (hd++[0]) S B)]) (e2v (yc Y) Y (by
  show Z (Md.fr,T.int ((((tx++[[]]).length:Nat):Int)-1))=_;rw[Zv,ZA,show (((tx.length+1:Nat)):Int)-1=(tx.length:Int) by omega]))
 exact Z5 (λz:Option Out=>z.bind _) ((aq ((lO (e2v (yc (m:=.bo) Y) Y (by
  show Z (Md.fr,T.bl (decide ((8:Int)<=(tx.length:Int))))=_;rw[ZK (by omega)]))).trans Y)).trans ((aq (Df (tx:=tx) (hd:=hd) (S:=S) (b:=B) (r:=[]) (e:=eC (.str [])) (v:=[]) Y (by omega))).trans ((aq (D8 (tx:=tx++[[]]) (hd:=hd) (S:=S) (b:=B) (r:=[]) (e:=Q3 0) (v:=0) Y (by omega))).trans a)))
def wM{tx:List Tx}(a:i<tx.length):bx [.lst (tx.map .str),.int (i:Int)]=Z (.fr,.non):=by
 refine FQ (U:=[pc (.lst (tx.map .str)),Q0 (i:Int)]) Y ?_;refine(lO (m:=.fr) (C4 (m:=.fr) (x:=L) ?_ (λ_=>?_) (λh=>by cases h))).trans rfl
 ·exact uG (b:=B) Y
 ·refine uG (m:=.fr) (b:=B) (CF (z:=(.fr,.int (tx.length:Int))) Y Y ?_ ?_ ?_)
  ·show Z (Md.fr,T.bl (decide ((0:Int)<=(i:Int))))=_;rw[decide_eq_true (by omega)]
  ·exact jc (xv (by
    rfl) Y) (by
    show Z (Md.fr,T.int (((tx.map T.str).length:Nat):Int))=_;rw[Zu])
  ·show Z (Md.fr,T.bl (decide ((i:Int)<(tx.length:Int))))=_;rw[decide_eq_true (by omega)]
end
noncomputable def de(a:List Tx):Nat:=(a.map List.length).sum
theorem vo:∀a:List Tx,(a.map λt=>(t.length:Int)).sum=(de a:Int)
 |[]=>rfl
 |t :: a=>by
  rw[Zo,VP,vo a];unfold de;rw[Zo,VP];omega
def yw(a:List Tx)(b:a.length<=16777216):iD [.lst (a.map .str)]=Z (.fr,.int (de a:Int)):=by
 refine eE (U:=[pc (.lst (a.map .str))]) Y ?_;refine dR (jc (xv (gQ T.str (λ(t:Tx)=>T.int (t.length:Int)) a Y Y b (λt d=>⟨[Q2 t,pc (.lst (a.map .str))],rfl,rfl⟩)) Y) ?_);show (sI (a.map λ(t:Tx)=>T.int (t.length:Int))).bind _=_;rw[ints_map (λ(t:Tx)=>(t.length:Int)),Zs,vo]
section
def Dv{hd:Us}{i v:Nat}{e ev:Ex}{n:Md}{r:List (Up)}(g:i<hd.length)(he:e (oc (Io tx hd S b) :: r)=Z (n,.int (i:Int)))(a:ev (oc (Io tx hd S b) :: r)=Z (.fr,.int (v:Int))) :
  fA 0 [.fld 5] e ev (oc (Io tx hd S b) :: r)=Z (.nx (oc (Io tx (hd.set i v) S b) :: r)):=by
 unfold fA;rw[a,Zs];show ((keys [.fld 5] (oc (Io tx hd S b) :: r)).bind _)=_;have f:keys [.fld 5] (oc (Io tx hd S b) :: r)=Z [.fld 5]:=rfl;rw[f,Zs,he,Zs];have d:pm (kC (n,.int (i:Int)) (.fr,.int (v:Int))) [.fld 5] (Io tx hd S b)=Z (Io tx (hd.set i v) S b,()):=by
  show ((kC (n,.int (i:Int)) (.fr,.int (v:Int)) (.lst (hd.map λ(n:Nat)=>T.int (n:Int)))).map _)=_;have:kC (n,.int (i:Int)) (.fr,.int (v:Int)) (.lst (hd.map λ(n:Nat)=>T.int (n:Int)))=Z (.lst ((hd.set i v).map λ(n:Nat)=>T.int (n:Int)),()):=by
   show ((JY (hd.map λ(n:Nat)=>T.int (n:Int)).length (i:Int)).map _)=_;rw[Zu,t5 g,Vs];rfl
  rw[this];rfl
 rw[d];rfl
def DH{tx:List Tx}(h:i<tx.length)(he:e (oc (Io tx hd S b) :: r)=Z (n,.int (i:Int)))(d:a (oc (Io tx hd S b) :: r)=Z (.fr,.str v)) :
  fA 0 [.fld 4] e a (oc (Io tx hd S b) :: r)=Z (.nx (oc (Io (tx.set i v) hd S b) :: r)):=by
 unfold fA;rw[d,Zs];show ((keys [.fld 4] (oc (Io tx hd S b) :: r)).bind _)=_;have g:keys [.fld 4] (oc (Io tx hd S b) :: r)=Z [.fld 4]:=rfl;rw[g,Zs,he,Zs];have f:pm (kC (n,.int (i:Int)) (.fr,.str v)) [.fld 4] (Io tx hd S b)=Z (Io (tx.set i v) hd S b,()):=by
  show ((kC (n,.int (i:Int)) (.fr,.str v) (.lst (tx.map T.str))).map _)=_;have:kC (n,.int (i:Int)) (.fr,.str v) (.lst (tx.map T.str))=Z (.lst ((tx.set i v).map T.str),()):=by
   show ((JY (tx.map T.str).length (i:Int)).map _)=_;rw[Zu,t5 h,Vs];rfl
  rw[this];rfl
 rw[f];rfl
def By{tx:List Tx}{hd:Us}{w:Tx}(W:WF S)(E:hd.length=tx.length)(a:i<tx.length)(F:tx.length<=8)(D:de tx+w.length<=120)(p:S.lg.length+2*w.length<=100000)(o:hd.getD i 0<S.lg.length)(q:∀c∈w,97<=c/\c<=122)(C:(tx.getD i []).length<=120)(e:hg S (hd.getD i 0) w=Z (S',r)) :
  aS (LP tx hd S) [.int (i:Int),.str w]=Z (LP (tx.set i (tx.getD i []++w)) (hd.set i r) S',.non):=by
 obtain⟨A,u,s,g⟩:=GD W p o q e;unfold aS Ka;rw[Zr ⟨rfl,rfl⟩];have l:sX (xP (bR bx (ae (bj 4 (aa 0)) (ae (aa 1) aj)))) [oc (Io tx hd S B),Q0 (i:Int),Q2 w]=Z (.nx [oc (Io tx hd S B),Q0 (i:Int),Q2 w]):=by
  have:bR bx (ae (bj 4 (aa 0)) (ae (aa 1) aj)) [oc (Io tx hd S B),Q0 (i:Int),Q2 w]=Z (.fr,.non):=dN (xv (fH Y (Ac tx hd S B)) (xv Y Y)) (wM a);show (((bR bx _ _).map _).map _)=_;rw[this];rfl
 have f:bG 0 [.fld 6] 0 [L,L] aU (ae (e2 aH (bj 5 (aa 0)) (aa 1)) (ae (aa 2) aj)) [oc (Io tx hd S B),Q0 (i:Int),Q2 w]=Z ((.fr,.int (r:Int)),[oc (Io tx hd S' B),Q0 (i:Int),Q2 w]):=by
  show ((Z [Ky.fld 6]).bind λks=>(ae (e2 aH (bj 5 (aa 0)) (aa 1)) (ae (aa 2) aj) [oc (Io tx hd S B),Q0 (i:Int),Q2 w]).bind λd=>(pm (jI 0 [L,L] aU d) ks (Io tx hd S B)).map λz=>(z.2,[oc z.1,Q0 (i:Int),Q2 w]))=_;rw[Zs,xv (x:=(.fr,.int ((hd.getD i 0:Nat):Int))) (e2v (fH Y (Hw tx hd S B)) Y (nK _ hd i 0 (by omega))) (xv (x:=(.fr,.str w)) Y Y),Zs];show (((if 1=0+1/\eP (Lh S)=B/\argsOk [L,L] [(Md.fr,T.int ((hd.getD i 0:Nat):Int)),(Md.fr,T.str w)]=B/\dZ (trees [(Md.fr,T.int ((hd.getD i 0:Nat):Int)),(Md.fr,T.str w)])=B then (aU (Lh S) [.int ((hd.getD i 0:Nat):Int),.str w]).bind λz=>if eP z.1=B/\Iw z.2=B then Z (T.obj 1 ((0,.bl L) :: z.1),(Md.fr,z.2)) else J else J).map _).map _)=_;rw[Zr ⟨rfl,kh S,rfl,rfl⟩,g,Zs,Zr ⟨kh S',rfl⟩];rfl
 have j:fA 0 [.fld 4] (aa 1) (e2 dH (e2 aH (bj 4 (aa 0)) (aa 1)) (aa 2)) [oc (Io tx (hd.set i r) S' B),Q0 (i:Int),Q2 w]=Z (.nx [oc (Io (tx.set i (tx.getD i []++w)) (hd.set i r) S' B),Q0 (i:Int),Q2 w]) :=
  DH a Y (e2v (fH Y (Ac tx (hd.set i r) S' B) |> λh=>e2v h Y (nK T.str tx i [] a)) Y (m7 (by omega)))
 exact Z5 (λz:Option Out=>z.bind _) ((aq l).trans ((aq ((lO (e2v (x:=(.fr,.int ((de tx:Int)+(w.length:Int)))) (e2v (dN (xv (r:=aj) (fH (m:=.bo) (t:=Io tx hd S B) Y (Ac tx hd S B)) Y) (yw tx (by omega))) (y:=(.fr,.int (w.length:Int))) Y Y) Y (by
   show Z (Md.fr,T.bl (decide ((120:Int)<(de tx:Int)+(w.length:Int))))=_;rw[ZK (by omega)]))).trans Y)).trans ((aq (by
  unfold nA;rw[f];exact Dv (tx:=tx) (hd:=hd) (S:=S') (b:=B) (r:=[Q0 (i:Int),Q2 w]) (e:=aa 1) (ev:=λ_=>Z (.fr,.int (r:Int))) (i:=i) (v:=r) (n:=.fr) (by omega) Y Y)).trans j)))
end
end T06
end
section
namespace T06
open VS
theorem sU{β:Type}{tg:Tg}{body:Sx}(g:β->T)(Inv:List β->Env->Prop)(h:∀t r U,Inv (t :: r) U->∃i a,tg (g t) U=Z i/\body i=Z (.nx a)/\Inv r a):∀(l:List β)(U:Env),Inv l U->∃b,forL tg body (l.map g) U=Z (.nx b)/\Inv [] b
 |[],U,f=>⟨U,rfl,f⟩
 |t :: l,U,f=>by
  obtain⟨i,a,e1,e2,e⟩:=h t l U f;obtain⟨b,e3,d⟩:=sU g Inv h l a e;exact⟨b,(cI e1 e2).trans e3,d⟩
noncomputable def cellAt(a:Ur)(k:Nat):Int:=a.getD k 0
def vR(a:Ur)(k:Nat):bq [.scr a,.int k]=Z (.fr,.int (cellAt a k)):=by
 by_cases h:k<a.length
 ·refine eE Y (mD ((oA (m:=.fr) ?_).trans (dR (e2v (x:=(.fr,.scr a)) (y:=(.fr,.int k)) Y Y ?_))))
  ·refine e2v Y Y ?_;show Z (Md.fr,T.bl (decide ((k:Int)<(a.length:Int))))=_;rw[decide_eq_true (by omega)]
  ·rw[AW a k (by omega) (by omega),Xq];rfl
 ·refine eE Y ((aq ((lO (m:=.fr) ?_).trans Y)).trans (dR ?_))
  ·refine e2v Y Y ?_;show Z (Md.fr,T.bl (decide ((k:Int)<(a.length:Int))))=_;rw[ZK (by omega)]
  ·unfold cellAt;rw[Zp,Yr (by omega)];rfl
def pR{k:Nat}{m:Md}(b:aa 0 U=Z (m,.scr a))(h:e U=Z (.fr,.int (k:Int))):bR bq (ae (aa 0) (ae e aj)) U=Z (.fr,.int (cellAt a k)):=dN (xv b (xv h Y)) (vR a k)
def Cj(c k:Int)(g:0<=k)(f:k<1000000):∃v,eR [.int c,.int k]=Z (.fr,.int v):=by
 have e:=WN (c%2147483629+48271*k+11) (b:=2147483629) (by decide);have e1:=Wm (c%2147483629+48271*k+11) (b:=2147483629) (by decide);generalize d:(c%2147483629+48271*k+11)%2147483629=n at e e1;have a:aT 2 (e2 oMod (e2 dH (e2 dH (e2 oMod (aa 0) (Q3 2147483629)) (e2 oE (Q3 48271) (aa 1))) (Q3 11)) (Q3 2147483629)) [Q0 c,Q0 k,J]=Z (.nx [Q0 c,Q0 k,Q0 n]):=by
  refine aK (m:=.fr) (e2v (e2v (e2v (e2v Y Y (gh (by decide))) (e2v Y Y (nj (by decide))) Y) Y Y) Y ?_) (by decide) (by show 2<3;decide);rw[gh (by decide),d]
 exact⟨_,eE Y ((aq a).trans ((aq (aK (m:=.fr) (e2v (e2v (e2v (x:=(.fr,.int n)) (y:=(.fr,.int n)) Y Y (nj (by omega))) (y:=(.fr,.int 2147483629)) Y (gh (by decide))) (e2v (x:=(.fr,.int 7919)) (y:=(.fr,.int k)) Y Y (nj (by decide))) Y) (by decide) (by show 2<3;decide))).trans (dR (e2v (e2v Y Y (nj (by omega))) Y (gh (by decide))))))⟩
abbrev ET(d:Ur)(L:Tx)(b j c a:Int)(s:Us)(z:Up):Env:=[pc (.scr d),Q2 L,Q0 b,Q0 j,Q0 c,Q0 a,oc (.lst (s.map λx=>T.str [x])),z]
def xA{U:Env}{L:Tx}{e:Ex}{y:Int}(g:0<L.length)(a:aa 1 U=Z (m,.str L))(he:e U=Z (.fr,.int y)):∃x∈L,e2 aH (aa 1) (e2 oMod e (eN dY (ae (aa 1) aj))) U=Z (.fr,.str [x]):=by
 have f:=Wm y (b:=(L.length:Int)) (by omega);have d:(y%(L.length:Int)).toNat<L.length:=by omega
 refine⟨L.getD (y%(L.length:Int)).toNat 0,?_,e2v a (e2v he (jc (xv a Y) Y) (gh (by omega))) (Dx L _ (WN y (b:=(L.length:Int)) (by omega)) f)⟩;rw[Zp,Zk d];exact Yo d
def CP{L:Tx}{b j c a:Int}(h:e (ET d L b j c a s z)=Z (.fr,.str [x]))(f:s.length<1000):sX (mh 6 [] aC (ae e aj)) (ET d L b j c a s z)=Z (.nx (ET d L b j c a (s++[x]) z)):=by
 rw[oy Y h (by rw[Zu];omega)];show Z (Out.nx [pc (.scr d),Q2 L,Q0 b,Q0 j,Q0 c,Q0 a,oc (.lst (s.map (λx=>T.str [x])++[T.str [x]])),z])=Z (Out.nx [pc (.scr d),Q2 L,Q0 b,Q0 j,Q0 c,Q0 a,oc (.lst ((s++[x]).map λx=>T.str [x])),z]);rw[Yz];rfl
def yj(d:Ur)(L:Tx)(b a:Int)(j:Nat)(D:j<=1000)(q:0<L.length)(F:L.length<1000)(n:Nat)(C:n<1000)(c:Int):∃f s z,forL (bK 7) gC ((List.range n).map λ(k:Nat)=>T.int (k:Int)) (ET d L b j c a [] J)=Z (.nx (ET d L b j f a s z))/\s.length<=n/\∀x∈s,x∈L:=by
 obtain⟨E,e,f,s,z,rfl,m,l,_⟩:=sU (tg:=bK 7) (body:=gC) (λ(k:Nat)=>T.int (k:Int)) (λr U=>∃c s z,U=ET d L b j c a s z/\s.length+r.length<=n/\(∀x∈s,x∈L)/\∀k∈r,k<n) (by
  rintro k r _ ⟨c,s,z,rfl,m,l,t⟩;rw[Zb]at m;have i:=t k Zy;have u:e2 oEq (e2 oMod (bR bq (ae (aa 0) (ae (Q3 0) aj))) (Q3 2)) (Q3 0) (ET d L b j c a s (Q0 k))=Z (.fr,.bl (cellAt d 0%2==0)):=by
   refine e2v ((λU h=>e2v (pR (k:=0) h Y) (y:=(.fr,.int 2)) Y (gh (by decide))) _ Y) Y (j7 Y Y ?_);simp only[eqT]
  have fin:∀(f:Int)(x:Nat),x∈L->∃c o z,ET d L b j f a (s++[x]) (Q0 k)=ET d L b j c a o z/\o.length+r.length<=n/\(∀x∈o,x∈L)/\∀k∈r,k<n:=λf x g=>⟨_,_,_,rfl,by rw[Zv,ZA];omega,λy w=>(Zj.mp w).elim (l y) (λh=>Zl.mp h ▸ g),λk i=>t k (Zw _ i)⟩
  by_cases p:cellAt d 0%2=0
  ·obtain⟨x,g,ex⟩:=xA (U:=ET d L b j c a s (Q0 k)) (e:=aa 4) q Y Y;refine⟨ET d L b j c a s (Q0 k),ET d L b j (c/(L.length:Int)) a (s++[x]) (Q0 k),rfl,(oA (u.trans (by rw[beq_iff_eq.mpr p]))).trans ((aq (CP ex (by omega))).trans ?_),fin _ x g⟩;exact aK (e2v Y Y (i9 (by omega))) (by decide) (by show 4<8;decide)
  ·obtain⟨v,A⟩:=Cj c (30*(j:Int)+k) (by omega) (by omega);obtain⟨x,g,ex⟩:=xA (U:=ET d L b j c a s (Q0 k)) (e:=e2 cA (bR eR (ae (aa 4) (ae (e2 dH (e2 oE (Q3 30) (aa 3)) (aa 7)) aj))) (Q3 7)) q Y (e2v (dN (xv Y (xv (e2v (e2v Y Y (nj (by decide))) Y Y) Y)) A) Y (i9 (by decide)));exact⟨ET d L b j c a s (Q0 k),ET d L b j c a (s++[x]) (Q0 k),rfl,(lO (u.trans (by rw[Z0.mpr p]))).trans (CP ex (by omega)),fin _ x g⟩) (List.range n) (ET d L b j c a [] J) ⟨c,[],J,rfl,by rw[Yx];exact Y9 (XH _),(λ_ h=>nomatch h),λk i=>Ym.mp i⟩
 exact⟨f,s,z,e,m,l⟩
def Dw(d:Ur)(L:Tx)(a:Int)(j:Nat)(h:j<=1000)(g:0<L.length)(o:L.length<1000)(q:0<=a)(p:a<1000):∃t:Tx,dC [.scr d,.str L,.int a,.int j]=Z (.fr,.str t)/\t.length<=a.toNat/\∀x∈t,x∈L:=by
 generalize i:cellAt d (1+j)=c;have w:=WN c (b:=a+1) (by omega);have v:=Wm c (b:=a+1) (by omega);obtain⟨u,s,z,e,r,l⟩:=yj d L a (c%(a+1)) j h g o (c%(a+1)).toNat (by omega) (c/(a+1));refine⟨s,?_,by omega,l⟩;have f:aT 5 (e2 oMod (aa 4) (e2 dH (aa 2) (Q3 1))) [pc (.scr d),Q2 L,Q0 a,Q0 j,Q0 c,J,J,J]=Z (.nx [pc (.scr d),Q2 L,Q0 a,Q0 j,Q0 c,Q0 (c%(a+1)),J,J]):=aK (e2v Y Y (gh (by omega))) (by decide) (by show 5<8;decide);refine eE Y ((aq (by
  rw[← i];refine aK (m:=.fr) (pR (k:=1+j) Y (e2v (x:=(.fr,.int 1)) (y:=(.fr,.int (j:Int))) Y Y ?_)) (by decide) (by show 4<8;decide);show Z (Md.fr,T.int (1+(j:Int)))=_;rw[show (1+(j:Int))=((1+j:Nat):Int) by omega])).trans ((aq f).trans ((aq (aK (m:=.fr) (e2v (x:=(.fr,.int c)) (y:=(.fr,.int (a+1))) Y Y (i9 (by omega))) (by decide) (by show 4<8;decide))).trans ((aq Y).trans ((aq (by
  refine(c7 (m:=.fr) ?_ Y).trans e;rw[hZ (m:=.fr) (j:=c%(a+1)) Y (by omega),kj])).trans ((aq Y).trans (dR ?_)))))))
 have:=wH (m:=.fr) (n:=(up Md.pu (.lst (s.map λx=>T.str [x]))).1) (strs_map (λx=>[x]) s) (by rw[kQ];omega);rw[kQ]at this;exact this
abbrev EB(e:Ur)(d:Int)(L:Tx)(a b:Int):Env:=[pc (.scr e),Q0 d,Q2 L,Q0 a,Q0 b]
def o8(o:Ur)(L:Tx)(d b g:Int)(w:0<=d)(v:d<1000)(E:0<=b)(D:b<=8)(s:0<L.length)(z:L.length<1000)(y:∀c∈L,97<=c/\c<=122) :
  ∃bk:List Tx,eQ 1 (bK 0) (fj (aa 3)) J (bR dC (ae (aa 1) (ae (aa 3) (ae (aa 5) (ae (aa 0) aj))))) (EB o g L b d)=Z (.fr,.lst (bk.map .str))/\bk.length<=8/\bk.flatten.length<=b.toNat*d.toNat/\∀t∈bk,∀c∈t,97<=c/\c<=122:=by
 have ex:∀j:Nat,∃t:Tx,j<=1000->dC [.scr o,.str L,.int d,.int j]=Z (.fr,.str t)/\t.length<=d.toNat/\∀x∈t,x∈L:=λj=>by
  by_cases e:j<=1000
  ·obtain⟨t,h⟩:=Dw o L d j e s z w v;exact⟨t,λ_=>h⟩
  ·exact⟨[],λh=>absurd h e⟩
 obtain⟨f,p⟩:=Classical.axiomOfChoice ex;have i:∀j∈List.range b.toNat,j<=1000:=λj e=>by
  have:=Ym.mp e;omega
 refine⟨(List.range b.toNat).map f,?_,by rw[Zu,Yx];omega,?_,λt r c u=>?_⟩
 ·rw[Z7];refine gQ (m:=.fr) (λ(j:Nat)=>T.int (j:Int)) (λj=>T.str (f j)) (List.range b.toNat) ?_ Y (by rw[Yx];omega) λj e=>⟨_,rfl,dN (xv Y (xv Y (xv Y (xv Y Y)))) (p j (i j e)).1⟩
  rw[hZ Y (by omega),kj]
 ·generalize b.toNat=n at i ⊢;have:∀l:Us,(∀j∈l,j<=1000)->(l.map f).flatten.length<=l.length*d.toNat:=by
   intro l
   induction l with
   |nil=>intro _;exact ZE _
   |cons a l q =>
    intro h;have C:=q λj e=>h j (Zw _ e);have A:=(p a (h a Zy)).2.1;rw[Zo,Z1,Zv,Zb,Nat.succ_mul];omega
  have:=this (List.range n) i;rw[Yx]at this;exact this
 ·obtain⟨j,e,rfl⟩:=Yv.mp r;exact y c ((p j (i j e)).2.2 c u)
noncomputable def fM:List Tx:=[[97,98],[97,98,99],[97,98,99,100],[97,122],[97],[97,98,99,100,101,102,103,104,105,106,107,108,109,110,111,112,113,114,115,116,117,118,119,120,121,122]]
noncomputable def counts:Ur:=[1,2,3,4,2,1,0,8]
def sy:(∀k,k<6->0<(fM.getD k []).length/\(fM.getD k []).length<1000/\∀c∈fM.getD k [],97<=c/\c<=122)/\∀k,k<8->0<=counts.getD k 0/\counts.getD k 0<=8:=by decide
def Bv(c:Int)(b:0<=c)(a:c<=8):∃most:Int,aH (m,.lst [.int 24,.int 12,.int 8,.int 6]) (n,.int ((if 4<c then 4 else c)-1))=Z (.fr,.int most)/\0<=most/\most<=24/\c.toNat*most.toNat<=60:=by
 have:c=0\/c=1\/c=2\/c=3\/c=4\/4<c:=by omega
 rcases this with rfl | rfl | rfl | rfl | rfl | h
 ·exact⟨6,rfl,by decide,by decide,by decide⟩
 ·exact⟨24,rfl,by decide,by decide,by decide⟩
 ·exact⟨12,rfl,by decide,by decide,by decide⟩
 ·exact⟨8,rfl,by decide,by decide,by decide⟩
 ·exact⟨6,rfl,by decide,by decide,by decide⟩
 ·rw[Zr h];refine⟨6,rfl,by decide,by decide,?_⟩;show c.toNat*6<=60;omega
def DD(a:Ur):∃bk:List Tx,ip [.scr a]=Z (.fr,.lst (bk.map .str))/\bk.length<=8/\bk.flatten.length<=120/\∀t∈bk,∀c∈t,97<=c/\c<=122:=by
 generalize P:cellAt a 0=cell;obtain⟨z,w,v⟩:=sy.1 (cell/2%6).toNat (by omega);obtain⟨f,s⟩:=sy.2 (cell/12%8).toNat (by omega);have li:=xS (m:=.fr) (n:=.fr) T.str fM (cell/2%6) [] (WN (cell/2) (b:=6) (by decide)) (by exact(Wm (cell/2) (b:=6) (by decide))) Y;have ci:=xS (m:=.fr) (n:=.fr) T.int counts (cell/12%8) 0 (WN (cell/12) (b:=8) (by decide)) (by exact(Wm (cell/12) (b:=8) (by decide))) Y;have fd:∀(U:Env)(q:Int),0<q/\q<1073741824->aa 1 U=Z (Md.fr,T.int cell)->e2 cA (aa 1) (Q3 q) U=Z (.fr,.int (cell/q)):=λU q j h=>e2v h Y (i9 j);have l:∀(U:Env)(q r:Int),0<q/\q<1073741824->0<r->aa 1 U=Z (Md.fr,T.int cell)->e2 oMod (e2 cA (aa 1) (Q3 q)) (Q3 r) U=Z (.fr,.int (cell/q%r)):=λU q r j O h=>e2v (fd U q j h) Y (gh O);generalize fM.getD (cell/2%6).toNat []=L at z w v li;generalize counts.getD (cell/12%8).toNat 0=count at f s ci;obtain⟨most,H,N,m1,m2⟩:=Bv count f s;have G:e2 oMod (e2 cA (aa 1) (Q3 2)) (Q3 6) [pc (.scr a),Q0 cell,J,J,J]=Z (.fr,.int (cell/2%6)):=l _ 2 6 (by decide) (by decide) Y;have F:∀x,e2 oMod (e2 cA (aa 1) (Q3 96)) (Q3 8) (EB a cell L count x)=Z (.fr,.int (cell/96%8)):=λx=>l _ 96 8 (by decide) (by decide) Y;have fin:∀(x:Int),0<=x->x<1000->count.toNat*x.toNat<=120->∃bk:List Tx,(ak (JB (ie (e2 oEq (aa 3) (Q3 8)) (e2 Ly (e2 oMod (e2 cA (aa 1) (Q3 96)) (Q3 8)) (Q3 5))) (aT 4 (Q3 3)) eX) (eA (eQ 1 (bK 0) (fj (aa 3)) J (bR dC (ae (aa 1) (ae (aa 3) (ae (aa 5) (ae (aa 0) aj)))))))) (EB a cell L count x)=Z (.rt (.fr,.lst (bk.map .str)) (EB a cell L count (if (count==8 && !(cell/96%8==5))=B then 3 else x)))/\bk.length<=8/\bk.flatten.length<=120/\∀t∈bk,∀c∈t,97<=c/\c<=122:=by
  intro x d D x2;have o:ie (e2 oEq (aa 3) (Q3 8)) (e2 Ly (e2 oMod (e2 cA (aa 1) (Q3 96)) (Q3 8)) (Q3 5)) (EB a cell L count x)=Z (.fr,.bl (count==8 && !(cell/96%8==5))):=by
   refine FE (n:=.fr) (e2v Y Y (j7 Y Y ?_)) (e2v (F x) Y (uK Y Y ?_))
   ·simp only[eqT]
   ·simp only[eqT]
  cases hb:(count==8 && !(cell/96%8==5)) with
  |true =>
   rw[hb]at o;obtain⟨bk,e,C,E,A⟩:=o8 a L 3 count cell (by decide) (by decide) f s z w v;exact⟨bk,(aq ((oA o).trans (rfl))).trans (dR e),C,ZU E (by rw[(beq_iff_eq.mp (ZS.mp hb).1)];decide),A⟩
  |false =>
   rw[hb]at o;obtain⟨bk,e,C,E,A⟩:=o8 a L x count cell d D f s z w v;exact⟨bk,(aq ((lO o).trans Y)).trans (dR e),C,by omega,A⟩
 have pre:∀rest:Sx,ak (aT 1 (bR bq (ae (aa 0) (ae (Q3 0) aj)))) (ak (aT 2 (e2 aH (gF (ae (eC (.str [97,98])) (ae (eC (.str [97,98,99])) (ae (eC (.str [97,98,99,100])) (ae (eC (.str [97,122])) (ae (eC (.str [97])) (ae (eC (.str [97,98,99,100,101,102,103,104,105,106,107,108,109,110,111,112,113,114,115,116,117,118,119,120,121,122])) aj))))))) (e2 oMod (e2 cA (aa 1) (Q3 2)) (Q3 6)))) (ak (aT 3 (e2 aH (gF (ae (Q3 1) (ae (Q3 2) (ae (Q3 3) (ae (Q3 4) (ae (Q3 2) (ae (Q3 1) (ae (Q3 0) (ae (Q3 8) aj))))))))) (e2 oMod (e2 cA (aa 1) (Q3 12)) (Q3 8)))) (ak (aT 4 (e2 aH (gF (ae (Q3 24) (ae (Q3 12) (ae (Q3 8) (ae (Q3 6) aj))))) (e2 qu (eN qV (ae (aa 3) (ae (Q3 4) aj))) (Q3 1)))) rest))) [pc (.scr a),J,J,J,J]=rest (EB a cell L count most):=λrest =>
  (aq (by
  rw[← P];exact aK (m:=.fr) (pR (k:=0) Y Y) (by decide) (by show 1<5;decide))).trans ((aq (aK (e2v Y G li) (by decide) (by show 2<5;decide))).trans ((aq (aK (e2v Y (l _ 12 8 (by decide) (by decide) Y) ci) (by decide) (by show 3<5;decide))).trans (aq (aK (e2v Y Y H) (by decide) (by show 4<5;decide)))))
 have p:e2 oEq (e2 oMod (e2 cA (aa 1) (Q3 96)) (Q3 8)) (Q3 5) (EB a cell L count most)=Z (.fr,.bl (cell/96%8==5)):=by
  refine e2v (F most) Y (j7 Y Y ?_);simp only[eqT]
 cases hb:(cell/96%8==5) with
 |true =>
  rw[hb]at p;have R:∃Q:Int,(Q=60\/Q=120)/\e2 aH (gF (ae (Q3 60) (ae (Q3 120) aj))) (e2 oMod (e2 cA (aa 1) (Q3 768)) (Q3 2)) (EB a cell L count most)=Z (.fr,.int Q):=by
   have i:e2 oMod (e2 cA (aa 1) (Q3 768)) (Q3 2) (EB a cell L count most)=Z (.fr,.int (cell/768%2)):=l _ 768 2 (by decide) (by decide) Y;have:cell/768%2=0\/cell/768%2=1:=by omega
   rcases this with h | h
   ·rw[h]at i;exact⟨60,.inl Y,e2v Y i Y⟩
   ·rw[h]at i;exact⟨120,.inr Y,e2v Y i Y⟩
  obtain⟨Q,j,eq⟩:=R;have u:(1:Int)<=(if count > 1 then count else 1)/\(if count > 1 then count else 1)<=8/\count<=(if count > 1 then count else 1):=by split<;>omega
  generalize S:(if count > 1 then count else 1)=M at u;have d:0<=Q/M:=Int.ediv_nonneg (by omega) (by omega);have D:M*(Q/M)<=Q:=Int.mul_ediv_self_le (by omega);have x2:=Uv u.2.2 d;have X:=Uv u.1 d;obtain⟨bk,e,g⟩:=fin (Q/M) d (by omega) (by
   have:((count.toNat*(Q/M).toNat:Nat):Int)=count*(Q/M):=by rw[Int.natCast_mul,Int.toNat_of_nonneg f,Int.toNat_of_nonneg d]
   omega)
  exact⟨bk,eE Y ((pre _).trans ((aq ((oA p).trans (by
   refine aK (m:=.fr) (e2v eq (y:=(.fr,.int M)) ?_ (i9 (by omega))) (by decide) (by show 4<5;decide);rw[← S];rfl))).trans e)),g⟩
 |false =>
  rw[hb]at p;obtain⟨bk,e,g⟩:=fin most N (by omega) (by omega);exact⟨bk,eE Y ((pre _).trans ((aq ((lO p).trans Y)).trans e)),g⟩
end T06
end
section
namespace T06
open VS AU
theorem vw:∀l:List Tx,fU (l.map T.str)=B
 |[]=>rfl
 |_ :: l=>by
  rw[Zo];show (B&&fU _)=B;rw[vw l];rfl
def wD(a:List Tx):de a=a.flatten.length:=by
 unfold de;rw[List.length_flatten]
def d9(t:Tx)(l:List Tx):de (t :: l)=t.length+de l:=by unfold de;rw[Zo,VP]
def nS(a b:List Tx):de (a++b)=de a+de b:=by
 unfold de;rw[Yz,List.sum_append]
theorem nc:∀{l:List Tx},t∈l->t.length<=de l
 |[],h=>nomatch h
 |a :: l,h=>by
  rw[d9];rcases Zh.mp h with rfl | h
  ·omega
  ·have:=nc h;omega
theorem m9:∀(l:List Tx)(i:Nat)(w:Tx),i<l.length->de (l.set i (l.getD i []++w))=de l+w.length
 |[],_,_,h=>absurd h (Vo _)
 |a :: l,0,w,_=>by
  show de ((a++w) :: l)=_;rw[d9,d9,Zv];omega
 |a :: l,i+1,w,h=>by
  show de (a :: l.set i (l.getD i []++w))=_;rw[d9,d9,m9 l i w (by simpa using h)];omega
structure MK(tx:List Tx)(hd:Us)(S:St):Prop where
 k:∃nd wd,K (Hd tx) S nd wd/\wd.length<=1+2*de tx/\∀i,i<tx.length->hd.getD i 0<wd.length/\W wd (hd.getD i 0)=tx.getD i []
 len:hd.length=tx.length
 QY:tx.length<=8
 sum:de tx<=120
 az:∀t∈tx,∀c∈t,97<=c/\c<=122
def mk0:MK [] [] S0:=⟨⟨LB,[[]],K0.congr λp=>⟨λh=>.inl h,λh=>h.elim id (λ⟨_,z,_⟩=>nomatch z)⟩,by decide,λi h=>absurd h (Vo _)⟩,rfl,by decide,by decide,λt h=>nomatch h⟩
def nN{α:Type}(l:List α)(x d:α)(h:i<l.length):(l++[x]).getD i d=l.getD i d:=(bw l x d i).trans (Zq (by omega))
def MK.begin(h:MK b f S)(o:b.length<8):MK (b++[[]]) (f++[0]) S:=by
 obtain⟨nd,j,H,l,g⟩:=h.k;have d:de (b++[[]])=de b:=by rw[nS];rfl
 refine⟨⟨nd,j,H.congr λp=>?_,by rw[d];exact l,λi m=>?_⟩,by rw[Zv,Zv,h.len];rfl,by rw[Zv,ZA];omega,by rw[d];exact h.sum,λt a=>?_⟩
 ·constructor
  ·rintro (z | ⟨t,a,z⟩)
   ·exact .inl z
   ·exact .inr ⟨t,Z8 _ a,z⟩
  ·rintro (z | ⟨t,a,z⟩)
   ·exact .inl z
   ·rcases Zj.mp a with a | a
    ·exact .inr ⟨t,a,z⟩
    ·rw[Zl.mp a]at z;exact .inl (List.prefix_nil.mp z)
 ·rw[Zv,ZA]at m;by_cases q:i<b.length
  ·rw[nN _ _ _ q,nN _ _ _ (by rw[h.len];exact q)];exact g i q
  ·have e:i=b.length:=by omega
   subst e;rw[bw,Zr h.len.symm,bw,Zr Y];exact⟨H.i.lt H.i.z,H.i.wz⟩
 ·rcases Zj.mp a with a | a
  ·exact h.az t a
  ·rw[Zl.mp a];exact λc n=>nomatch n
def getD_mem'{l:List Tx}(h:i<l.length):l.getD i []∈l:=by
 rw[Zp,Zk h];exact Yo h
def Ec{a:List Tx}(g:i<a.length)(p:Tx):(Hd a p\/∃v,v <+: w/\p=a.getD i []++v)↔Hd (a.set i (a.getD i []++w)) p:=by
 have d:a.getD i []++w∈a.set i (a.getD i []++w):=List.mem_set g _;constructor
 ·rintro ((z | ⟨t,b,z⟩) | ⟨v,h,rfl⟩)
  ·exact .inl z
  ·obtain⟨j,f,e⟩:=Vd.mp b;by_cases q:i=j
   ·subst q;have:a.getD i []=t:=by rw[Zp,Zk f,e];rfl
    exact .inr ⟨_,d,by rw[this];exact z.trans (VL _ _)⟩
   ·refine .inr ⟨t,Vd.mpr ⟨j,by rw[Ys];exact f,by rw[List.getElem_set_ne q];exact e⟩,z⟩
  ·exact .inr ⟨_,d,(List.prefix_append_right_inj _).mpr h⟩
 ·rintro (z | ⟨t,b,z⟩)
  ·exact .inl (.inl z)
  ·rcases Wv b with b | rfl
   ·exact .inl (.inr ⟨t,b,z⟩)
   ·by_cases q:p.length<=(a.getD i []).length
    ·exact .inl (.inr ⟨_,getD_mem' g,V8 z (VL _ _) q⟩)
    ·obtain⟨v,rfl⟩:=V8 (VL _ _) z (by omega);exact .inr ⟨v,(List.prefix_append_right_inj _).mp z,rfl⟩
def pF{α:Type}(l:List α)(x d:α)(a:i<l.length):(l.set i x).getD j d=if i=j then x else l.getD j d:=by
 rw[fD];by_cases h:i=j
 ·rw[Zr ⟨h,a⟩,Zr h]
 ·rw[Zq (λz=>h z.1),Zq h]
theorem MK.grow(h:MK a f S)(b:i<a.length)(hw:∀c∈w,97<=c/\c<=122)(s:de a+w.length<=120) :
  ∃x n,aS (LP a f S) [.int (i:Int),.str w]=Z (LP (a.set i (a.getD i []++w)) x n,.non)/\MK (a.set i (a.getD i []++w)) x n:=by
 obtain⟨nd,M,H,l,g⟩:=h.k;obtain⟨v,m⟩:=g i b;have N:=nc (getD_mem' b);obtain⟨n,r,F,E,e,G,D,C,A,P,O⟩:=H.grow w v (by rw[m];exact .inr ⟨_,getD_mem' b,List.prefix_rfl⟩) hw (by rw[m];have:=h.sum;omega);refine⟨f.set i r,n,By H.i.wf h.len b h.QY s (by rw[← H.i.len];omega) (by rw[← H.i.len];exact v) hw (by omega) e,⟨⟨F,E,G.congr λp=>?_,by rw[m9 a i w b];omega,λj u=>?_⟩,by rw[Ys,Ys,h.len],by rw[Ys];exact h.QY,by rw[m9 a i w b];exact s,λt o=>?_⟩⟩
 ·rw[m];exact Ec b p
 ·rw[Ys]at u;rw[pF f r 0 (by rw[h.len];exact b),pF a _ [] b];by_cases q:i=j
  ·rw[Zr q,Zr q];exact⟨D,by rw[C,m]⟩
  ·rw[Zq q,Zq q];obtain⟨z,y⟩:=g j u;exact⟨by omega,(A _ z).trans y⟩
 ·rcases Wv o with o | rfl
  ·exact h.az t o
  ·intro c d;rcases Zj.mp d with d | d
   ·exact h.az _ (getD_mem' b) c d
   ·exact hw c d
def tbl(S:St):List Row:=((Kg S 1000 [0] 0).map (tab S)).getD []
theorem MK.tab(h:MK a d S)(b:Bool):cB [Io a d S b]=Z (.fr,MT (tbl S)):=by
 obtain⟨nd,f,H,l,_⟩:=h.k;have g:=h.sum;obtain⟨m,e2,_,e3,j⟩:=H.met (k:=1000) (by omega);have e:tbl S=AU.tab S (0 :: m):=by unfold tbl;rw[e2];rfl
 refine eE Y (dR ?_);unfold dI;rw[(fH (m:=.pu) (t:=Io a d S b) Y (HP a d S b))];show ((dv [Ih S L]).bind _)=_;rw[(Er H.i.wf (by rw[← H.i.len];omega) (k:=1000) (by decide) e2 (λx=>by rw[e3,H.i.len]) (by omega)),e];rfl
def CV{l:List Tx}(h:a U=Z (m,.lst (l.map .str)))(b:l.length<=8):eN lN (ae a aj) U=Z (.fr,.lst (l.map .str)):=jc (xv h Y) (by
 show Lm m (l.map T.str)=_;unfold Lm;rw[Zr (by rw[Zu];show l.length<=16777216;omega),vw];rfl)
def MK.book(h:MK a d S)(b:Bool):cV [Io a d S b]=Z (.fr,.lst (a.map .str)) :=
 eE Y (dR (CV (fH Y (Ac a d S b)) h.QY))
def ue{i:Nat}{U:Env}{b:Bool}(h:MK a d S)(f:a.length<8)(e:U[i]?=Z (oc (Io a d S b))):bG i [] 1 [] aV aj U=Z ((.fr,.int (a.length:Int)),U.set i (oc (Io (a++[[]]) (d++[0]) S b))):=by
 unfold bG;rw[e];show ((jI 1 [] aV [] (Io a d S b)).map _)=_;have:jI 1 [] aV [] (Io a d S b)=Z (Io (a++[[]]) (d++[0]) S b,(.fr,.int (a.length:Int))):=by
  show (if 2=1+1/\eP (LP a d S)=B/\argsOk [] []=B/\dZ (trees [])=B then (aV (LP a d S) (trees [])).bind λz=>if eP z.1=B/\Iw z.2=B then Z (T.obj 2 ((0,.bl b) :: z.1),(Md.fr,z.2)) else J else J)=_;rw[Zr ⟨rfl,j9 a d S,rfl,rfl⟩,show trees []=[] from rfl,yh f h.len,Zs,Zr ⟨j9 _ _ _,rfl⟩];rfl
 rw[this];rfl
def ux{i:Nat}(e:aS (LP a d S) [.int (i:Int),.str w]=Z (LP f h g,.non)):jI 1 [L,L] aS [(.fr,.int (i:Int)),(.fr,.str w)] (Io a d S b)=Z (Io f h g b,(.fr,.non)):=by
 show (if 2=1+1/\eP (LP a d S)=B/\argsOk [L,L] [(Md.fr,T.int (i:Int)),(Md.fr,T.str w)]=B/\dZ (trees [(Md.fr,T.int (i:Int)),(Md.fr,T.str w)])=B then (aS (LP a d S) (trees [(Md.fr,T.int (i:Int)),(Md.fr,T.str w)])).bind λz=>if eP z.1=B/\Iw z.2=B then Z (T.obj 2 ((0,.bl b) :: z.1),(Md.fr,z.2)) else J else J)=_;rw[Zr ⟨rfl,j9 a d S,rfl,rfl⟩,show trees [(Md.fr,T.int (i:Int)),(Md.fr,T.str w)]=[T.int (i:Int),T.str w] from rfl,e,Zs,Zr ⟨j9 _ _ _,rfl⟩];rfl
def Aj{α:Type}(l:List α)(x d:α):(l++[x]).getD l.length d=x:=(bw l x d l.length).trans (Zr Y)
def Cc{α:Type}(l:List α)(x y:α):(l++[x]).set l.length y=l++[y]:=by
 rw[List.set_append_right _ _ (Zn _),Vv];rfl
def EM:∀(rest:List Tx){a:List Tx}{hd:Us}{S:St}{B:T}{z:Up},MK a hd S->a.length+rest.length<=8->de a+de rest<=120->(∀t∈rest,∀c∈t,97<=c/\c<=122) →
  ∃e d f,forL (bK 2) bQ (rest.map .str) [oc (Io a hd S true),pc B,z]=Z (.nx [oc (Io (a++rest) e d true),pc B,f])/\MK (a++rest) e d:=by
 intro rest
 induction rest with
 |nil =>
  intro a hd S B z h _ _ _;exact⟨hd,S,z,by rw[ZV];rfl,by rw[ZV];exact h⟩
 |cons t rest o =>
  intro a hd S B z h s r l;rw[Zb]at s;rw[d9]at r;have n:de (a++[[]])=de a:=by rw[nS];rfl
  obtain⟨g,v,m,hg⟩:=(h.begin (by omega)).grow (by rw[Zv];exact Y0 _) (l t Zy) (by rw[n];omega);rw[Aj,Cc,YA]at m hg;obtain⟨e,d,f,q,j⟩:=o hg (by rw[Zv,ZA];omega) (by rw[nS,show de [t]=t.length from by rw[d9];rfl];omega) (λu p=>l u (Zw _ p));refine⟨e,d,f,?_,by rw[Ze]at j;exact j⟩;rw[Zo];refine(cI (U1:=[oc (Io a hd S true),pc B,Q2 t]) Y ?_).trans (q.trans (by rw[Ze];rfl));have x2:pC 0 1 [L,L] aS (bG 0 [] 1 [] aV aj) (ae (aa 2) aj) [oc (Io a hd S true),pc B,Q2 t]=Z ((.fr,.non),[oc (Io (a++[t]) g v true),pc B,Q2 t]):=by
   unfold pC;rw[Zr (show Ee 1 [oc (Io a hd S true),pc B,pc (T.str t)][0]?=true from rfl),(ue (i:=0) (U:=[oc (Io a hd S true),pc B,Q2 t]) (b:=true) h (by omega) Y),Zs,Zr (show Iw (T.int (a.length:Int))=true from rfl)];show ((jI 1 [L,L] aS [(Md.fr,T.int (a.length:Int)),(Md.fr,T.str t)] (Io (a++[[]]) (hd++[0]) S true)).map _)=_;rw[ux m];rfl
  unfold bQ RD;rw[x2];rfl
def Bl{d:List Tx}(h:d.length<=8)(j:de d<=120)(i:∀t∈d,∀c∈t,97<=c/\c<=122){arg:Ex}{U:Env}(g:arg U=Z (m,.lst (d.map .str))):∃hd S,eNew 1 bB (ae arg aj) U=Z (.fr,Io d hd S L)/\MK d hd S:=by
 obtain⟨hd,S,z,q,e⟩:=EM d (B:=.lst (d.map .str)) mk0 (by rw[WO,XH];exact h) (by show 0+de d<=120;omega) i;rw[YA]at q e;refine⟨hd,S,?_,e⟩;have im:bB [] [.lst (d.map .str)]=Z (LP d hd S,.non):=by
  unfold bB Ka;rw[Zr ⟨rfl,rfl⟩];have f:=(c7 (it:=h9 (aa 1)) Y Y).trans q;have body:=(aq (a:=jJ 0 4 (gF aj)) (b:=ak (jJ 0 5 (gF aj)) (ak (jJ 0 6 (eNew 0 cZ aj)) (JB (gS (aa 1)) (iI (bK 2) (h9 (aa 1)) bQ) eX))) (U:=[oc (.obj 2 [(0,.bl true)]),pc (.lst (d.map .str)),J]) Y).trans
   ((aq Y).trans ((aq Y).trans ((oA Y).trans f)))
  exact Z5 (λz:Option Out=>z.bind _) body
 unfold eNew;rw[xv g Y,Zs];rw[Zr (by
  show (dZ (d.map T.str)&&true)=true;rw[d5 _ (λ_=>rfl)];rfl),show trees [(m,T.lst (d.map .str))]=[T.lst (d.map .str)] from rfl,im,Zs,Zr ⟨j9 _ _ _,rfl⟩]
 rfl
noncomputable abbrev Pl:=Nat×Nat
noncomputable def tP(p:Pl):T:=.tup [.int p.1,.int p.2]
abbrev Fd:=List (Tx×List Pl)
def dT(d:Fd):List (T×T):=d.map λp=>(T.str p.1,T.lst (p.2.map tP))
noncomputable def hJ:Fd->Tx->Pl->Fd
 |[],w,p=>[(w,[p])]
 | (x,l) :: d,w,p=>if x=w then (x,l++[p]) :: d else (x,l) :: hJ d w p
def wb(f:T->Option (T×Val))(w:Tx)(L:List (T×T)):Option (List (T×T)):=(L.findIdx? λq=>eqT q.1 (.str w)).bind λi=>(L[i]?).bind λq=>(f q.2).map λz=>L.set i (q.1,z.1)
def wA{a:T×T}{L:List (T×T)}(h:eqT a.1 (.str w)=false):wb f w (a :: L)=(wb f w L).map (a :: ·):=by
 unfold wb;rw[YX,Zq (by rw[h];simp)];cases e:L.findIdx? λq=>eqT q.1 (.str w) with
 |none=>rfl
 |some i =>
  simp only[Y6,Zs,Wi];cases e2:L[i]? with
  |none=>rfl
  |some q =>
   simp only[Zs];cases f q.2 with
   |none=>rfl
   |some z=>rfl
def rV{a:T×T}{L:List (T×T)}(h:eqT a.1 (.str w)=B):wb f w (a :: L)=(f a.2).map λz=>(a.1,z.1) :: L:=by
 unfold wb;rw[YX,Zr h];rfl
def sH{a:T×T}{L:List (T×T)}(h:eqT a.1 k=false):c9 (a :: L) k=a :: c9 L k:=by
 unfold c9 cH;rw[Z3,h];by_cases q:(Option.map (λx=>x.2) (L.find? λp=>eqT p.1 k)).isSome=B
 ·rw[Zr q,Zr q]
 ·rw[Zq q,Zq q];rfl
def uD{a:T×T}{L:List (T×T)}(h:eqT a.1 k=B):c9 (a :: L) k=a :: L:=by
 unfold c9 cH;rw[Z3,h];rfl
def AF(d:Fd)(w:Tx)(p:Pl)(b:∀q∈d,q.2.length<16777216):wb (λx=>aC x [(.fr,tP p)]) w (c9 (dT d) (.str w))=Z (dT (hJ d w p)):=by
 induction d with
 |nil =>
  have:c9 (dT []) (.str w)=[(.str w,.lst [])]:=rfl;rw[this,rV (by simp),bV (by decide)];rfl
 |cons a d f =>
  obtain⟨x,l⟩:=a;by_cases e:x=w
  ·subst e;have h:eqT (T.str x) (.str x)=B:=by simp
   rw[show dT ((x,l) :: d)=(T.str x,T.lst (l.map tP)) :: dT d from rfl,uD h,rV h,bV (by rw[Zu];exact b (x,l) Zy)];simp[hJ,dT]
  ·have h:eqT (T.str x) (.str w)=L:=by simpa using e
   rw[show dT ((x,l) :: d)=(T.str x,T.lst (l.map tP)) :: dT d from rfl,sH h,wA h,f λq g=>b q (Zw _ g)];simp[hJ,dT,e]
def wX{U:Env}(h:U[i]?=Z (oc (.dct 0 (dT d))))(o:f U=Z (m,.str w))(g:∀c,b (U.set i c)=Z (.fr,tP p))(n:∀q∈d,q.2.length<16777216)(r:d.length<16777216) :
  jZ i f (ae b aj) U=Z (.nx (U.set i (oc (.dct 0 (dT (hJ d w p)))))):=by
 unfold jZ;simp only[h];rw[o,Zs,Zr ⟨rfl,by rw[dT,Zu];exact r⟩];have e:ae b aj (U.set i (oc (.dct 0 (c9 (dT d) (.str w)))))=Z [(.fr,tP p)]:=by simp[g]
 rw[e,Zs];have a:=AF d w p n;obtain⟨j,u,a⟩:=Zz.mp a;obtain⟨q,t,a⟩:=Zz.mp a;obtain⟨z,s,a⟩:=Zt.mp a;have l:pm (λx=>aC x [(.fr,tP p)]) [.at (.str w)] (.dct 0 (c9 (dT d) (.str w)))=Z (.dct 0 (dT (hJ d w p)),z.2):=by
  show (if iw (.str w) then _ else J)=_;rw[Zr (show iw (.str w)=B from rfl),u,Zs,t,Zs];show (aC q.2 [(.fr,tP p)]).map _=_;rw[show aC q.2 [(.fr,tP p)]=Z z from s,Y6,a]
 rw[l];rfl
noncomputable def Sz(N:Nat)(d:Fd):Prop:=d.length<=N/\∀q∈d,q.2.length<=N
def yC(d:Fd)(w:Tx)(p:Pl):(hJ d w p).length<=d.length+1:=by
 induction d with
 |nil=>simp[hJ]
 |cons a d b =>
  obtain⟨x,l⟩:=a;unfold hJ;split
  ·simp
  ·exact Xl b
def zq(d:Fd)(w:Tx)(p:Pl)(N:Nat)(h:∀q∈d,q.2.length<=N):∀q∈hJ d w p,q.2.length<=N+1:=by
 induction d with
 |nil=>intro q b;simp[hJ]at b;rw[b];simp
 |cons a d f =>
  obtain⟨x,l⟩:=a;have e:=h (x,l) Zy;unfold hJ;split
  ·intro q b;rcases Zh.mp b with rfl | b
   ·simp only[Zv,ZA];exact Xl e
   ·have:=h q (Zw _ b);exact XG this
  ·intro q b;rcases Zh.mp b with rfl | b
   ·exact XG e
   ·exact(f λq b=>h q (Zw _ b)) q b
def Sz.add(h:Sz N d)(w:Tx)(p:Pl):Sz (N+1) (hJ d w p):=⟨by have:=yC d w p;have:=h.1;lia,zq d w p N h.2⟩
def enum_zip(l:List Tx):∀n:Nat,gP n (l.map T.str)=(l.zipIdx n).map λp=>T.tup [.int p.2,.str p.1]:=by
 induction l with
 |nil=>intro n;rfl
 |cons t l a=>intro n;rw[Vy,Zo,Zo,gP,a (n+1)]
noncomputable def look:Fd->Tx->List Pl
 |[],_=>[]
 | (x,l) :: d,w=>if x=w then l else look d w
noncomputable def SA(w t:Tx):Us:=(List.range (t.length+1)).filter λe=>w.isSuffixOf (t.take e)
def K9(a:List Tx)(w:Tx):List Pl:=(a.zipIdx 0).flatMap λp=>(SA w p.1).map λe=>(p.2,e)
def dF(x:Tx)(l:List Pl)(d:Fd)(w:Tx):look ((x,l) :: d) w=if x=w then l else look d w:=rfl
def zZ(d:Fd)(w:Tx)(p:Pl)(v:Tx):look (hJ d w p) v=if v=w then look d w++[p] else look d v:=by
 induction d with
 |nil =>
  show look [(w,[p])] v=_;rw[dF];by_cases h:v=w
  ·rw[Zr h,Zr h.symm];rfl
  ·rw[Zq h,Zq (YN h)]
 |cons a d e =>
  obtain⟨x,l⟩:=a;unfold hJ;by_cases b:x=w
  ·rw[Zr b,dF,dF,dF];by_cases h:v=w
   ·rw[Zr h,Zr (b.trans h.symm),Zr b]
   ·rw[Zq h,Zq (λz=>h (z.symm.trans b)),Zq (λz=>h (z.symm.trans b))]
  ·rw[Zq b,dF,e,dF,dF,Zq b];by_cases h:v=w
   ·rw[Zr h,Zq (λz=>b (z.trans h)),Zr h]
   ·rw[Zq h,Zq h]
def wq(d:Fd)(w:Tx)(p:Pl)(v:Tx):(∃q∈hJ d w p,q.1=v)↔(∃q∈d,q.1=v)\/v=w:=by
 induction d with
 |nil=>exact⟨λ⟨q,b,e⟩=>.inr (by rw[Zl.mp b]at e;exact e.symm),λh=>h.elim (λ⟨_,h,_⟩=>nomatch h) λh=>⟨(w,[p]),Zl.mpr Y,h.symm⟩⟩
 |cons a d g =>
  obtain⟨x,l⟩:=a;unfold hJ;split
  ·rename_i m;constructor
   ·rintro⟨q,b,e⟩;rcases Zh.mp b with rfl | b
    ·exact .inl ⟨(x,l),Zy,e⟩
    ·exact .inl ⟨q,Zw _ b,e⟩
   ·rintro (⟨q,b,e⟩ | e)
    ·rcases Zh.mp b with rfl | b
     ·exact⟨_,Zy,e⟩
     ·exact⟨q,Zw _ b,e⟩
    ·exact⟨_,Zy,m.trans e.symm⟩
  ·constructor
   ·rintro⟨q,b,e⟩;rcases Zh.mp b with rfl | b
    ·exact .inl ⟨_,Zy,e⟩
    ·exact(g.mp ⟨q,b,e⟩).imp (λ⟨q,b,e⟩=>⟨q,Zw _ b,e⟩) id
   ·rintro (⟨q,b,e⟩ | e)
    ·rcases Zh.mp b with rfl | b
     ·exact⟨_,Zy,e⟩
     ·obtain⟨f,j,i⟩:=g.mpr (.inl ⟨q,b,e⟩);exact⟨f,Zw _ j,i⟩
    ·obtain⟨f,j,i⟩:=g.mpr (.inr e);exact⟨f,Zw _ j,i⟩
structure PI(d:Fd)(N:Nat)(V:Tx->List Pl):Prop where
 sz:Sz N d
 lo:∀w,look d w=V w
 ks:∀w,(∃q∈d,q.1=w)↔w=[]\/V w≠[]
theorem PI.add(h:PI d N V)(w:Tx)(p:Pl):PI (hJ d w p) (N+1) λv=>if v=w then V v++[p] else V v:=by
 refine⟨h.sz.add w p,λv=>?_,λv=>?_⟩
 ·rw[zZ];by_cases e:v=w
  ·subst e;rw[Zr Y,Zr Y,h.lo v]
  ·rw[Zq e,Zq e,h.lo v]
 ·rw[wq,h.ks v];by_cases e:v=w
  ·rw[Zr e];exact⟨λ_=>.inr λz=>by simp at z,λ_=>.inr e⟩
  ·rw[Zq e];exact⟨λz=>z.resolve_right e,.inl⟩
def PI.to(h:PI d N V)(a:N<=M)(e:∀w,V w=b w):PI d M b:=⟨⟨ZU h.sz.1 a,λq f=>ZU (h.sz.2 q f) a⟩,λw=>(h.lo w).trans (e w),λw=>by rw[h.ks w,e w]⟩
abbrev EP(g:T)(d:Fd)(f e b a:Up):Env:=[pc g,oc (.dct 0 (dT d)),f,e,b,a]
def BD(t:Tx)(i L:Nat)(h:i<=t.length):cut t (Z (i:Int)) (Z ((i:Int)+(L:Int)))=(t.drop i).take L:=by
 have b:¬((i:Int)<0):=by lia
 have a:¬((i:Int)+(L:Int)<0):=by lia
 simp only[cut,clip,Zq b,Zq a,Xq,Yd h];rw[show ((i:Int)+(L:Int)).toNat=i+L by lia];by_cases g:i+L<=t.length
 ·rw[Yd g,show i+L-i=L by exact Y1 _ _]
 ·rw[W9 (by exact WZ g),Yq (by rw[Z4];exact Zn _),Yq (by rw[Z4];lia)]
def pa1(f:T)(n:Nat)(t:Tx)(e:Nat)(he:e<=t.length)(a:Us):∀(d:Fd)(N:Nat)(V:Tx->List Pl)(z:Up),PI d N V->(∀s∈a,s<=e)->N+a.length<16000000 →
  ∃b g,forL (bK 5) fI (a.map λ(s:Nat)=>T.int (s:Int)) (EP f d (Q0 n) (Q2 t) (Q0 e) z)=Z (.nx (EP f b (Q0 n) (Q2 t) (Q0 e) g))/\PI b (N+a.length) λw=>V w++(a.filter λs=>decide ((t.take e).drop s=w)).map λ_=>(n,e):=by
 induction a with
 |nil=>exact λd N V z h _ _=>⟨d,z,rfl,h.to (Zn _) λw=>(ZV _).symm⟩
 |cons s a l =>
  intro d N V z h j hN;rw[Zb]at hN;have v:=j s Zy;have u:cut t (Z (s:Int)) (Z (e:Int))=(t.take e).drop s:=by
   have:=BD t s (e-s) (by lia);rw[List.drop_take]
   rwa [show ((s:Int)+((e-s:Nat):Int))=(e:Int) by lia]at this
  obtain⟨b,g,r,m⟩:=l _ (N+1) _ (Q0 s) (h.add ((t.take e).drop s) (n,e)) (λi p=>j i (Zw _ p)) (by lia);refine⟨b,g,?_,m.to (by rw[Zb];lia) λw=>?_⟩
  ·have bo:fI (EP f d (Q0 n) (Q2 t) (Q0 e) (Q0 s))=Z (.nx (EP f (hJ d ((t.take e).drop s) (n,e)) (Q0 n) (Q2 t) (Q0 e) (Q0 s))) :=
    wX Y (by rw[← u];rfl) (λc=>rfl) (λq o=>by have:=h.sz.2 q o;lia) (by have:=h.sz.1;lia)
   rw[Zo,cI Y bo,r]
  ·rw[Vx];by_cases hw:w=(t.take e).drop s
   ·rw[Zr hw,Zr (decide_eq_true hw.symm),Zo,Ze];rfl
   ·rw[Zq hw,Zq (by rw[decide_eq_true_iff];exact YN hw)]
def D1{l:Us}(a:l.Nodup)(b:x∈l)(h:∀y∈l,y=x):l=[x]:=by
 cases l with
 |nil=>exact nomatch b
 |cons y l =>
  rw[h y Zy]at a ⊢;cases l with
  |nil=>rfl
  |cons z l=>exact absurd (by rw[h z (Zw _ Zy)];exact Zy) (Zc.mp a).1
def CD(u w:Tx)(p:Pl):((List.range (u.length+1)).filter λs=>decide (u.drop s=w)).map (λ_=>p)=if w.isSuffixOf u=B then [p] else []:=by
 by_cases h:w.isSuffixOf u=B
 ·obtain⟨a,rfl⟩:=Y4.mp h;rw[Zr h,D1 (List.Nodup.sublist List.filter_sublist Ux) (Xd.mpr ⟨Ym.mpr (by rw[Zv];lia),decide_eq_true List.drop_left⟩) λy b=>?_]
  ·rfl
  ·obtain⟨e,d⟩:=Xd.mp b;have:=Z5 List.length (of_decide_eq_true d);have:=Ym.mp e;rw[Z4,Zv]at *;lia
 ·rw[Zq h,List.map_eq_nil_iff,List.filter_eq_nil_iff];exact λs _ z=>h (Y4.mpr (of_decide_eq_true z ▸ Vw _ _))
def pa2(l:T)(n:Nat)(t:Tx)(E:t.length<=120)(a:Us):∀(d:Fd)(N:Nat)(V:Tx->List Pl)(f b:Up),PI d N V->(∀e∈a,e<=t.length)->N+121*a.length<16000000 →
  ∃j C D,forL (bK 4) jq (a.map λ(e:Nat)=>T.int (e:Int)) (EP l d (Q0 n) (Q2 t) f b)=Z (.nx (EP l j (Q0 n) (Q2 t) C D))/\PI j (N+121*a.length) λw=>V w++(a.filter λe=>w.isSuffixOf (t.take e)).map λe=>(n,e):=by
 induction a with
 |nil=>exact λd N V f b h _ _=>⟨d,f,b,rfl,h.to (Zn _) λw=>(ZV _).symm⟩
 |cons e a v =>
  intro d N V f b h g hN;rw[Zb]at hN;have o:=g e Zy;obtain⟨A,q,e1,p⟩:=pa1 l n t e o (List.range (e+1)) d N V b h (λs g=>YF (Ym.mp g)) (by rw[Yx];lia);rw[Yx]at p;obtain⟨j,u,r,z,x⟩:=v A (N+121) _ (Q0 e) q (p.to (by lia) λ_=>rfl) (λi y=>g i (Zw _ y)) (by lia);refine⟨j,u,r,?_,x.to (by rw[Zb];lia) λw=>?_⟩
  ·rw[Zo,cI Y (by
    refine(c7 (m:=.fr) ?_ Y).trans e1;rw[hZ Y (by lia),kj];rfl),z]
  ·have:=CD (t.take e) w (n,e);rw[Yp,Yd o]at this;rw[this,Vx];split
   ·rw[Ze];rfl
   ·rw[ZV]
def pa4(o:T)(l:List Tx):∀(n:Nat)(d:Fd)(N:Nat)(V:Tx->List Pl)(g f b a:Up),(∀t∈l,t.length<=120)->PI d N V->N+20000*l.length<16000000 →
  ∃i j O H M,forL (sM [bK 2,bK 3]) i7 ((l.zipIdx n).map λp=>T.tup [.int p.2,.str p.1]) (EP o d g f b a)=Z (.nx (EP o i j O H M))/\PI i (N+20000*l.length) λw=>V w++(l.zipIdx n).flatMap λp=>(SA w p.1).map λe=>(p.2,e):=by
 induction l with
 |nil=>exact λn d N V g f b a _ h _=>⟨d,g,f,b,a,rfl,h.to (Zn _) λw=>(ZV _).symm⟩
 |cons t l C =>
  intro n d N V g f b a q h hN;rw[Zb]at hN;have A:=q t Zy;obtain⟨G,v,u,e1,r⟩:=pa2 o n t A (List.range (t.length+1)) d N V b a h (λe he=>YF (Ym.mp he)) (by rw[Yx];lia);rw[Yx]at r;obtain⟨i,x2,z,y,x,F,D⟩:=C (n+1) G (N+20000) _ (Q0 n) (Q2 t) v u (λs E=>q s (Zw _ E)) (r.to (by lia) λ_=>rfl) (by lia);refine⟨i,x2,z,y,x,?_,D.to (by rw[Zb];lia) λw=>?_⟩
  ·rw[Vy,Zo];refine(cI Y ((c7 (m:=.fr) ?_ Y).trans e1)).trans F;rw[hZ Y (by lia),kj];rfl
  ·rw[Vy,List.flatMap_cons,Ze];rfl
noncomputable def Pt(a:List Tx)(w:Tx):Prop:=w=[]\/∃t∈a,w <:+: t
def mO:p∈K9 d w ↔ ∃t,d[p.1]?=Z t/\p.2<=t.length/\w <:+ t.take p.2:=by
 unfold K9;rw[List.mem_flatMap];constructor
 ·rintro⟨⟨t,n⟩,f,h⟩;obtain⟨e,he,rfl⟩:=Yv.mp h;obtain⟨b,a⟩:=Xd.mp he;have:=Ym.mp b;exact⟨t,by simpa using List.mem_zipIdx_iff_getElem?.mp f,YF this,Y4.mp a⟩
 ·rintro⟨t,b,a,g⟩;exact⟨(t,p.1),List.mem_zipIdx_iff_getElem?.mpr b,Yv.mpr ⟨p.2,Xd.mpr ⟨Ym.mpr (Nat.lt_succ_of_le a),Y4.mpr g⟩,rfl⟩⟩
def xr(hw:w≠[]):K9 d w≠[]↔Pt d w:=by
 rw[show K9 d w≠[] ↔ ∃p,p∈K9 d w from⟨λh=>List.exists_mem_of_ne_nil _ h,λ⟨p,h⟩ e=>by rw[e]at h;cases h⟩];constructor
 ·rintro⟨p,g⟩;obtain⟨t,m,_,l⟩:=mO.mp g;exact .inr ⟨t,Yb m,l.isInfix.trans (List.take_prefix _ _).isInfix⟩
 ·rintro (h | ⟨t,f,a,b,e⟩)
  ·exact absurd h hw
  ·obtain⟨i,j⟩:=Vi.mp f;refine⟨(i,(a++w).length),mO.mpr ⟨t,j,by rw[← e,Zv (as:=a++w)];exact Zd _ _,?_⟩⟩;rw[← e,List.take_left];exact List.suffix_append a w
def vz(l:List Pl):fU (l.map tP)=B:=mY tP (λ_=>rfl) l
def Aq(b:List Tx)(n:b.length<=8)(g:∀t∈b,t.length<=120):∃d:Fd,gv [.lst (b.map .str)]=Z (.fr,.dct 0 (dT d))/\(∀w,look d w=K9 b w)/\(∀w,(∃q∈d,q.1=w)↔Pt b w)/\Sz 1000000 d:=by
 obtain⟨d,l,j,i,h,e,p⟩:=pa4 (.lst (b.map .str)) b 0 [([],[])] 1 (λ_=>[]) J J J J g ⟨⟨Zn _,λq f=>by rw[Zl.mp f];exact ZE _⟩,λw=>by rw[dF];split<;>rfl,λw=>⟨λ⟨q,f,e⟩=>.inl (by rw[Zl.mp f]at e;exact e.symm),λa=>a.elim (λa=>⟨_,Zl.mpr Y,a.symm⟩) λa=>absurd Y a⟩⟩ (by lia);have ev:∀w,(([])++(b.zipIdx 0).flatMap λp=>(SA w p.1).map λe=>(p.2,e))=K9 b w:=λw=>YA _;refine⟨d,?_,λw=>(p.lo w).trans (ev w),λw=>(p.ks w).trans ?_,(p.to (by lia) λ_=>rfl).sz⟩
 ·refine eE Y ((aq Y).trans ((aq ((c7 (m:=.pu) ?_ Y).trans e)).trans Y));rw[← enum_zip];rfl
 ·rw[ev w];by_cases hw:w=[]
  ·exact⟨λ_=>.inl hw,λ_=>.inl hw⟩
  ·exact⟨λz=>(xr hw).mp (z.resolve_left hw),λz=>.inr ((xr hw).mpr z)⟩
end T06
end
section
namespace T06
open VS L2 AU
abbrev Gk:=List Pl×Bool
abbrev Gr:=List (Gk×List Tx)
noncomputable def qm(l:List Pl):iG:=l.map λq=>[.inl (q.1:Int),.inl (q.2:Int)]
theorem sj:∀{x y:List Pl},qm x=qm y->x=y
 |[],[],_=>rfl
 |[],_ :: _,h=>by simp[qm]at h
 |_ :: _,[],h=>by simp[qm]at h
 | (a,b) :: x,(c,d) :: y,h=>by
  simp only[qm,Zo,Wr,Sum.inl.injEq,Int.natCast_inj,and_true]at h;obtain⟨⟨rfl,rfl⟩,h⟩:=h;rw[sj h]
def LA(k:Gk):br:=(qm k.1,k.2)
abbrev kT(k:Gk):T:=.tup [.tup (k.1.map tP),.bl k.2]
def Ap(h:LA x=LA y):x=y:=VE (sj (Z5 (λq:br=>q.1) h)) (Z5 (λq:br=>q.2) h)
def Gc(k:Gk):IK (LA k)=kT k:=by
 show T.tup [T.tup ((qm k.1).map λx=>T.tup (x.map aE)),.bl k.2]=T.tup [T.tup (k.1.map tP),.bl k.2];rw[qm,Z7];rfl
def Bq(k:Gk):B5 (kT k)=Z (LA k):=by
 have:rN (T.tup (k.1.map tP))=Z (qm k.1):=by
  show (k.1.map tP).mapM RP=_
  induction k.1 with
  |nil=>rfl
  |cons a l b =>
   rw[Zo,List.mapM_cons,b];rfl
 show (rN (T.tup (k.1.map tP))).map _=_;rw[this];rfl
def Lp(g:Gr):List (T×T):=g.map λp=>(IK (LA p.1),T.lst (p.2.map T.str))
noncomputable def iM:Gr->Gk->Tx->Gr
 |[],k,w=>[(k,[w])]
 | (x,l) :: g,k,w=>if x=k then (x,l++[w]) :: g else (x,l) :: iM g k w
def v7{a:T×T}{L:List (T×T)}(h:eqT a.1 k=false):qS f (a :: L) k=(qS f L k).map (a :: ·):=by
 unfold qS;rw[YX,Zq (by rw[h];simp)];cases e:L.findIdx? λq=>eqT q.1 k with
 |none=>rfl
 |some i =>
  simp only[Y6,Zs,Wi];cases e2:L[i]? with
  |none=>rfl
  |some q =>
   simp only[Zs];cases f q.2 with
   |none=>rfl
   |some z=>rfl
def sG{a:T×T}{L:List (T×T)}(h:eqT a.1 k=B):qS f (a :: L) k=(f a.2).map λz=>(a.1,z.1) :: L:=by
 unfold qS;rw[YX,Zr h];rfl
def qM{a:T×T}{L:List (T×T)}(h:eqT a.1 k=false):cw (a :: L) k=a :: cw L k:=by
 have q:(a :: L).findIdx? (λq=>eqT q.1 k)=(L.findIdx? λq=>eqT q.1 k).map (·+1):=by
  rw[YX,Zq (by rw[h];exact Zf)]
 unfold cw;rw[q];cases e:L.findIdx? λq=>eqT q.1 k with
 |none=>rfl
 |some i=>rfl
def sP{a:T×T}{L:List (T×T)}(h:eqT a.1 k=B):cw (a :: L) k=a :: L:=by
 unfold cw;rw[YX,Zr h];rfl
def Br(g:Gr)(k:Gk)(w:Tx)(b:∀q∈g,q.2.length<16777216):qS (λx=>aC x [(.fr,.str w)]) (cw (Lp g) (IK (LA k))) (IK (LA k))=Z (Lp (iM g k w)):=by
 induction g with
 |nil =>
  have:cw (Lp []) (IK (LA k))=[(IK (LA k),.lst [])]:=rfl;rw[this,sG (by rw[m8];simp),bV (by decide)];rfl
 |cons a g d =>
  obtain⟨x,l⟩:=a;by_cases e:x=k
  ·subst e;have h:eqT (IK (LA x)) (IK (LA x))=B:=by rw[m8];simp
   rw[show Lp ((x,l) :: g)=(IK (LA x),T.lst (l.map T.str)) :: Lp g from rfl,sP h,sG h,bV (by rw[Zu];exact b (x,l) Zy)];simp[iM,Lp]
  ·have h:eqT (IK (LA x)) (IK (LA k))=L:=by rw[m8];exact ZK λz=>e (Ap z)
   rw[show Lp ((x,l) :: g)=(IK (LA x),T.lst (l.map T.str)) :: Lp g from rfl,qM h,v7 h,d λq f=>b q (Zw _ f)];simp[iM,Lp,e]
def tF{U:Env}{m:Md}(h:U[i]?=Z (Z (.ow (.dct 2 (Lp g)))))(f:b U=Z (m,kT k))(d:∀c,a (U.set i c)=Z (.fr,.str w))(e:∀q∈g,q.2.length<16777216)(j:g.length<16777216) :
  i4 i b (ae a aj) U=Z (.nx (U.set i (Z (.ow (.dct 2 (Lp (iM g k w))))))):=by
 unfold i4;simp only[h];rw[f,Zs,Zr ⟨by rw[Bq];rfl,by rw[Lp,Zu];exact j⟩];rw[(xv (d _) Y),Zs,← Gc,Br g k w e];rfl
def QV(f:Tx->Gk)(a:List Tx)(g:Gr):Gr:=a.foldl (λg w=>iM g (f w) w) g
def Ax(g:Gr)(k:Gk)(w:Tx)(N:Nat)(h:g.length<=N/\∀q∈g,q.2.length<=N):(iM g k w).length<=N+1/\∀q∈iM g k w,q.2.length<=N+1:=by
 induction g generalizing N with
 |nil=>simp[iM]
 |cons a g e =>
  obtain⟨x,l⟩:=a;have f:=h.2 (x,l) Zy;have d:=h.1;unfold iM;split
  ·refine⟨by exact XG d,λq b=>?_⟩;rcases Zh.mp b with rfl | b
   ·simp only[Zv,ZA];exact Xl f
   ·have:=h.2 q (Zw _ b);exact XG this
  ·have hN:∀(g:Gr),(iM g k w).length<=g.length+1:=by
    intro g
    induction g with
    |nil=>simp[iM]
    |cons a g e=>obtain⟨x,l⟩:=a;unfold iM;split<;>simp only[Zb]<;>lia
   refine⟨by have:=hN g;simp only[Zb]at d ⊢;lia,λq b=>?_⟩;rcases Zh.mp b with rfl | b
   ·exact XG f
   ·exact(e N ⟨by exact Nat.le_of_succ_le d,λq b=>h.2 q (Zw _ b)⟩).2 q b
def xN(d:Fd)(w:Tx)(h:∃q∈d,q.1=w):cH (dT d) (.str w)=Z (.lst ((look d w).map tP)):=by
 induction d with
 |nil=>obtain⟨q,m,_⟩:=h;exact nomatch m
 |cons a d b =>
  obtain⟨x,l⟩:=a;rw[show dT ((x,l) :: d)=(T.str x,T.lst (l.map tP)) :: dT d from rfl];unfold cH;by_cases e:x=w
  ·rw[Z3,show eqT (T.str x) (T.str w)=B by simp[e]];simp[look,e]
  ·rw[Z3,show eqT (T.str x) (T.str w)=L by simpa using e];rw[show look ((x,l) :: d) w=look d w by simp[look,e]];exact b (by
    obtain⟨q,m,z⟩:=h;rcases Zh.mp m with rfl | m
    ·exact absurd z e
    ·exact⟨q,m,z⟩)
def yH(d:Fd)(w:Tx)(N:Nat)(h:∀q∈d,q.2.length<=N):(look d w).length<=N:=by
 induction d with
 |nil=>simp[look]
 |cons a d b =>
  obtain⟨x,l⟩:=a;unfold look;split
  ·exact h _ Zy
  ·exact b λq e=>h q (Zw _ e)
def rh(F:Gk->List Tx)(k:Gk)(w:Tx)(b:List Gk)(g:b.Nodup):iM (b.map λx=>(x,F x)) k w=if k∈b then b.map λx=>(x,if x=k then F x++[w] else F x) else (b.map λx=>(x,F x))++[(k,[w])]:=by
 induction b with
 |nil=>rfl
 |cons a b d =>
  obtain⟨i,h⟩:=Zc.mp g;rw[Zo,iM,d h];by_cases e:a=k
  ·subst e;rw[Zr Y,Zr Zy,Zo,Zr Y];refine Z5 _ (YU λx f=>?_);rw[Zq λz:x=a=>i (z ▸ f)]
  ·rw[Zq e];by_cases m:k∈b
   ·rw[Zr m,Zr (Zw _ m),Zo,Zq e]
   ·rw[Zq m,Zq λz=>(Zh.mp z).elim (λq=>e q.symm) m];rfl
def AE{f:Tx->Gk}{L:List Tx}{n:Nat}{u:Nat->Tx}(E:∀k,k<n->u k∈L)(Q:∀w∈L,∃k,k<n/\f w=f (u k)/\¬lL w (u k))(O:∀j k,j<k->k<n->lL (u j) (u k))(t:∀j k,j<n->k<n->f (u j)=f (u k)->j=k)(D:L.Pairwise λa b=>¬lL b a) :
  ∀(S P:List Tx)(m:Nat),L=P++S->m<=n->(∀k,k<n->(k<m ↔ ∃w∈P,f w=f (u k)))->QV f S (((List.range m).map λk=>f (u k)).map λx=>(x,P.filter λw=>decide (f w=x)))=((List.range n).map λk=>f (u k)).map λx=>(x,L.filter λw=>decide (f w=x)):=by
 intro S
 induction S with
 |nil =>
  intro P m i p s;rw[ZV]at i;have:=YJ p (ZJ λz=>YK m ((s m z).mpr ⟨u m,i ▸ E m z,rfl⟩));rw[this,i];rfl
 |cons w S H =>
  intro P m i p s;obtain⟨k,o,l,G⟩:=Q w (i ▸ ZQ _ Zy);have nd:((List.range m).map λk=>f (u k)).Nodup:=X2.mpr (List.Pairwise.imp_of_mem (λN hb LL e=>LL (t _ _ (Zi (Ym.mp N) p) (Zi (Ym.mp hb) p) e)) Ux);have mem:f w∈(List.range m).map (λk=>f (u k))↔k<m:=by
   rw[Yv];constructor
   ·rintro⟨j,d,e⟩;have d:=Ym.mp d;rw[← t j k (Zi d p) o (e.trans l)];exact d
   ·exact λz=>⟨k,Ym.mpr z,l.symm⟩
  have A:∀x,(P++[w]).filter (λw=>decide (f w=x))=if x=f w then P.filter (λw=>decide (f w=x))++[w] else P.filter λw=>decide (f w=x):=λx=>by
   rw[List.filter_append];by_cases e:x=f w
   ·rw[Zr e,Vx,Zr (decide_eq_true e.symm)];rfl
   ·rw[Zq e,Vx,Zq (by rw[decide_eq_true_iff];exact YN e),List.filter_nil,ZV]
  have step:∀r,r<=n->(∀j,j<n->(j<r↔j<m\/j=k))->iM (((List.range m).map λk=>f (u k)).map λx=>(x,P.filter λw=>decide (f w=x))) (f w) w=(((List.range r).map λk=>f (u k)).map λx=>(x,(P++[w]).filter λw=>decide (f w=x)))->QV f (w :: S) (((List.range m).map λk=>f (u k)).map λx=>(x,P.filter λw=>decide (f w=x)))=((List.range n).map λk=>f (u k)).map λx=>(x,L.filter λw=>decide (f w=x)):=λr X R U=>by
   show QV f S (iM _ (f w) w)=_;rw[U];refine H (P++[w]) r (by rw[i,Ze];rfl) X λj d=>?_;rw[R j d,s j d];constructor
   ·rintro (⟨x,g,e⟩ | rfl)
    ·exact⟨x,Z8 _ g,e⟩
    ·exact⟨w,ZQ _ Zy,l⟩
   ·rintro⟨x,g,e⟩;rcases Zj.mp g with g | g
    ·exact .inl ⟨x,g,e⟩
    ·rw[Zl.mp g]at e;exact .inr (t j k d o (e.symm.trans l))
  by_cases z:k<m
  ·refine step m p (λj d=>⟨.inl,λq=>q.elim id λe=>e ▸ z⟩) ?_;rw[rh _ _ _ _ nd,Zr (mem.mpr z)];exact YU λx _=>by rw[A x]
  ·have F:k=m:=by
    refine YJ (ZJ λy=>?_) (ZJ z);have C:=VB y o;have h:=E m C;rw[i]at h D;rcases Zj.mp h with h | h
    ·exact YK m ((s m C).mpr ⟨u m,h,rfl⟩)
    ·have le:¬lL (u m) w:=by
      rcases Zh.mp h with e | h
      ·rw[e];exact pd _
      ·exact(YL.mp (ZG.mp D).2.1).1 _ h
     have:=O m k y o;rcases nL w (u k) with q | q | q
     ·exact G q
     ·exact le (q ▸ this)
     ·exact le (og this q)
   subst F;refine step (k+1) o (λj d=>by lia) ?_;rw[rh _ _ _ _ nd,Zq λq=>z (mem.mp q),List.range_succ,Yz,Yz,VI,VI,← l];congr 1
   ·refine YU λx g=>?_;rw[A x,Zq λq:x=f w=>z (mem.mp (q ▸ g))]
   ·rw[A,Zr Y,(List.filter_eq_nil_iff.mpr λv M q=>z ((s k o).mpr ⟨v,M,(of_decide_eq_true q).trans l⟩))];rfl
end T06
end
section
namespace AU
noncomputable def OA(S:St)(t:Nat):Nat:=match S.lk.getD t J with
 |none=>0
 |some m=>S.lg.getD m 0+1
def sw(S:St)(a:List Wd)(t:Nat):Wd:=(W a t).drop ((W a t).length-OA S t)
noncomputable def Nl(a b:Wd):Prop:=a.length<b.length\/a.length=b.length/\a<b
section
variable{P:Wd->Prop}{S:St}{nd:Wd->Option Nat}{wd:List Wd}(H:I none S nd wd)
include H
theorem I.sh(a:t<wd.length):OA S t<=(W wd t).length/\∀y,nd y=Z t↔y <:+ W wd t/\OA S t<=y.length:=by
 unfold OA;by_cases h:t=0
 ·subst h;rw[H.Ob,H.wz];exact⟨ZE _,λy=>⟨λz=>⟨by rw[H.zero z];exact Yh _,ZE _⟩,λz=>by rw[Xp.mp z.1];exact H.z⟩⟩
 ·obtain⟨m,e,⟨f,_⟩,g,d,b⟩:=H.lk (YZ h) a (by simp);rw[e];show S.lg.getD m 0+1<=_/\∀y,_↔_/\S.lg.getD m 0+1<=_;rw[H.lg m f];exact⟨d,λy=>⟨λz=>⟨H.sf z,(H.low (by simp) e z).1⟩,λz=>b y z.1 z.2⟩⟩
theorem I.Kr(a:t<wd.length):(sw S wd t).length=OA S t:=by
 have:=(H.sh a).1;unfold sw;rw[Z4];lia
theorem I.IF(a:t<wd.length):nd (sw S wd t)=Z t:=((H.sh a).2 _).mpr ⟨Vw _ _,by rw[H.Kr a];exact Zn _⟩
theorem I.K6(h:nd y=Z t):(sw S wd t).length<=y.length:=by
 have a:=H.lt h;rw[H.Kr a];exact(((H.sh a).2 y).mp h).2
theorem I.sw_eq(h:nd y=Z t)(a:y.length=(sw S wd t).length):y=sw S wd t :=
 (b7 (H.sf h) (H.sf (H.IF (H.lt h))) (by exact Y9 a)).eq_of_length a
theorem I.N1(f:t<wd.length)(g:t≠0):∃q c,q<wd.length/\sw S wd t=sw S wd q++[c]:=by
 have b:=H.IF f;obtain⟨x,c,d⟩:∃x c,sw S wd t=x++[c]:=⟨_,_,(List.dropLast_concat_getLast (λz=>by rw[z,H.z]at b;exact g (Zg b).symm)).symm⟩
 rw[d]at b;obtain⟨q,a⟩:=H.pre b;refine⟨q,c,H.lt a,?_⟩;have e:=H.K6 (by rw[← H.wy (H.IF (H.lt a)) c,H.wy a c];exact b);rw[d,Zv,Zv]at e;rw[d,← H.sw_eq a (by simp at e;exact YJ e (H.K6 a))]
end
def xU(h:Nl a b)(c d:Nat):Nl (a++[c]) (b++[d]):=by
 rcases h with h | ⟨h,g⟩
 ·exact .inl (by rw[Zv,Zv];exact Nat.add_lt_add_right h 1)
 ·refine .inr ⟨by rw[Zv,Zv,h];rfl,?_⟩;have:∀(a b:Wd),a.length=b.length->a<b->a++[c]<b++[d]:=by
   intro a
   induction a with
   |nil=>intro b hb e;cases b with
    |nil=>exact absurd e (Xh _)
    |cons=>cases hb
   |cons x a f =>
    intro b hb e;cases b with
    |nil=>cases hb
    |cons y b =>
     rw[XQ,XQ];rcases YQ.mp e with z | ⟨rfl,z⟩
     ·exact YQ.mpr (.inl z)
     ·exact YQ.mpr (.inr ⟨rfl,f b (VC hb) z⟩)
  exact this a b h g
def ya(h:c<d):Nl (a++[c]) (a++[d]):=by
 refine .inr ⟨by rw[Zv,Zv];rfl,?_⟩
 induction a with
 |nil=>exact YQ.mpr (.inl h)
 |cons x a b=>exact YQ.mpr (.inr ⟨rfl,b⟩)
def Nl.le(h:Nl a b):a.length<=b.length:=h.elim ZO λh=>Y9 h.1
structure Ord(S:St)(wd:List Wd)(met:Us)(d:Nat):Prop where
 pw:met.Pairwise λs t=>Nl (sw S wd s) (sw S wd t)
 mem:∀x∈met,x<wd.length
 z:0∈met
 dn:∀q∈met.take d,∀c t,gW (S.wy.getD q []) c=some t->t∈met
 par:∀x∈met,x=0\/∃q c,q∈met.take d/\sw S wd x=sw S wd q++[c]
section
variable{S:St}{nd:Wd->Option Nat}{wd:List Wd}(H:I none S nd wd)
include H
theorem I.U8:sw S wd 0=[]:=by
 unfold sw;rw[H.wz];exact List.drop_nil
theorem Ord.out(g:Ord S wd a d)(o:d<a.length)(m:a[d]=p):∀(n z:Nat),(sw S wd z).length<=n->z<wd.length->z∉a->(sw S wd p).length<(sw S wd z).length:=by
 have cut:=YR d a;rw[YG o,m]at cut;intro n
 induction n with
 |zero =>
  intro z i b f;obtain⟨q,c,_,e⟩:=H.N1 b λh=>f (h ▸ g.z);rw[e,Zv]at i;exact absurd i (Nat.not_succ_le_zero _)
 |succ n l =>
  intro z i b f;obtain⟨q,c,j,e⟩:=H.N1 b λh=>f (h ▸ g.z);have r:(sw S wd z).length=(sw S wd q).length+1:=by rw[e,Zv];rfl
  by_cases h:q∈a
  ·rw[← cut]at h;rcases Zj.mp h with h | h
   ·exact absurd (g.dn q h c z (by rw[H.wy (H.IF j) c,← e];exact H.IF b)) f
   ·have pw:=g.pw;rw[← cut]at pw;rcases Zh.mp h with rfl | h
    ·lia
    ·have:=(YL.mp (ZG.mp pw).2.1).1 q h;have:=this.le;lia
  ·have:=l q (by lia) j h;lia
theorem Ord.visit(n:Ord S wd a d)(C:d<a.length)(v:a[d]=p):∀(r new:Us),r.Pairwise (· < ·)->(∀c∈r,∃t,gW (S.wy.getD p []) c=Z t)->(a++new).Pairwise (λs t=>Nl (sw S wd s) (sw S wd t))->(∀x∈new,x<wd.length/\∃c,sw S wd x=sw S wd p++[c]/\∀f∈r,c<f) →
  ∃o,AU.visit (S.wy.getD p []) r (a++new)=a++o/\(a++o).Pairwise (λs t=>Nl (sw S wd s) (sw S wd t))/\∀x∈o,x<wd.length/\∃c,sw S wd x=sw S wd p++[c]:=by
 have u:=n.mem p (by rw[← v];exact Yo C);have cut:=YR d a;rw[YG C,v]at cut;intro r
 induction r with
 |nil=>exact λnew _ _ m i=>⟨new,rfl,m,λx b=>⟨(i x b).1,(i x b).2.imp λc h=>h.1⟩⟩
 |cons c r D =>
  intro new O hg m i;obtain⟨t,E⟩:=hg c Zy;obtain⟨Q,l⟩:=YL.mp O;have G:∀x∈new,x<wd.length/\∃c,sw S wd x=sw S wd p++[c]/\∀f∈r,c<f:=λx b=>⟨(i x b).1,(i x b).2.imp λc h=>⟨h.1,λf g=>h.2 f (Zw _ g)⟩⟩
  show ∃o,AU.visit (S.wy.getD p []) r (if (gW (S.wy.getD p []) c).getD 0∈a++new then a++new else a++new++[(gW (S.wy.getD p []) c).getD 0])=_/\_;rw[E,Xm];by_cases A:t∈a++new
  ·rw[Zr A];exact D new l (λf g=>hg f (Zw _ g)) m G
  ·rw[Zq A];have w:nd (sw S wd p++[c])=Z t:=by rw[← H.wy (H.IF u) c];exact E
   have F:=H.lt w;have R:=n.out H C v _ t (Zn _) F λz=>A (Z8 _ z);have hle:=H.K6 w;rw[Zv,ZA]at hle;have M:=(H.sw_eq w (by rw[Zv,ZA];lia)).symm;have:=D (new++[t]) l (λf g=>hg f (Zw _ g)) (by
    rw[← Ze];refine ZG.mpr ⟨m,Xs _ _,λz j y N=>?_⟩;rw[Zl.mp N,M];rcases Zj.mp j with j | j
    ·rcases n.par z j with rfl | ⟨q,f,P,e⟩
     ·rw[H.U8];exact .inl (by rw[Zv];exact Nat.succ_pos _)
     ·rw[e];have pw:=n.pw;rw[← cut]at pw;exact xU ((ZG.mp pw).2.2 q P p Zy) _ _
    ·obtain⟨_,f,e,g⟩:=i z j;rw[e];exact ya (g c Zy)) (λx b=>by
    rcases Zj.mp b with b | b
    ·exact G x b
    ·rw[Zl.mp b];exact⟨F,c,M,Q⟩)
   rw[← Ze]at this;exact this
theorem Ord.Kg:∀(k:Nat)(met:Us)(d:Nat)(M:Us),Ord S wd met d->AU.Kg S k met d=Z M->M.Pairwise λs t=>Nl (sw S wd s) (sw S wd t):=by
 intro k
 induction k with
 |zero =>
  intro met d M b e;unfold AU.Kg at e;split at e
  ·cases e
  ·cases e;exact b.pw
 |succ k n =>
  intro met d M b e;unfold AU.Kg at e;split at e
  ·rename_i hd;have hg:met.getD d 0=met[d]:=by rw[Zp,Zk hd];rfl
   rw[hg]at e;obtain⟨new,e1,v,l⟩:=b.visit H hd Y (sk (S.wy.getD met[d] [])) [] (Vb _ List.pairwise_lt_range') (λc r=>lM r) (by rw[ZV];exact b.pw) (λx h=>nomatch h);rw[ZV]at e1;have m:=lG (w:=S.wy.getD met[d] []) (sk (S.wy.getD met[d] [])) met;rw[e1]at e m;have j:(met++new).take (d+1)=met.take d++[met[d]]:=by
    rw[XI (by exact VD hd),List.take_succ,Zk hd];rfl
   refine n (met++new) (d+1) M ⟨v,λx a=>?_,Z8 _ b.z,λq f c t g=>?_,λx a=>?_⟩ e
   ·rcases Zj.mp a with a | a
    ·exact b.mem x a
    ·exact(l x a).1
   ·rw[j]at f;rcases Zj.mp f with f | f
    ·exact Z8 _ (b.dn q f c t g)
    ·rw[Zl.mp f]at g;have:=m c (by
      by_cases i:met[d]<S.wy.length
      ·refine t6 (λp o=>H.wf.az (S.wy.getD met[d] []) ?_ p o) g;rw[Zp,Zk i];exact Yo i
      ·rw[Zp,Yr (ZJ i)]at g;cases g)
     rw[g,Xm]at this;exact this
   ·rw[j];rcases Zj.mp a with a | a
    ·refine(b.par x a).imp id λu=>?_;obtain⟨q,c,f,e⟩:=u;exact⟨q,c,Z8 _ f,e⟩
    ·obtain⟨_,c,e⟩:=l x a;exact .inr ⟨_,c,ZQ _ (Zl.mpr Y),e⟩
  ·cases e;exact b.pw
theorem I.order(e:AU.Kg S k [0] 0=Z M):M.Pairwise λs t=>Nl (sw S wd s) (sw S wd t) :=
 Ord.Kg H k [0] 0 M ⟨Xs _ _,λx h=>by rw[Zl.mp h];exact H.lt H.z,Zl.mpr Y,(λq h=>nomatch h),λx h=>.inl (Zl.mp h)⟩ e
end
end AU
end
section
namespace T06
open VS AU
def lU:Pt f w ↔ ∃p,Hd f p/\w <:+ p:=by
 constructor
 ·rintro (rfl | ⟨t,d,a,b,rfl⟩)
  ·exact⟨[],.inl Y,Yh _⟩
  ·exact⟨a++w,.inr ⟨_,d,⟨b,rfl⟩⟩,⟨a,rfl⟩⟩
 ·rintro⟨p,rfl | ⟨t,d,g⟩,e⟩
  ·exact .inl (Xp.mp e)
  ·exact .inr ⟨t,d,e.isInfix.trans g.isInfix⟩
def kf(a:List Tx)(w:Tx):Gk:=(K9 a w,w==[])
def Co{l:List Tx}(h:l.Pairwise λa b=>¬lL b a)(d:x∈l)(f:∀y∈l,¬lL y x):∃r,l=x :: r:=by
 cases l with
 |nil=>exact nomatch d
 |cons y r =>
  rcases Zh.mp d with rfl | e
  ·exact⟨r,rfl⟩
  ·rcases nL y x with q | rfl | q
   ·exact absurd q (f y Zy)
   ·exact⟨r,rfl⟩
   ·exact absurd q ((YL.mp h).1 x e)
def Bm{l:List Tx}(h:l.Pairwise λa b=>¬lL b a)(d:x∈l)(g:∀y∈l,¬lL x y):∃r,l=r++[x]:=by
 have e:=(List.dropLast_concat_getLast (List.ne_nil_of_mem d)).symm;generalize l.getLast (List.ne_nil_of_mem d)=y at e;generalize l.dropLast=r at e;subst e;rcases Zj.mp d with f | f
 ·rcases nL y x with q | rfl | q
  ·exact absurd q ((ZG.mp h).2.2 x f y (Zl.mpr Y))
  ·exact⟨r,rfl⟩
  ·exact absurd q (g y (ZQ _ (Zl.mpr Y)))
 ·rw[Zl.mp f];exact⟨r,rfl⟩
section
variable{bk:List Tx}{S:St}{M:Us}{nd:Wd->Option Nat}{wd:List Wd}(H:K (Hd bk) S nd wd)(hM:∀x,x∈M↔x<wd.length)(hN:M.Nodup)(hB:Kg S 1000 [0] 0=some M)
include H
theorem Ce(hw:nd w=Z j)(a:nd v=Z j):K9 bk w=K9 bk v:=by
 unfold K9;rw[List.flatMap_def,List.flatMap_def];congr 1;refine YU λq b=>?_;congr 1;refine List.filter_congr λe _=>?_;have:=(H.eq hw a).mp Y (q.1.take e) (.inr ⟨q.1,List.fst_mem_of_mem_zipIdx b,List.take_prefix _ _⟩);rw[Xo,Y4,Y4];exact this
theorem AA(hw:nd w=Z i)(l:nd v=Z j)(h:K9 bk w=K9 bk v):i=j:=by
 have at_:∀(n:Nat)(t:Tx)(e:Nat),bk[n]?=Z t->e<=t.length->(w <:+ t.take e↔v <:+ t.take e):=λn t e d he=>by
  have q:(n,e)∈K9 bk w↔(n,e)∈K9 bk v:=by rw[h]
  rw[mO,mO]at q;constructor
  ·intro z;obtain⟨m,a,_,b⟩:=q.mp ⟨t,d,he,z⟩;rw[a]at d;cases d;exact b
  ·intro z;obtain⟨m,a,_,b⟩:=q.mpr ⟨t,d,he,z⟩;rw[a]at d;cases d;exact b
 refine(H.eq hw l).mpr λp g=>?_;rcases g with rfl | ⟨t,f,g⟩
 ·cases e:bk with
  |nil =>
   have nil:∀{x:Tx}{s:Nat},nd x=Z s->x=[]:=λ{x s} o=>by
    rcases lU.mpr ((H.some x).mp ⟨s,o⟩) with z | ⟨t,f,_⟩
    ·exact z
    ·rw[e]at f;exact nomatch f
   rw[nil hw,nil l]
  |cons t r =>
   have:=at_ 0 t 0 (by rw[e];rfl) (ZE _)
   rw[Ve]at this;exact this
 ·obtain⟨n,d⟩:=Vi.mp f;have:=at_ n t p.length d g.length_le
  rw[← List.prefix_iff_eq_take.mp g]at this;exact this
theorem qf(hw:nd w=Z i)(a:nd v=Z j):kf bk w=kf bk v↔i=j:=by
 refine⟨λh=>AA H hw a (Z5 Prod.fst h),λh=>?_⟩;subst h;refine VE (Ce H hw a) ?_;show (w==[])=(v==[]);rw[Xo,beq_iff_eq,beq_iff_eq];constructor
 ·rintro rfl;rw[H.i.z]at hw;cases hw;exact H.i.zero a
 ·rintro rfl;rw[H.i.z]at a;cases a;exact H.i.zero hw
include hM
theorem EY(h:nd w=Z j):M.idxOf j<M.length/\M.getD (M.idxOf j) 0=j:=by
 have a:=List.idxOf_lt_length_iff.mpr ((hM j).mpr (H.i.lt h));refine⟨a,?_⟩;rw[Zp,Zk a];exact List.getElem_idxOf a
theorem yR(a:k<M.length):M.getD k 0<wd.length:=by
 refine(hM _).mp ?_;rw[Zp,Zk a];exact Yo a
include hN
theorem yx(a:k<M.length):M.idxOf (M.getD k 0)=k:=by
 rw[Zp,Zk a];exact List.Nodup.idxOf_getElem hN k a
include hB
theorem yg{L:List Tx}(l:∀w,w∈L↔Pt bk w)(q:L.Pairwise λa b=>¬lL b a):QV (kf bk) L []=((List.range M.length).map λk=>kf bk (sw S wd (M.getD k 0))).map λx=>(x,L.filter λw=>decide (kf bk w=x)):=by
 refine AE (λk d=>?_) (λw hw=>?_) (λj k h d=>?_) (λj k f d e=>?_) q L [] 0 Y (ZE _) λk d=>⟨λz=>absurd z (Vo _),λ⟨w,m,_⟩=>nomatch m⟩
 ·exact(l _).mpr (lU.mpr ((H.some _).mp ⟨_,H.i.IF (yR H hM d)⟩))
 ·obtain⟨j,f⟩:=(H.some w).mpr (lU.mp ((l w).mp hw));obtain⟨d,o⟩:=EY H hM f;refine⟨M.idxOf j,d,?_,?_⟩
  ·rw[o];exact(qf H f (H.i.IF (H.i.lt f))).mpr Y
  ·rw[o];intro z;have:=H.i.K6 f;rcases z with z | ⟨p,g⟩
   ·lia
   ·rw[H.i.sw_eq f p]at g;exact Xh _ g
 ·have:=YH.mp (H.i.order hB) j k (by lia) d h;have e:∀{i}(n:i<M.length),M[i]=M.getD i 0:=λ{i} n=>by rw[Zp,Zk n];rfl
  rw[e,e]at this;exact this
 ·have:=(qf H (H.i.IF (yR H hM f)) (H.i.IF (yR H hM d))).mp e;rw[← yx H hM hN f,this,yx H hM hN d]
omit hM hN hB
theorem yb{L:List Tx}(d:∀w,w∈L↔Pt bk w)(a:t<wd.length){w:Tx}:(w∈L.filter λw=>decide (kf bk w=kf bk (sw S wd t)))↔nd w=Z t:=by
 rw[Xd,d w,decide_eq_true_iff];constructor
 ·rintro⟨f,e⟩;obtain⟨j,b⟩:=(H.some w).mpr (lU.mp f);rw[b,(qf H b (H.i.IF a)).mp e]
 ·exact λh=>⟨lU.mpr ((H.some w).mp ⟨t,h⟩),(qf H h (H.i.IF a)).mpr Y⟩
theorem A7{L:List Tx}(h:∀w,w∈L↔Pt bk w)(j:L.Pairwise λa b=>¬lL b a)(g:t<wd.length):(∃r,(L.filter λw=>decide (kf bk w=kf bk (sw S wd t)))=sw S wd t :: r)/\∃r,(L.filter λw=>decide (kf bk w=kf bk (sw S wd t)))=r++[W wd t]:=by
 have me:=λw=>yb H h g (w:=w);have pw:=Vb (λw=>decide (kf bk w=kf bk (sw S wd t))) j;refine⟨Co pw ((me _).mpr (H.i.IF g)) λy d z=>?_,Bm pw ((me _).mpr (H.i.top g)) λy d z=>?_⟩
 ·have d:=(me y).mp d;have:=H.i.K6 d;rcases z with z | ⟨f,e⟩
  ·lia
  ·rw[H.i.sw_eq d f]at e;exact Xh _ e
 ·have d:=H.i.sf ((me y).mp d);have:=d.length_le;rcases z with z | ⟨f,e⟩
  ·lia
  ·rw[d.eq_of_length f.symm]at e;exact Xh _ e
end
def yS(h:a U=Z l)(d:cf l=.fr)(b:l.length<=16777216):kP a U=Z (.fr,.tup (trees l)):=by
 show (a U).bind oC=_;rw[h,Zs,zO b,d];unfold up;rw[ite_self]
def Gw(e:a U=Z (.fr,x))(d:b U=Z (.fr,y)):kP (ae a (ae b aj)) U=Z (.fr,.tup [x,y]):=yS (xv e (xv (r:=aj) d Y)) Y (by show 2<=16777216;decide)
def eqs(a b:Tx):eqT (.str a) (.str b)=(a==b):=by simp only[eqT]
def zp{α:Type}(l:List α)(k:Nat)(h:k<=l.length):cut l (Z (k:Int)) J=l.drop k:=by
 have a:clip l.length (k:Int)=k:=by
  unfold clip;rw[Zq (by omega),Xq,Yd h]
 show (l.drop (clip l.length (k:Int))).take (l.length-clip l.length (k:Int))=_;rw[a,Yq (by rw[Z4];exact Zn _)]
abbrev E1(B:T)(d:Fd)(g:Gr)(b a:Up):Env:=[pc B,pc (.dct 0 (dT d)),oc (.dct 2 (Lp g)),b,a,J,J,J,J,J,J,J]
def du1(B:T)(a:List Tx)(d:Fd)(l:∀w,look d w=K9 a w)(t:∀q∈d,q.2.length<=1000000)(b:List Tx):∀(g:Gr)(N:Nat)(h f:Up),(∀w∈b,∃q∈d,q.1=w)->(g.length<=N/\∀q∈g,q.2.length<=N)->N+b.length<16777216 →
  ∃j i,forL (bK 3) ko (b.map .str) (E1 B d g h f)=Z (.nx (E1 B d (QV (kf a) b g) j i)):=by
 induction b with
 |nil=>exact λg N h f _ _ _=>⟨h,f,rfl⟩
 |cons w b o =>
  intro g N h f hw hN s;rw[Zb]at s;obtain⟨j,i,e⟩:=o (iM g (kf a w) w) (N+1) (Q2 w) (pc (kT (kf a w))) (λx p=>hw x (Zw _ p)) (Ax g _ w N hN) (by lia);refine⟨j,i,?_⟩;have lk:=xN d w (hw w Zy);have n:=yH d w 1000000 t;rw[l w]at lk n;rw[Zo];refine(cI (U1:=E1 B d g (Q2 w) f) Y (sq (aK (m:=.fr) ?_ (by decide) (by show 4<12;decide)) (tF (m:=.fr) Y ?_ (λc=>rfl) (λq r=>by have:=hN.2 q r;lia) (by have:=hN.1;lia)))).trans e
  ·refine Gw (jc (xv (e2v (z:=(.pu,.lst ((K9 a w).map tP))) Y Y ?_) Y) ?_) (e2v Y Y (j7 Y Y (eqs w [])))
   ·show (cH (dT d) (.str w)).map _=_;rw[lk];rfl
   ·show (if _ then _ else _)=_;rw[Zr (by rw[Zu];exact ZU n (by decide)),up,Iw,vz];rfl
  ·show Z (up .pu (kT (kf a w)))=_;unfold up;rw[show Iw (kT (kf a w))=(fU ((kf a w).1.map tP)&&true) from rfl,vz];rfl
noncomputable def Nj(m:List (Tx×Nat)):List (T×T):=m.map λp=>(T.str p.1,T.int (p.2:Int))
noncomputable def putN(m:List (Tx×Nat))(w:Tx)(k:Nat):List (Tx×Nat):=if m.any (λp=>p.1==w) then m.map (λp=>if p.1==w then (p.1,k) else p) else m++[(w,k)]
noncomputable def jd(m:List (Tx×Nat))(x:Tx):Option Nat:=(m.find? λp=>p.1==x).map (·.2)
def E6(m:List (Tx×Nat))(w:Tx)(k:Nat):dput (Nj m) (.str w) (.int (k:Int))=Nj (putN m w k):=by
 unfold dput putN Nj;rw[List.any_map,show ((λp:T×T=>eqT p.1 (T.str w)) ∘ λp:Tx×Nat=>(T.str p.1,T.int (p.2:Int)))=λp=>p.1==w from funext λp=>eqs p.1 w];split
 ·rw[Z7,Z7];refine YU λp _=>?_;show (if eqT (T.str p.1) (T.str w)=B then _ else _)=(T.str (if (p.1==w)=B then (p.1,k) else p).1,T.int ((if (p.1==w)=B then (p.1,k) else p).2:Nat));rw[eqs];split<;>rfl
 ·rw[Yz];rfl
def EN(m:List (Tx×Nat))(x:Tx):cH (Nj m) (.str x)=(jd m x).map λ(k:Nat)=>T.int (k:Int):=by
 unfold cH jd Nj;rw[List.find?_map,show ((λp:T×T=>eqT p.1 (T.str x)) ∘ λp:Tx×Nat=>(T.str p.1,T.int (p.2:Int)))=λp=>p.1==x from funext λp=>eqs p.1 x,Option.map_map,Option.map_map];rfl
def Bx(h:x≠w)(k:Nat)(m:List (Tx×Nat)):jd (m.map λp=>if p.1==w then (p.1,k) else p) x=jd m x:=by
 induction m with
 |nil=>rfl
 |cons p m a =>
  unfold jd at a ⊢;rw[Zo,Z3,Z3];by_cases e:(p.1==w)=B
  ·have:=Z0.mpr λz=>h (z.symm.trans (eq_of_beq e));rw[Zr e,this];exact a
  ·rw[Zq e];cases (p.1==x) with
   |true=>rfl
   |false=>exact a
def AB(w:Tx)(k:Nat)(m:List (Tx×Nat))(h:m.any (λp=>p.1==w)=B):jd (m.map λp=>if p.1==w then (p.1,k) else p) w=Z k:=by
 induction m with
 |nil=>cases h
 |cons p m a =>
  unfold jd at a ⊢;rw[Zo,Z3];by_cases e:(p.1==w)=B
  ·rw[Zr e,e];rfl
  ·rw[Xz,Bool.eq_false_iff.mpr e]at h;rw[Zq e,Bool.eq_false_iff.mpr e];exact a h
def zL(m:List (Tx×Nat))(w x:Tx)(k:Nat):jd (putN m w k) x=if x=w then Z k else jd m x:=by
 unfold putN;by_cases e:m.any (λp=>p.1==w)=B
 ·rw[Zr e];by_cases h:x=w
  ·rw[Zr h,h,AB w k m e]
  ·rw[Zq h,Bx h]
 ·rw[Zq e];unfold jd;rw[V3];by_cases h:x=w
  ·subst h;rw[Zr Y,List.find?_eq_none.mpr λp a q=>e (XO.mpr ⟨p,a,q⟩)];rw[Z3,beq_self_eq_true x];rfl
  ·rw[Zq h,show List.find? (λp=>p.1==x) [(w,k)]=J from by rw[Z3,Z0.mpr (YN h)];rfl,Option.or_none]
noncomputable def Kn(L:List Tx)(m:List (Tx×Nat)):Prop:=(m.map (·.1)).Nodup/\∀x∈m.map (·.1),x∈L
def Kn.put{L:List Tx}(h:Kn L m)(hw:w∈L)(k:Nat):Kn L (putN m w k):=by
 unfold putN;split
 ·have:(m.map λp=>if p.1==w then (p.1,k) else p).map (·.1)=m.map (·.1):=by
   rw[Z7];refine YU λp _=>?_;show (if (p.1==w)=B then (p.1,k) else p).1=_;split<;>rfl
  unfold Kn;rw[this];exact h
 ·rename_i e;unfold Kn;rw[Yz];refine⟨ZC.mpr ⟨h.1,Xs _ _,λa g b hb z=>?_⟩,λx d=>(Zj.mp d).elim (h.2 x) λz=>by rw[Zl.mp z];exact hw⟩;obtain⟨p,f,rfl⟩:=Yv.mp g;rw[Zl.mp hb]at z;exact e (XO.mpr ⟨p,f,beq_iff_eq.mpr z⟩)
def Kn.len{L:List Tx}(h:Kn L m):m.length<=L.length:=by
 have:=sub_len _ L h.1 h.2
 rwa [Zu]at this
def Cd{U:Env}(h:U[i]?=Z (Z (.ow (.dct 0 l))))(he:e U=Z (m,v))(b:k U=Z (n,a))(g:iw a=B)(f:Iw v=B)(d:l.length<16777216):mV i k e U=Z (.nx (U.set i (Z (.ow (.dct 0 (dput l a v)))))):=by
 unfold mV;rw[he,Zs,h,b];exact Zr ⟨g,f,d⟩
noncomputable def U9(a:Uq):T:=.lst (a.map λs=>T.lst (s.map T.str))
abbrev E2(B D:T)(f:T)(m:List (Tx×Nat))(e d b a:Up):Env:=[pc B,pc D,J,e,d,pc f,oc (.dct 0 (Nj m)),b,a,J,J,J]
def nm1(B D i:T)(g f:Up)(a:Tx->Nat){L:List Tx}(u:L.length<16777216)(k:Nat)(s:List Tx):∀(m:List (Tx×Nat))(n:Up),(∀w∈s,a w=k/\w∈L)->Kn L m →
  ∃b A,forL (bK 3) ke (s.map T.str) (E2 B D i m n g (Q0 k) f)=Z (.nx (E2 B D i b A g (Q0 k) f))/\Kn L b/\∀w,w∈s\/jd m w=Z (a w)->jd b w=Z (a w):=by
 induction s with
 |nil=>exact λm z _ h=>⟨m,z,rfl,h,λw h=>h.resolve_left λz=>nomatch z⟩
 |cons w s t =>
  intro m z j l;obtain⟨r,p⟩:=j w Zy;obtain⟨b,o,e,y,v⟩:=t (putN m w k) (Q2 w) (λx d=>j x (Zw _ d)) (l.put p k);refine⟨b,o,?_,y,λx d=>v x ?_⟩
  ·rw[Zo];refine(cI Y ((Cd Y Y Y Y Y (by rw[Nj,Zu];exact ZF l.len u)).trans ?_)).trans e;rw[E6];rfl
  ·rw[zL];by_cases q:x=w
   ·rw[Zr q,q,r];exact .inr Y
   ·rw[Zq q];exact d.imp (λz=>(Zh.mp z).resolve_left q) id
def nm2(B D t:T)(r:Up)(a:Tx->Nat){L:List Tx}(N:L.length<16777216)(l:Uq):∀(n:Nat)(m:List (Tx×Nat))(d g f:Up),(∀i s,l[i]?=Z s->∀w∈s,a w=n+i/\w∈L)->Kn L m →
  ∃j P p o,forL (sM [bK 7,bK 8]) j4 (gP n (l.map λs=>T.lst (s.map T.str))) (E2 B D t m d r g f)=Z (.nx (E2 B D t j P r p o))/\∀w,(∃s∈l,w∈s)\/jd m w=Z (a w)->jd j w=Z (a w):=by
 induction l with
 |nil=>exact λn m d g f _ _=>⟨m,d,g,f,rfl,λw h=>h.resolve_left λ⟨_,z,_⟩=>nomatch z⟩
 |cons s l G =>
  intro n m d g f v M;obtain⟨F,y,e1,O,x⟩:=nm1 B D t r (pc (.lst (s.map T.str))) a N n s m d (v 0 s Y) M;obtain⟨j,E,C,A,e,b⟩:=G (n+1) F y (Q0 n) (pc (.lst (s.map T.str))) (λi s H w hw=>by rw[Nat.succ_add_eq_add_succ];exact v (i+1) s H w hw) O;refine⟨j,E,C,A,?_,λw hw=>b w ?_⟩
  ·rw[Zo,gP];exact(cI Y ((c7 Y Y).trans e1)).trans e
  ·rcases hw with⟨q,u,hw⟩ | hw
   ·rcases Zh.mp u with rfl | u
    ·exact .inr (x w (.inl hw))
    ·exact .inl ⟨q,u,hw⟩
   ·exact .inr (x w (.inr hw))
def FJ(d:Fd)(w:Tx):(cH (dT d) (.str w)).isSome=B ↔ ∃q∈d,q.1=w:=by
 unfold cH dT;rw[Xu,V2];constructor
 ·rintro⟨x,b,e⟩;obtain⟨q,a,rfl⟩:=Yv.mp b;exact⟨q,a,eq_of_beq ((eqs q.1 w).symm.trans e)⟩
 ·rintro⟨q,a,rfl⟩;exact⟨_,Yv.mpr ⟨q,a,rfl⟩,(eqs q.1 q.1).trans (beq_self_eq_true _)⟩
def Fx(h:a U=Z (m,.lst ((x :: r).map .str))):e2 aH a (Q3 0) U=Z (.fr,.str x):=e2v h Y ((nK T.str (x :: r) 0 [] (Nat.succ_pos _)).trans Y)
def Ey(h:a U=Z (m,.lst ((r++[x]).map .str))):e2 aH a (Q3 (-1)) U=Z (.fr,.str x):=e2v h Y (by
 show (JY ((r++[x]).map T.str).length (-1)).bind _=_;unfold JY;rw[Zq (by decide),Zu,Zv,ZA,Zr (by omega),Zs,ZL,show (-1+((r.length+1:Nat):Int)).toNat=r.length by omega,Yy (Zn _),Vv];rfl)
section
variable{bk:List Tx}{S:St}{M:Us}{nd:Wd->Option Nat}{wd:List Wd}(H:K (Hd bk) S nd wd)(hM:∀x,x∈M↔x<wd.length)
include H
theorem EJ(a:t<wd.length):row S M t=((sw S wd t).length,(W wd t).length,(S.lk.getD t J).map M.idxOf,steps S M t):=by
 rw[H.i.Kr a,← H.i.lg t a];unfold row OA;by_cases h:t=0
 ·subst h;rw[H.i.Ob,H.i.lg 0 a,H.i.wz];rfl
 ·obtain⟨m,e,_⟩:=H.i.lk (YZ h) a (by simp);rw[e];rfl
theorem Ar(a:t<wd.length)(e:S.lk.getD t J=Z l):(sw S wd t).drop 1=W wd l/\1<=(sw S wd t).length/\nd (W wd l)=Z l:=by
 obtain⟨m,d,⟨b,_⟩,g,j,h⟩:=H.i.lk (YZ (λz=>by
  rw[z,H.i.Ob]at e;cases e)) a (by simp)
 rw[e]at d;cases d;have ln:=H.i.Kr a;unfold OA at ln;rw[e]at ln;have ln:(sw S wd t).length=S.lg.getD l 0+1:=ln;rw[H.i.lg l b]at ln;refine⟨?_,by lia,H.i.top b⟩;have f:(sw S wd t).drop 1 <:+ W wd t:=(Vw _ _).trans (Vw _ _);refine(b7 f g ?_).eq_of_length ?_
 ·rw[Z4];lia
 ·rw[Z4];lia
include hM
abbrev E3(B:T)(d:Fd)(h:T)(m:List (Tx×Nat))(g f e b:Up)(a:List Row)(i j:Up):Env:=[pc B,pc (.dct 0 (dT d)),J,g,f,pc h,pc (.dct 0 (Nj m)),e,b,oc (.lst (a.map lQ)),i,j]
theorem xI{a:Ex}{U:Env}{y:Md}(e:a U=Z (x,.dct 0 (Nj m)))(d:b U=Z (y,.str w))(h:jd m w=Z k):e2 J9 a b U=Z (.fr,.int (k:Int)):=e2v e d (by
 show (cH (Nj m) (.str w)).map _=_;rw[EN,h];rfl)
theorem HZ(Ld:∀w,(∃q∈d,q.1=w)↔Pt bk w)(C:∀w j,nd w=Z j->jd m w=Z (M.idxOf j)){B:T}{rows:List Row}(hr:rows.length<1000000)(p:t<wd.length)(A:(sw S wd t).length<=1000)(P:∃r,s=sw S wd t :: r)(O:∃r,s=r++[W wd t]) :
  ∃X P0,ik (E3 B d n m g f b (pc (.lst (s.map .str))) rows NX o)=Z (.nx (E3 B d n m g f b (pc (.lst (s.map .str))) (rows++[row S M t]) X P0)):=by
 have hd:∀{U:Env}{a:Ex}{x:Md},a U=Z (x,.lst (s.map .str))->e2 aH a (Q3 0) U=Z (.fr,.str (sw S wd t)):=λh=>by
  obtain⟨r,rfl⟩:=P;exact Fx h
 have la:∀{U:Env}{a:Ex}{x:Md},a U=Z (x,.lst (s.map .str))->e2 aH a (Q3 (-1)) U=Z (.fr,.str (W wd t)):=λh=>by
  obtain⟨r,rfl⟩:=O;exact Ey h
 have G:∀z,e2 Ly (e2 aH (aa 8) (Q3 0)) (eC (.str [])) (E3 B d n m g f b (pc (.lst (s.map .str))) rows (pc .non) z)=Z (.fr,.bl (!(sw S wd t==[]))):=λz=>e2v (hd Y) Y (uK Y Y (eqs _ _));have snd:=H.i.IF p;refine⟨pc (IH ((S.lk.getD t J).map M.idxOf)),pc (.lst ((sk (S.wy.getD t [])).map λc=>T.str [c])),sq (U1:=E3 B d n m g f b (pc (.lst (s.map .str))) rows (pc .non) o) Y (sq (U1:=E3 B d n m g f b (pc (.lst (s.map .str))) rows (pc (IH ((S.lk.getD t J).map M.idxOf))) o) ?_ (sq (aK (qI (λc=>T.str [c]) (λc=>(gW (S.wy.getD t []) c).isSome) (λc=>T.str [c]) (List.range' 97 26) Y Y (by decide) λc E=>⟨_,(.fr,.bl (cH (dT d) (.str (sw S wd t++[c]))).isSome),rfl,?_,?_,λ_=>rfl⟩) (by decide) (by show 11<12;decide)) ((oy Y (v:=lQ (row S M t)) ?_ ?_).trans ?_)))⟩
 ·cases e:S.lk.getD t J with
  |none =>
   have N:=Nat.eq_zero_of_not_pos λq=>by
    obtain⟨l,F,_⟩:=H.i.lk q p (by simp);rw[e]at F;cases F
   have:=G o;rw[N,H.i.U8]at this;exact wO this Y
  |some l =>
   obtain⟨R,u,Q⟩:=Ar H p e;have:=G o;rw[Z0.mpr λz=>by rw[z]at u;exact absurd u (by decide)]at this;refine ift this (aK (xI H hM (y:=.fr) Y ?_ (C _ _ Q)) (by decide) (by show 10<12;decide));rw[← R,← zp _ 1 u];have:=hd (U:=E3 B d n m g f b (pc (.lst (s.map .str))) rows (pc .non) o) (a:=aa 8) Y;unfold Se vE;rw[this];rfl
 ·exact e2v (e2v (hd Y) Y (m7 (ZU (Nat.add_le_add_right A 1) (by decide)))) Y Y
 ·show Z _=_;congr 1;rw[Xo,FJ,Ld,H.i.wy snd c,YW,H.some,lU]
 ·refine(yS (xv (jc (xv (hd Y) Y) Y) (xv (jc (xv (la Y) Y) Y) (xv (x:=(.fr,IH ((S.lk.getD t J).map M.idxOf))) ?_ (xv (x:=(.fr,Lw (steps S M t))) ?_ Y)))) Y (by show 4<=16777216;decide)).trans ?_
  ·show Z (up .pu _)=_;unfold up;rw[k9];rfl
  ·refine jc (xv (gQ (λc=>T.str [c]) (λc=>T.tup [.str [c],.int (M.idxOf ((gW (S.wy.getD t []) c).getD 0):Nat)]) (sk (S.wy.getD t [])) Y Y (ZU (X1 _ _) (by decide)) λc E=>⟨_,rfl,?_⟩) Y) ?_
   ·obtain⟨j,D⟩:=lM E;rw[D];exact Gw Y (xI H hM Y (e2v (hd Y) Y (m7 (ZU (Nat.add_le_add_right A 1) (by decide)))) (C _ _ (by rw[← H.i.wy snd c];exact D)))
   ·show (if _ then _ else _)=_;rw[Zr (by rw[Zu];exact ZU (X1 _ _) (by decide))];unfold Lw steps up;rw[Z7,ite_self];rfl
  ·rw[EJ H p];rfl
 ·rw[Zu];lia
 ·rw[← VI,← Yz];rfl
end
section
variable{bk:List Tx}{S:St}{M:Us}{nd:Wd->Option Nat}{wd:List Wd}(H:K (Hd bk) S nd wd)(hM:∀x,x∈M↔x<wd.length)(hN:M.Nodup)(hB:Kg S 1000 [0] 0=some M)
include H hM
theorem CA(P:∀w,(∃q∈d,q.1=w)↔Pt bk w)(O:∀w j,nd w=Z j->jd m w=Z (M.idxOf j)){B:T}(G:∀t,t<wd.length->(sw S wd t).length<=1000)(A:∀t,t<wd.length->(∃r,g t=sw S wd t :: r)/\∃r,g t=r++[W wd t]) :
  ∀(l:Us)(rows:List Row)(a e f:Up),(∀x∈l,x<wd.length)->rows.length+l.length<1000000->∃C n o,forL (bK 8) ik ((l.map g).map λs=>T.lst (s.map T.str)) (E3 B d y m v u p a rows e f)=Z (.nx (E3 B d y m v u p C (rows++l.map (row S M)) n o)):=by
 intro l
 induction l with
 |nil=>exact λrows a e f _ _=>⟨a,e,f,by rw[XY,XY,XY,ZV];rfl⟩
 |cons t l E =>
  intro rows a e f z N;rw[Zb]at N;have b:=z t Zy;obtain⟨n,o,e1⟩:=HZ H hM P O (rows:=rows) (by lia) b (G t b) (A t b).1 (A t b).2;obtain⟨D,i,h,e2⟩:=E (rows++[row S M t]) (pc (.lst ((g t).map .str))) n o (λx F=>z x (Zw _ F)) (by rw[Zv,ZA];lia);refine⟨D,i,h,?_⟩;rw[Zo,Zo];refine(cI Y e1).trans (e2.trans ?_);rw[Ze];rfl
include hN hB
theorem GF(h8:bk.length<=8)(E:∀t∈bk,t.length<=120)(R7:∀t∈bk,∀c∈t,97<=c/\c<=122)(U:wd.length<=1000):jv [.lst (bk.map .str)]=Z (.fr,MT (tab S M)):=by
 obtain⟨d,ek,z,u,D⟩:=Aq bk h8 E;have A:∀w,Pt bk w->w.length<=120/\∀c∈w,97<=c/\c<=122:=λw hw=>by
  rcases hw with rfl | ⟨t,e,p⟩
  ·exact⟨ZE _,λc o=>nomatch o⟩
  ·exact⟨ZU p.length_le (E t e),λc o=>R7 t e c (p.subset o)⟩
 have F:=λw=>(fG (d.map (·.1))).mem_iff (a:=w);have pw:=oi (d.map (·.1));have R:(iF (d.map (·.1))).length<=1000000:=by rw[(fG _).length_eq,Zu];exact D.1
 have so:nU [(.pu,.dct 0 (dT d))]=Z (.fr,.lst ((iF (d.map (·.1))).map .str)):=by
  show ((strs? ((dT d).map (·.1))).bind _)=_;have:(dT d).map (·.1)=(d.map (·.1)).map T.str:=by
   unfold dT;rw[Z7,Z7];rfl
  rw[this,strs_map (λx=>x) _,List.map_id',Zs,Zr];refine Z6.mpr λw hw=>?_;obtain⟨a,b⟩:=A w ((u w).mp (Yv.mp hw));show (decide (w.length<=d4)&&w.all λc=>decide (c<1114112))=B;rw[decide_eq_true (by show w.length<=16777216;lia),Bool.true_and];exact Z6.mpr λc o=>decide_eq_true (by have:=b c o;lia)
 generalize iF (d.map (·.1))=L at F pw R so;have f:∀w,w∈L↔Pt bk w:=λw=>by rw[F w,← u w,Yv]
 obtain⟨y,v,e1⟩:=du1 (.lst (bk.map .str)) bk d z D.2 L [] 0 J J (λw hw=>(u w).mpr ((f w).mp hw)) ⟨Zn _,λq hq=>nomatch hq⟩ (by lia);rw[yg H hM hN hB f pw]at e1;generalize hg:(λt=>L.filter λw=>decide (kf bk w=kf bk (sw S wd t)))=g;have ev:(Lp (((List.range M.length).map λk=>kf bk (sw S wd (M.getD k 0))).map λx=>(x,L.filter λw=>decide (kf bk w=x)))).map (·.2)=(M.map g).map λs=>T.lst (s.map T.str):=by
  unfold Lp;rw[← hg,Z7,Z7,Z7,Z7];refine List.ext_getElem (by rw[Zu,Zu,Yx]) λi a b=>?_;rw[Zu]at b;rw[List.getElem_map,List.getElem_map,List.getElem_range];show T.lst ((L.filter λw=>decide (kf bk w=kf bk (sw S wd (M.getD i 0)))).map T.str)=_;rw[Zp,Zk b];rfl
 have G:∀{t w},t<wd.length->(w∈g t↔nd w=Z t):=λ{t w} e=>by
  rw[← hg];exact yb H f e
 have gt:∀i s,(M.map g)[i]?=Z s->∃t,M[i]?=Z t/\s=g t:=λi s h=>by
  rw[ZL]at h;obtain⟨t,r,h2⟩:=Zt.mp h;exact⟨t,r,h2.symm⟩
 obtain⟨m,x3,x7,N,e2,hm⟩:=nm2 (.lst (bk.map .str)) (.dct 0 (dT d)) (U9 (M.map g)) v (λw=>M.idxOf ((nd w).getD 0)) (L:=L) (by lia) (M.map g) 0 [] y J J (λi s X w hw=>by
  obtain⟨t,r,rfl⟩:=gt i s X;have n:=(G ((hM t).mp (Yb r))).mp hw;refine⟨?_,(f w).mpr (lU.mpr ((H.some w).mp ⟨t,n⟩))⟩;obtain⟨p,rfl⟩:=ZZ.mp r;rw[n,XH];exact hN.idxOf_getElem i p) ⟨Xy,λx l=>nomatch l⟩
 have Q:=sub_len M (List.range wd.length) hN λx l=>Ym.mpr ((hM x).mp l);rw[Yx]at Q;obtain⟨w8,P,O,e3⟩:=CA H hM u (λw j h=>by
  have C:=H.i.lt h;have:=hm w (.inl ⟨g j,Yv.mpr ⟨j,(hM j).mpr C,rfl⟩,(G C).mpr h⟩);rw[h]at this;exact this) (g:=g) (λt e=>ZU (A _ (lU.mpr ((H.some _).mp ⟨t,H.i.IF e⟩))).1 (by decide)) (λt e=>by
  rw[← hg];exact A7 H f pw e) M [] N J J (λx l=>(hM x).mp l) (by rw[WO];lia)
 refine eE Y (sq (aK (dN (xv Y Y) ek) (by decide) (by show 1<12;decide)) (sq Y (sq ((c7 (zg (jc (xv Y Y) so)) Y).trans e1) (sq (U1:=[pc (.lst (bk.map .str)),pc (.dct 0 (dT d)),J,y,v,pc (U9 (M.map g)),J,J,J,J,J,J]) ?_ (sq Y (sq ((c7 Y Y).trans e2) (sq Y (sq Y (sq ((c7 Y Y).trans e3) Y)))))))));show Z (Out.nx [pc (.lst (bk.map .str)),pc (.dct 0 (dT d)),J,y,v,pc (.lst ((Lp _).map (·.2))),J,J,J,J,J,J])=_;rw[ev];rfl
end
def BQ(r:Row):Ji 59 (lQ r)=B:=by
 have d:Ji 58 (IH r.2.2.1)=B:=by cases r.2.2.1<;>rfl
 have b:Ji 58 (Lw r.2.2.2)=B:=by
  show (r.2.2.2.map λp=>T.tup [.str [p.1],.int (p.2:Int)]).all (Ji 57)=B;rw[Z6];intro x a;obtain⟨p,_,rfl⟩:=Yv.mp a;rfl
 show (B&&(B&&(Ji 58 (IH r.2.2.1)&&(Ji 58 (Lw r.2.2.2)&&B))))=B;rw[d,b];rfl
def lP(t:List Row):Ji 60 (MT t)=B:=by
 show (t.map lQ).all (Ji 59)=B;rw[Z6];intro x a;obtain⟨r,_,rfl⟩:=Yv.mp a;exact BQ r
def Gp(h:s=t):oEq (m,MT s) (n,MT t)=Z (.fr,.bl B):=by
 subst h;exact j7 (lP s) (lP s) (iT 60 _ (lP s))
def k8(l:List Tx):Ji 60 (.lst (l.map .str))=B:=by
 show (l.map T.str).all (Ji 59)=B;rw[Z6];intro x a;obtain⟨t,_,rfl⟩:=Yv.mp a;rfl
def mP(h:e U=Z (m,Io a d S b))(f:g [Io a d S b]=Z (.fr,t)):dI 1 g e aj U=Z (.fr,t):=by
 unfold dI;rw[h];show ((g [Io a d S b]).bind _)=_;rw[f];rfl
def Gf{a:Ul}(f:a.length=d)(h:∃U,b (a.map (λt=>Z (.pu t))++List.replicate (e-d) J)=Z (.rt v U)):fn d e b a=Z v:=by
 obtain⟨U,h⟩:=h;exact eE f h
def gu{U1:Env}(h:a U=Z (.nx U1))(q:∃z,b U1=Z (.rt v z)):∃z,ak a b U=Z (.rt v z):=by
 obtain⟨z,q⟩:=q;exact⟨z,(aq h).trans q⟩
theorem ki1(B Rq:T):∀(l:List (Nat×Nat))(z:Up),∃a,forL (bK 2) iP (l.map λp=>T.tup [.str [p.1],.int (p.2:Int)]) [pc B,pc Rq,z]=Z (.nx [pc B,pc Rq,a])
 |[],z=>⟨z,rfl⟩
 |p :: l,z=>by
  obtain⟨a,e⟩:=ki1 B Rq l (pc (T.tup [.str [p.1],.int (p.2:Int)]));exact⟨a,(cI Y (wO Y Y)).trans e⟩
theorem ki2(B:T):∀(l:List Row)(y z:Up),∃g f,forL (bK 1) iW (l.map lQ) [pc B,y,z]=Z (.nx [pc B,g,f])
 |[],y,z=>⟨y,z,rfl⟩
 |r :: l,y,z=>by
  obtain⟨h,e1⟩:=ki1 B (lQ r) r.2.2.2 z;obtain⟨g,f,e⟩:=ki2 B l (pc (lQ r)) h;refine⟨g,f,(cI Y (sq (wO Y Y) (sq (wO (m:=.fr) ?_ Y) ((c7 (m:=.fr) ?_ Y).trans e1)))).trans e⟩
  ·obtain⟨a,b,c,d⟩:=r;cases c<;>rfl
  ·have:e2 aH (aa 1) (Q3 3) [pc B,pc (lQ r),z]=Z (.fr,Lw r.2.2.2):=e2v Y Y (by
    show Z (up (up .pu (lQ r)).1 (Lw r.2.2.2))=_;rw[up,uB];rfl)
   show (e2 aH (aa 1) (Q3 3) [pc B,pc (lQ r),z]).bind zh=_;rw[this];rfl
def BL(l:List Row):gn [MT l]=Z (.fr,.bl B):=by
 obtain⟨y,z,e⟩:=ki2 (MT l) l J J;exact eE Y (sq ((c7 Y Y).trans e) Y)
def GV(l:List Tx):oEq (m,.lst (l.map .str)) (n,.lst (l.map .str))=Z (.fr,.bl B):=j7 (k8 l) (k8 l) (iT 60 _ (k8 l))
def C5{n:Md}(l:List Tx):Ly (m,.lst (l.map .str)) (n,.lst (l.map .str))=Z (.fr,.bl L):=uK (k8 l) (k8 l) (iT 60 _ (k8 l))
def yt(a:Ur):zz [.scr a]=Z (.fr,.bl B):=by
 obtain⟨bk,e,d,o,h⟩:=DD a;have g:de bk<=120:=by rw[wD];exact o
 obtain⟨hd,S,l,b⟩:=Bl d g h (arg:=aa 2) (U:=[pc (.scr a),pc (.lst (bk.map .str)),oc (.lst (bk.map .str)),J,J,J,J]) Y;obtain⟨nd,p,H,wl,_⟩:=b.k;obtain⟨m,e2,hN,e3,q⟩:=H.met (k:=1000) (by omega);have j:tbl S=tab S (0 :: m):=by unfold tbl;rw[e2];rfl
 have f:=GF H e3 hN e2 d (λt i=>ZU (nc i) g) h (by omega);rw[← j]at f;have tb:=b.tab L;have bo:=b.book L;generalize tbl S=Rq at f tb;refine Gf Y (gu (aK (dN (xv Y Y) e) (by decide) (by show 1<7;decide)) (gu (qh (CV Y d) Y (by show 2<7;decide)) (gu (aK l (by decide) (by show 3<7;decide)) (gu (aK (dN (xv Y Y) f) (by decide) (by show 4<7;decide)) (gu (qh (mP Y tb) Y (by show 5<7;decide)) (gu (wO (RK (n:=.fr) (x:=L) Y (RK (n:=.fr) (e2v Y Y (uK (lP Rq) (lP Rq) (iT 60 _ (lP Rq)))) (RK (n:=.fr) (uG (dN (xv (x:=(.bo,MT Rq)) (r:=aj) Y Y) (BL Rq))) (e2v Y Y (C5 bk))))) Y) (gu (U1:=[pc (.scr a),pc (.lst (bk.map .str)),oc (.lst (bk.map .str)),pc (Io bk hd S L),pc (MT Rq),oc (.lst []),J]) Y (gu Y (gu (oy Y Y (by rw[Zu];omega)) (gu Y (gu (qh (mP Y bo) Y (by show 6<7;decide)) (gu (wO (RK (n:=.fr) (x:=L) Y (e2v Y Y (C5 bk))) Y) (gu (oy Y Y (by rw[Zu];omega)) (gu Y ⟨_,dR (FE (n:=.fr) (e2v (mP Y tb) Y (Gp Y)) (e2v (mP Y bo) Y (GV bk)))⟩))))))))))))))
end T06
end
section
namespace T06
open PySem PySem.Spec PyProof.Rows L2 VS
def qv{X:Cx}(i:Nat)(a:{`q8,X.N[i]?=Z x})(b:KG X.env.scope x:=by exact Or.inl Y)(c:{`q2,K3 x})(d:{`q2,K4 x}):PV G X (.Name x p) (aa i):=bH i a b c d
def Q4{α:Sort _}{x:α}{b:Prop}:x=x∨b:=.inl Y
abbrev Q5:List Str:=["_law_book_here"]
abbrev Q6:List Str:=["_law_cell", "_law_k"]
abbrev Q7:List Str:=["_law_j", "_law_script", "_law_cell", "_law_letters", "_law_count", "_law_most"]
abbrev Q8:List Str:=["_law_mark", "_law_book_here", "_law_known_here", "_law_groups", "_law_word", "-5", "_law_stands", "_law_number", "_law_k", "_law_some", "_law_rows", "_law_link", "_law_signs"]
abbrev Q9:List Str:=["_law_script", "_law_k"]
abbrev Qa:List Str:=["_law_script", "_law_letters", "_law_most", "_law_j"]
abbrev Qb:List Str:=["_law_script"]
abbrev Qc:List Str:=["_law_sign", "_law_book_here", "_law_known_here", "_law_groups", "_law_word", "_law_mark", "_law_stands", "_law_number", "_law_k", "_law_some", "_law_rows", "_law_link", "_law_signs"]
abbrev Qd:List Str:=["book", "number"]
abbrev Qe:List Str:=["self", "head", "sign"]
abbrev Qf:List Str:=["self", "head", "word"]
abbrev Qg:List Str:=["self", "long", "link", "ways"]
abbrev Qh:List Str:=["self", "node", "numbers"]
abbrev Qi:List Str:=["self", "node", "sign"]
abbrev Qj:List Str:=["self", "text", "word"]
abbrev Qk:List Str:=["self"]
abbrev Ql:List Str:=["sign", "self", "node", "numbers", "link", "ways", "steps"]
noncomputable def top(i:Nat):Stmt:=PySem.Challenge.pw_allparts_k06_tables_told.main.body.getD i (.Pass ⟨0,0,0,0⟩)
structure JU(mg:Wp):Prop where
 Nd:mg "bool" = none
 Pc:mg "dict" = none
 JX:mg "enumerate" = none
 Ol:mg "int" = none
 DP:mg "isinstance" = none
 ID:mg "len" = none
 KD:mg "list" = none
 Rn:mg "max" = none
 Rm:mg "min" = none
 J1:mg "range" = none
 J7:mg "sorted" = none
 Rl:mg "str" = none
 Rk:mg "sum" = none
 Jl:mg "tuple" = none
 KA:∃t,mg "MOST_SIGNS" = some (.int 120 t)
 Kz:∃t,mg "MOST_TEXTS" = some (.int 8 t)
noncomputable abbrev N6:List Str:=["  ", "longs", "links", "ways", "texts", "heads", "nodes"]
abbrev gX(K:Ww)(C D:KM):Gx:=Nq N6 K C D
def gJ{K:Ww}:jF ((Nq N6 K C D).at m):=CK (by decide +kernel) (by decide +kernel)
structure Jo(K:Ww)(mg:Wp)(C D:KM):Prop where
 Ii:JT K C
 M0:mg "Nodes" = some (.ref C)
 IQ:aR K C "longs"
 IS:aR K C "links"
 IZ:aR K C "ways"
 IM:aR K C "texts"
 IT:aR K C "heads"
 IP:aR K C "nodes"
 Ig:JT K D
 LC:mg "Machine" = some (.ref D)
 IA:aR K D "longs"
 IB:aR K D "links"
 IG:aR K D "ways"
 Iy:aR K D "texts"
 IC:aR K D "heads"
 Iz:aR K D "nodes"
def eB{K:Ww}(a:Jo K b C D):Jv ((Nq N6 K C D).at m) K 1 "longs" := xi Y a.Ii a.Ig a.IQ a.IA
def eT{K:Ww}(a:Jo K b C D):Jv ((Nq N6 K C D).at m) K 2 "links" := xi Y a.Ii a.Ig a.IS a.IB
def dX{K:Ww}(a:Jo K b C D):Jv ((Nq N6 K C D).at m) K 3 "ways" := xi Y a.Ii a.Ig a.IZ a.IG
def dJ{K:Ww}(a:Jo K b C D):Jv ((Nq N6 K C D).at m) K 4 "texts" := xi Y a.Ii a.Ig a.IM a.Iy
def j8{K:Ww}(a:Jo K b C D):Jv ((Nq N6 K C D).at m) K 5 "heads" := xi Y a.Ii a.Ig a.IT a.IC
def nB{K:Ww}(a:Jo K b C D):Jv ((Nq N6 K C D).at m) K 6 "nodes" := xi Y a.Ii a.Ig a.IP a.Iz
section
variable(P:Re)(w:XAA)(base:UV){K:Ww}
abbrev d3:Stmt:=inClass (top 11) 1
def kJ:p0 Qg Qg (ah d3):=by constructor<;>first | rfl | decide +kernel
def aJ(F:Ir K "new_node" "Nodes.new_node" d3 f e)(b:Meth K C "new_node" f)(B:JU mg)(a:Jo K mg C D) :
  MtAt P w K mg base 1 (gX K C D) 0 "new_node" Qg [L,L,true] aO:=lJ F b a.Ii (fz (by decide +kernel) (by decide +kernel)) kJ Y Y (λ_ _ _ _ _ _ g d=>by obtain⟨_,_,_,_,rfl⟩:=L2.G2 d;rfl) λ_ _ _ _ _ _ _ h =>
  (af (qj gJ (eU 1 (eB a) (bI 0)) (ab (qv 1) ag))
  (af (qj gJ (eU 2 (eT a) (bI 0)) (ab (qv 2) ag))
  (af (An gJ (eU 3 (dX a) (bI 0)) Y Y Q4 Y Y Y Y Y Y Y Y)
  (av (bu (iQ uu uF (fh B.ID (ab (w_fld gJ (eB a) (qv 0)) ag)) au))))))
abbrev ed:Stmt:=inClass (top 11) 0
def j6:p0 Qk Qk (ah ed):=by constructor<;>first | rfl | decide +kernel
def b6(F:Ir K "__init__" "Nodes.__init__" ed f g)(d:Mk K C f)(B:JU mg)(a:Jo K mg C D)(h:MtAt P w K mg base 1 (gX K C D) 0 "new_node" Qg [L,L,true] aO) :
  InAt P w K mg base 2 (gX K C D) 0 0 "Nodes" Qk cZ:=DR F d a.M0 j6 Y Y (λ_ _ _ _ _ _ i e=>by obtain⟨_,rfl⟩:=L2.jK e;rfl) λ_ _ _ _ _ _ _ b =>
  (af (lD 0 1 gJ (eB a) (ff ag))
  (af (lD 0 2 gJ (eT a) (ff ag))
  (af (lD 0 3 gJ (dX a) (ff ag))
  (av (rC (ij gJ h.at b (by decide) (bI 0) (ab au (ab tN (ab tY ag)))) Y)))))
abbrev bW:Stmt:=inClass (top 11) 4
def aW:p0 ["self", "node", "sign", "old", "long", "half"] Qi (ah bW):=by constructor<;>first | rfl | decide +kernel
def aP(F:Ir K "node_just_behind" "Nodes.node_just_behind" bW f g)(d:Meth K C "node_just_behind" f)(B:JU mg)(a:Jo K mg C D)(h:MtAt P w K mg base 1 (gX K C D) 0 "new_node" Qg [L,L,true] aO) :
  MtAt P w K mg base 2 (gX K C D) 0 "node_just_behind" Qi [L,L] aA:=lJ F d a.Ii (fz (by decide +kernel) (by decide +kernel)) aW Y Y (λ_ _ _ _ _ _ i e=>by obtain⟨_,_,_,rfl⟩:=L2.wu e;rfl) λ_ _ _ _ _ _ _ b =>
  (af (aF (sA b (bh (w_fld gJ (dX a) (qv 0)) (qv 1) (λ_ _=>rfl)) (qv 2) (λ_ _=>rfl)) aW.nd Y Q4)
  (af (aF (w_add (bh (w_fld gJ (eB a) (qv 0)) (qv 1) (λ_ _=>rfl)) au) aW.nd Y Q4)
  (af (cp (tf b (bh (w_fld gJ (eB a) (qv 0)) (qv 3) (λ_ _=>rfl)) (qv 4)) (av (fJ 3 Y (Or.inl Y) Y Y)) bP)
  (af (p9 (ij gJ h.at b (by decide) (bI 0) (ab (qv 4) (ab (bh (w_fld gJ (eT a) (qv 0)) (qv 3) (λ_ _=>rfl)) (ab (AQ B.Pc (ab (bh (w_fld gJ (dX a) (qv 0)) (qv 3) (λ_ _=>rfl)) ag) Y Y) ag)))) aW.nd Y Q4 Y Q4)
  (af (kE gJ b (eU 2 (eT a) (bI 0)) (qv 3) (qv 5))
  (af (lA Yk (Lq.Nh (mK (kx (qv 1)) (mM (tf b (w_get b (bh (w_fld gJ (dX a) (qv 0)) (qv 1) (λ_ _=>rfl)) (qv 2) Y Y Y Y) (qv 3)))))
  (af (kE gJ b (C1 b (eU 3 (dX a) (bI 0)) (qv 1) (λ_ _=>rfl) Y) (qv 2) (qv 5))
  (av (aF (bh (w_fld gJ (eT a) (qv 0)) (qv 1) (λ_ _=>rfl)) aW.nd Y Q4))))
  (av (fJ 5 Y (Or.inl Y) Y Y))))))))
abbrev df:Stmt:=inClass (top 11) 3
def bU:p0 ["self", "head", "sign", "fresh", "node"] Qe (ah df):=by constructor<;>first | rfl | decide +kernel
def bE(F:Ir K "head_behind" "Nodes.head_behind" df f h)(e:Meth K C "head_behind" f)(B:JU mg)(b:Jo K mg C D)(i:MtAt P w K mg base 1 (gX K C D) 0 "new_node" Qg [L,L,true] aO)(d:MtAt P w K mg base 2 (gX K C D) 0 "node_just_behind" Qi [L,L] aA) :
  MtAt P w K mg base 3 (gX K C D) 0 "head_behind" Qe [L,L] bF:=lJ F e b.Ii (fz (by decide +kernel) (by decide +kernel)) bU Y Y (λ_ _ _ _ _ _ j g=>by obtain⟨_,_,_,rfl⟩:=L2.wu g;rfl) λ_ _ _ _ _ _ _ a =>
  (af (cp (CT a (qv 2) (bh (w_fld gJ (dX b) (qv 0)) (qv 1) (λ_ _=>rfl)) (by with_unfolding_all rfl) Y) (av (Bz (ij gJ d.at a (by decide) (bI 0) (ab (qv 1) (ab (qv 2) ag))))) bP)
  (af (p9 (ij gJ i.at a (by decide) (bI 0) (ab (w_add (bh (w_fld gJ (eB b) (qv 0)) (qv 1) (λ_ _=>rfl)) au) (ab au (ab tY ag)))) bU.nd Y Q4 Y Q4)
  (af (aF (qv 1) bU.nd Y Q4)
  (af (lA Yk (Lq.Nh (mK (kx (qv 4)) (mM (xW a (qv 2) (bh (w_fld gJ (dX b) (qv 0)) (qv 4) (λ_ _=>rfl)) (by with_unfolding_all rfl) Y))))
  (af (kE gJ a (C1 a (eU 3 (dX b) (bI 0)) (qv 4) (λ_ _=>rfl) Y) (qv 2) (qv 3))
  (av (aF (bh (w_fld gJ (eT b) (qv 0)) (qv 4) (λ_ _=>rfl)) bU.nd Y Q4))))
  (af (cp (kx (qv 4)) (av (uJ gJ a (eU 2 (eT b) (bI 0)) (qv 3) (ij gJ d.at a (by decide) (bI 0) (ab (qv 4) (ab (qv 2) ag))) (λ_=>rfl) Y Y Y)) bP)
  (av (fJ 3 Y (Or.inl Y) Y Y)))))))
abbrev dB:Stmt:=inClass (top 11) 2
def di:p0 ["self", "head", "word", "sign"] Qf (ah dB):=by constructor<;>first | rfl | decide +kernel
def bO(F:Ir K "head_grown" "Nodes.head_grown" dB f e)(b:Meth K C "head_grown" f)(B:JU mg)(h:Jo K mg C D)(g:MtAt P w K mg base 3 (gX K C D) 0 "head_behind" Qe [L,L] bF) :
  MtAt P w K mg base 4 (gX K C D) 0 "head_grown" Qf [L,L] aU:=lJ F b h.Ii (fz (by decide +kernel) (by decide +kernel)) di Y Y (λ_ _ _ _ _ _ i d=>by obtain⟨_,_,_,rfl⟩:=L2.wu d;rfl) λ_ _ _ _ _ _ _ a =>
  (af (cY Yk Y (dA (qv 2)) (aX 3 di.nd Y Q4 Q4)
  (av (p9 (ij gJ g.at a (by decide) (bI 0) (ab (qv 1) (ab (qv 3) ag))) di.nd Y Q4 Y Q4)))
  (av (fJ 1 Y (Or.inl Y) Y Y)))
abbrev bY:Stmt:=inClass (top 11) 6
def aG:p0 ["self", "numbers", "met", "done", "ways", "sign"] Qk (ah bY):=by constructor<;>first | rfl | decide +kernel
def ba{m:Me}(F:Ir K "numbers_by_node" "Nodes.numbers_by_node" bY f g)(d:Meth K C "numbers_by_node" f)(B:JU mg)(b:Jo K mg C D) :
  MpAt P w K mg base 1 ((gX K C D).at m) 0 "numbers_by_node" Qk aL:=nO F d b.Ii (fz (by decide +kernel) (by decide +kernel)) aG Y Y (λ_ _ _ _ _ _ h e=>by obtain⟨_,rfl⟩:=L2.jK e;rfl) λ_ _ _ _ _ _ a =>
  (af (dM EF aG.nd Y Q4)
  (af (dM (ff (ab au ag)) aG.nd Y Q4)
  (af (aF au aG.nd Y Q4)
  (af (lA Yk (fX uq zA kA (qv 3) (fh B.ID (ab (qv 2) ag)) (ig _))
  (af (aF (bh (w_fld gJ (dX b) (qv 0)) (bh (qv 2) (qv 3) (λ_ _=>rfl)) (λ_ _=>rfl)) aG.nd Y Q4)
  (af (cY Yk Y (dA (ve B.J7 (ab (qv 4) ag))) (aX 5 aG.nd Y Q4 Q4)
  (av (cp (xW a (sA a (qv 4) (qv 5) (λ_ _=>rfl)) (qv 1) (by with_unfolding_all rfl) Y) (af (z6 1 a (sA a (qv 4) (qv 5) (λ_ _=>rfl)) (fh B.ID (ab (qv 2) ag)) Y Q4 Y Y (λ_=>rfl) Y Y Y)
  (av (gT 2 (ab (sA a (qv 4) (qv 5) (λ_ _=>rfl)) ag) Y Y Q4 Y Y))) bP)))
  (av (aF (w_add (qv 3) au) aG.nd Y Q4)))))
  (jC 2 (av (fJ 1 Y (Or.inl Y) Y Y)))))))
abbrev fB:Stmt:=inClass (top 11) 7
def dz:p0 ["self", "node", "numbers", "link", "ways", "steps"] Qh (ah fB):=by constructor<;>first | rfl | decide +kernel
def cQ{m:Me}(F:Ir K "row_of" "Nodes.row_of" fB f g)(d:Meth K C "row_of" f)(B:JU mg)(a:Jo K mg C D) :
  MpAt P w K mg base 1 ((gX K C D).at m) 0 "row_of" Qh bL:=nO F d a.Ii (fz (by decide +kernel) (by decide +kernel)) dz Y Y (λ_ _ _ _ _ _ h e=>by obtain⟨_,_,_,rfl⟩:=L2.wu e;rfl) λ_ _ _ _ _ _ b =>
  (af (aF (bh (w_fld gJ (eT a) (qv 0)) (qv 1) (λ_ _=>rfl)) dz.nd Y Q4)
  (af (aF (bh (w_fld gJ (dX a) (qv 0)) (qv 1) (λ_ _=>rfl)) dz.nd Y (Or.inr Y))
  (af (aF (qb B.Jl (ab (mH 1 Ql Y (dA (ve B.J7 (ab (bH 4 Y (Or.inr Q4) Y Y) ag))) (jz) (λ_ _ _ _ _=>(aX 0 (show List.Nodup Ql from by decide +kernel) Y Q4 (Or.inr Y))) (λ_ _ _ _ _=>(iR (ab (qv 0) (ab (C3 b (bH 3 Y (Or.inr Q4) Y Y) (sA b (bH 5 Y (Or.inr Q4) Y Y) (qv 0) (λ_ _=>rfl)) (λ_ _=>rfl) Y) ag)))) Y Y (by decide)) ag)) dz.nd Y Q4)
  (af (cp (EA (qv 3)) (av (bu (iR (ab au (ab au (ab tN (ab (qv 5) ag))))))) bP)
  (av (bu (iR (ab (w_add (bh (w_fld gJ (eB a) (qv 0)) (qv 3) (λ_ _=>rfl)) au) (ab (bh (w_fld gJ (eB a) (qv 0)) (qv 1) (λ_ _=>rfl)) (ab (C3 b (bH 2 Y (Or.inr Q4) Y Y) (qv 3) (λ_ _=>rfl) Y) (ab (qv 5) ag)))))))))))
abbrev gG:Stmt:=inClass (top 11) 5
def jr:p0 ["self", "numbers"] Qk (ah gG):=by constructor<;>first | rfl | decide +kernel
def dr{m:Me}(F:Ir K "table" "Nodes.table" gG f e)(b:Meth K C "table" f)(B:JU mg)(i:Jo K mg C D)(h:∀m,MpAt P w K mg base 1 ((gX K C D).at m) 0 "numbers_by_node" Qk aL)(g:∀m,MpAt P w K mg base 1 ((gX K C D).at m) 0 "row_of" Qh bL) :
  MpAt P w K mg base 2 ((gX K C D).at m) 0 "table" Qk dv:=nO F b i.Ii (fz (by decide +kernel) (by decide +kernel)) jr Y Y (λ_ _ _ _ _ _ j d=>by obtain⟨_,rfl⟩:=L2.jK d;rfl) λ_ _ _ _ _ _ a =>
  (af (dM (g8 (h _) a (by decide) (bH 0 Y (Or.inr Q4) Y Y) Y) jr.nd Y (Or.inr Y))
  (av (E5 1 ["node", "self", "numbers"] Y Y (Or.inr Q4) Y Y (jz) (λ_ _ _ _ _=>(aX 0 (show List.Nodup (["node", "self", "numbers"]:List Str) from by decide +kernel) Y Q4 (Or.inr Y))) (λ_ _ _ _ _=>(Bh (g _) a (by decide) (bH 1 Y (Or.inr Q4) Y Y) (ab (qv 0) (ab (bH 2 Y (Or.inr Q4) Y Y) ag)) Y Y Y)) Y Y (by decide) (λ_=>rfl))))
abbrev fg:Stmt:=inClass (top 13) 1
def lI:p0 Qk Qk (ah fg):=by constructor<;>first | rfl | decide +kernel
def cy(F:Ir K "begin" "Machine.begin" fg f e)(b:Meth K D "begin" f)(B:JU mg)(a:Jo K mg C D) :
  MtAt P w K mg base 1 (gX K C D) 1 "begin" Qk [] aV:=lJ F b a.Ig (fz (by decide +kernel) (by decide +kernel)) lI Y Y (λ_ _ _ _ _ _ g d=>by obtain⟨_,rfl⟩:=L2.jK d;rfl) λ_ _ _ _ _ _ _ h =>
  (af (cp (fX (Hg.or vP) GC xH (fh B.ID (ab (w_fld gJ (dJ a) (qv 0)) ag)) (vb B.Kz Y Y) (ig _)) (av uh) bP)
  (af (qj gJ (eU 4 (dJ a) (bI 0)) (ab (d6 (by decide +kernel) (by decide)) ag))
  (af (qj gJ (eU 5 (j8 a) (bI 0)) (ab au ag))
  (av (bu (iQ uu uF (fh B.ID (ab (w_fld gJ (dJ a) (qv 0)) ag)) au))))))
abbrev jU:Stmt:=top 7
def qP:p0 ["thing"] ["thing"] (ah jU):=by constructor<;>first | rfl | decide +kernel
def fF{m:Me}(F:Ir K "is_whole" "is_whole" jU f d)(a:mg "is_whole" = Z (.ref f))(B:JU mg)(h:Jo K mg C D) :
  FnAt P w K mg base 1 "is_whole" ["thing"] ((gX K C D).at m) jT:=iH F a qP Y Y (λ_ _ _ _ _ _ e b=>by obtain⟨_,rfl⟩:=L2.jK b;rfl) λ_ _ _ _ _ _ g =>
  (av (bu (tH (w_is .int B.DP B.Ol (qv 0)) (tK (xG (w_is .bool B.DP B.Nd (qv 0)))))))
abbrev d7:Stmt:=top 8
def kB:p0 Qd Qd (ah d7):=by constructor<;>first | rfl | decide +kernel
def cj{m:Me}(F:Ir K "refuse_no_text" "refuse_no_text" d7 f e)(b:mg "refuse_no_text" = Z (.ref f))(B:JU mg)(i:Jo K mg C D)(g:∀m,FnAt P w K mg base 1 "is_whole" ["thing"] ((gX K C D).at m) jT) :
  FnAt P w K mg base 2 "refuse_no_text" Qd ((gX K C D).at m) bx:=iH F b kB Y Y (λ_ _ _ _ _ _ h d=>by obtain⟨_,_,rfl⟩:=L2.ft d;rfl) λ_ _ _ _ _ _ a =>
  (av (cp (Lq.Nh (gI (c8 (dw (dj (g _) a (ab (qv 1) ag) (by decide) Y Y))) (lH (c8 (nP au (qv 1) (fh B.ID (ab (qv 0) ag)) (by with_unfolding_all rfl)))))) (av uh) bP))
abbrev jR:Stmt:=top 9
def rS:p0 ["book"] ["book"] (ah jR):=by constructor<;>first | rfl | decide +kernel
def fE{m:Me}(F:Ir K "signs_in" "signs_in" jR f d)(a:mg "signs_in" = Z (.ref f))(B:JU mg)(h:Jo K mg C D) :
  FnAt P w K mg base 1 "signs_in" ["book"] ((gX K C D).at m) iD:=iH F a rS Y Y (λ_ _ _ _ _ _ e b=>by obtain⟨_,rfl⟩:=L2.jK b;rfl) λ_ _ _ _ _ _ g =>
  (av (bu (w_sum B.Rk (ab (mH 1 ["text", "book"] Y (dA (qv 0)) (jz) (λ_ _ _ _ _=>(aX 0 (show List.Nodup (["text", "book"]:List Str) from by decide +kernel) Y Q4 (Or.inr Y))) (λ_ _ _ _ _=>(fh B.ID (ab (qv 0) ag))) Y Y (by decide)) ag))))
abbrev fO:Stmt:=inClass (top 13) 2
def mf:p0 Qj Qj (ah fO):=by constructor<;>first | rfl | decide +kernel
def cP(F:Ir K "grow" "Machine.grow" fO f g)(d:Meth K D "grow" f)(B:JU mg)(a:Jo K mg C D)(j:MtAt P w K mg base 4 (gX K C D) 0 "head_grown" Qf [L,L] aU)(i:∀m,FnAt P w K mg base 2 "refuse_no_text" Qd ((gX K C D).at m) bx)(h:∀m,FnAt P w K mg base 1 "signs_in" ["book"] ((gX K C D).at m) iD) :
  MtAt P w K mg base 5 (gX K C D) 1 "grow" Qj [L,L] aS:=lJ F d a.Ig (fz (by decide +kernel) (by decide +kernel)) mf Y Y (λ_ _ _ _ _ _ l e=>by obtain⟨_,_,_,rfl⟩:=L2.wu e;rfl) λ_ _ _ _ _ _ _ b =>
  (af (Eb (dj (i _) b (ab (w_fld gJ (dJ a) (qv 0)) (ab (qv 1) ag)) (by decide) Y Y) Y)
  (af (cp (fX (GI.or vU) FP yy (w_add (dj (h _) b (ab (w_fld gJ (dJ a) (qv 0)) ag) (by decide) Y Y) (fh B.ID (ab (qv 2) ag))) (vb B.KA Y Y) (ig _)) (av uh) bP)
  (af (uJ gJ b (eU 5 (j8 a) (bI 0)) (qv 1) (ij gJ j.at b (by decide) (eU 6 (nB a) (bI 0)) (ab (bh (w_fld gJ (j8 a) (qv 0)) (qv 1) (λ_ _=>rfl)) (ab (qv 2) ag))) (λ_=>rfl) Y Y Y)
  (av (kE gJ b (eU 4 (dJ a) (bI 0)) (qv 1) (w_add (bh (w_fld gJ (dJ a) (qv 0)) (qv 1) (λ_ _=>rfl)) (qv 2)))))))
abbrev bN:Stmt:=inClass (top 13) 0
def fi:p0 ["self", "book", "text"] ["self", "book"] (ah bN):=by constructor<;>first | rfl | decide +kernel
def bM(F:My K "__init__" "Machine.__init__" bN f i)(g:Mk K D f)(B:JU mg)(a:Jo K mg C D)(j:MtAt P w K mg base 1 (gX K C D) 1 "begin" Qk [] aV)(l:MtAt P w K mg base 5 (gX K C D) 1 "grow" Qj [L,L] aS)(m:InAt P w K mg base 2 (gX K C D) 0 0 "Nodes" Qk cZ) :
  InAt P w K mg base 6 (gX K C D) 1 1 "Machine" ["self", "book"] bB:=Cy F g a.LC fi Y Y (λ_ _ _ _ _ _ _ _ _ _ n X e d h=>by obtain⟨_,_,rfl⟩:=L2.ft h;exact PySem.W.binds_K X Y e d Y Y) λ_ _ _ _ _ _ _ b =>
  (af (lD 0 4 gJ (dJ a) (ff ag))
  (af (lD 0 5 gJ (j8 a) (ff ag))
  (af (lD 0 6 gJ (nB a) (Bo m.at b (by decide) Y Y))
  (av (cp (kx (qv 1)) (av (cY Yk Y (dA (qv 1)) (aX 2 fi.nd Y Q4 Q4)
  (av (rC (DB l.at b (by decide) Y Q4 Y Y (zw gJ j.at b (by decide) (bI 0) Y) (ab (qv 2) ag) Y Y Y) Y)))) bP)))))
abbrev fS:Stmt:=inClass (top 13) 3
def md:p0 Qk Qk (ah fS):=by constructor<;>first | rfl | decide +kernel
def b9{m:Me}(F:Ir K "book" "Machine.book" fS f e)(b:Meth K D "book" f)(B:JU mg)(a:Jo K mg C D) :
  MpAt P w K mg base 1 ((gX K C D).at m) 1 "book" Qk cV:=nO F b a.Ig (fz (by decide +kernel) (by decide +kernel)) md Y Y (λ_ _ _ _ _ _ g d=>by obtain⟨_,rfl⟩:=L2.jK d;rfl) λ_ _ _ _ _ _ h =>
  (av (bu (vd B.KD (ab (w_fld gJ (dJ a) (qv 0)) ag))))
abbrev eV:Stmt:=inClass (top 13) 4
def lR:p0 Qk Qk (ah eV):=by constructor<;>first | rfl | decide +kernel
def bT{m:Me}(F:Ir K "table" "Machine.table" eV f g)(d:Meth K D "table" f)(B:JU mg)(a:Jo K mg C D)(h:∀m,MpAt P w K mg base 2 ((gX K C D).at m) 0 "table" Qk dv) :
  MpAt P w K mg base 3 ((gX K C D).at m) 1 "table" Qk cB:=nO F d a.Ig (fz (by decide +kernel) (by decide +kernel)) lR Y Y (λ_ _ _ _ _ _ i e=>by obtain⟨_,rfl⟩:=L2.jK e;rfl) λ_ _ _ _ _ _ b =>
  (av (bu (g8 (h _) b (by decide) (w_fld gJ (nB a) (qv 0)) Y)))
abbrev gD:Stmt:=top 15
def ni:p0 Q9 Q9 (ah gD):=by constructor<;>first | rfl | decide +kernel
def bC{m:Me}(F:Ir K "_law_cell_at" "_law_cell_at" gD f d)(a:mg "_law_cell_at" = Z (.ref f))(B:JU mg)(h:Jo K mg C D) :
  FnAt P w K mg base 1 "_law_cell_at" Q9 ((gX K C D).at m) bq:=iH F a ni Y Y (λ_ _ _ _ _ _ e b=>by obtain⟨_,_,rfl⟩:=L2.ft b;rfl) λ_ _ _ _ _ _ g =>
  (af (cp (fX uq zA kA (qv 1) (fh B.ID (ab (qv 0) ag)) (ig _)) (av (bu (bh (qv 0) (qv 1) (λ_ _=>rfl)))) bP)
  (av (bu au)))
abbrev i5:Stmt:=top 16
def iB:p0 ["_law_cell", "_law_k", "_law_number"] Q6 (ah i5):=by constructor<;>first | rfl | decide +kernel
def eI{m:Me}(F:Ir K "_law_mixed" "_law_mixed" i5 f d)(a:mg "_law_mixed" = Z (.ref f))(B:JU mg)(h:Jo K mg C D) :
  FnAt P w K mg base 1 "_law_mixed" Q6 ((gX K C D).at m) eR:=iH F a iB Y Y (λ_ _ _ _ _ _ e b=>by obtain⟨_,_,rfl⟩:=L2.ft b;rfl) λ_ _ _ _ _ _ g =>
  (af (aF (w_mod (w_add (w_add (w_mod (qv 0) au) (iQ mW n9 au (qv 1))) au) au) iB.nd Y Q4)
  (af (aF (w_add (w_mod (iQ mW n9 (qv 2) (qv 2)) au) (iQ mW n9 au (qv 1))) iB.nd Y Q4)
  (av (bu (w_mod (iQ mW n9 (qv 2) (qv 2)) au)))))
abbrev jM:Stmt:=top 17
def cN:p0 ["_law_script", "_law_letters", "_law_most", "_law_j", "_law_cell", "_law_size", "_law_signs", "_law_k"] Qa (ah jM):=by constructor<;>first | rfl | decide +kernel
def fQ{m:Me}(F:Ir K "_law_text" "_law_text" jM f g)(d:mg "_law_text" = Z (.ref f))(B:JU mg)(j:Jo K mg C D)(b:∀m,FnAt P w K mg base 1 "_law_cell_at" Q9 ((gX K C D).at m) bq)(h:∀m,FnAt P w K mg base 1 "_law_mixed" Q6 ((gX K C D).at m) eR) :
  FnAt P w K mg base 2 "_law_text" Qa ((gX K C D).at m) dC:=iH F d cN Y Y (λ_ _ _ _ _ _ i e=>by obtain⟨_,_,_,_,rfl⟩:=L2.G2 e;rfl) λ_ _ _ _ _ _ a =>
  (af (aF (dj (b _) a (ab (qv 0) (ab (w_add au (qv 3)) ag)) (by decide) Y Y) cN.nd Y Q4)
  (af (aF (w_mod (qv 4) (w_add (qv 2) au)) cN.nd Y Q4)
  (af (aF (ir (qv 4) (w_add (qv 2) au)) cN.nd Y Q4)
  (af (dM (ff ag) cN.nd Y Q4)
  (af (cY Yk Y (ic (qv 5) Y B.J1) (aX 7 cN.nd Y Q4 Q4)
  (av (cp (tf a (w_mod (dj (b _) a (ab (qv 0) (ab au ag)) (by decide) Y Y) au) au) (af (gT 6 (ab (bh (qv 1) (w_mod (qv 4) (fh B.ID (ab (qv 1) ag))) (λ_ _=>rfl)) ag) Y Y Q4 Y Y)
  (av (aF (ir (qv 4) (fh B.ID (ab (qv 1) ag))) cN.nd Y Q4))) (av (gT 6 (ab (bh (qv 1) (w_mod (ir (dj (h _) a (ab (qv 4) (ab (w_add (iQ mW n9 au (qv 3)) (qv 7)) ag)) (by decide) Y Y) au) (fh B.ID (ab (qv 1) ag))) (λ_ _=>rfl)) ag) Y Y Q4 Y Y)))))
  (jC 6 (av (bu (CH (d6 (by decide +kernel) (by decide)) (ab (qv 6) ag))))))))))
abbrev jL:Stmt:=top 18
def cL:p0 ["_law_script", "_law_cell", "_law_letters", "_law_count", "_law_most"] Qb (ah jL):=by constructor<;>first | rfl | decide +kernel
def fN{m:Me}(F:Ir K "_law_book" "_law_book" jL f e)(b:mg "_law_book" = Z (.ref f))(B:JU mg)(j:Jo K mg C D)(h:∀m,FnAt P w K mg base 1 "_law_cell_at" Q9 ((gX K C D).at m) bq)(g:∀m,FnAt P w K mg base 2 "_law_text" Qa ((gX K C D).at m) dC) :
  FnAt P w K mg base 3 "_law_book" Qb ((gX K C D).at m) ip:=iH F b cL Y Y (λ_ _ _ _ _ _ i d=>by obtain⟨_,rfl⟩:=L2.jK d;rfl) λ_ _ _ _ _ _ a =>
  (af (aF (dj (h _) a (ab (bH 0 Y (Or.inr Q4) Y Y) (ab au ag)) (by decide) Y Y) cL.nd Y Q4)
  (af (aF (bh (ff (ab (d6 (by decide +kernel) (by decide)) (ab (d6 (by decide +kernel) (by decide)) (ab (d6 (by decide +kernel) (by decide)) (ab (d6 (by decide +kernel) (by decide)) (ab (d6 (by decide +kernel) (by decide)) (ab (d6 (by decide +kernel) (by decide)) ag))))))) (w_mod (ir (qv 1) au) au) (λ_ _=>rfl)) cL.nd Y (Or.inr Y))
  (af (aF (bh (ff (ab au (ab au (ab au (ab au (ab au (ab au (ab au (ab au ag))))))))) (w_mod (ir (qv 1) au) au) (λ_ _=>rfl)) cL.nd Y Q4)
  (af (aF (bh (ff (ab au (ab au (ab au (ab au ag))))) (iQ uu uF (DA B.Rm (ab (qv 3) (ab au ag))) au) (λ_ _=>rfl)) cL.nd Y (Or.inr Y))
  (af (cp (tf a (w_mod (ir (qv 1) au) au) au) (av (aF (ir (bh (ff (ab au (ab au ag))) (w_mod (ir (qv 1) au) au) (λ_ _=>rfl)) (Fz B.Rn (ab au (ab (qv 3) ag)))) cL.nd Y (Or.inr Y))) bP)
  (af (cp (Lq.Nh (mK (tf a (qv 3) au) (mM (rP a (w_mod (ir (qv 1) au) au) au)))) (av (aF au cL.nd Y (Or.inr Y))) bP)
  (av (bu (mH 1 Q7 Y (ic (qv 3) Y B.J1) (jz) (λ_ _ _ _ _=>(aX 0 (show List.Nodup Q7 from by decide +kernel) Y Q4 (Or.inr Y))) (λ_ _ _ _ _=>(dj (g _) a (ab (bH 1 Y (Or.inr Q4) Y Y) (ab (bH 3 Y (Or.inr Q4) Y Y) (ab (bH 5 Y (Or.inr Q4) Y Y) (ab (qv 0) ag)))) (by decide) Y Y)) Y Y (by decide))))))))))
abbrev iS:Stmt:=top 19
def c6:p0 ["_law_book_here", "_law_known_here", "_law_number", "_law_text_here", "_law_end", "_law_start"] Q5 (ah iS):=by constructor<;>first | rfl | decide +kernel
def eJ{m:Me}(F:Ir K "_law_known" "_law_known" iS f d)(a:mg "_law_known" = Z (.ref f))(B:JU mg)(h:Jo K mg C D) :
  FnAt P w K mg base 1 "_law_known" Q5 ((gX K C D).at m) gv:=iH F a c6 Y Y (λ_ _ _ _ _ _ e b=>by obtain⟨_,rfl⟩:=L2.jK b;rfl) λ_ _ _ _ _ _ g =>
  (af (dM (BN (by decide +kernel) (by decide)) c6.nd Y Q4)
  (af (cY Yk Y (sF (qv 0) Y B.JX) (uL Y (jy (aX 2 c6.nd Y Q4 Q4) (jy (aX 3 c6.nd Y Q4 Q4) rR)))
  (av (cY Yk Y (ic (w_add (fh B.ID (ab (qv 3) ag)) au) Y B.J1) (aX 4 c6.nd Y Q4 Q4)
  (av (cY Yk Y (ic (w_add (qv 4) au) Y B.J1) (aX 5 c6.nd Y Q4 Q4)
  (av (xy gJ 1 (sN (qv 3) (n8 (qv 5)) (n8 (qv 4)) Y) (ab (iR (ab (qv 2) (ab (qv 4) ag))) ag)  rfl Y Q4 Y Y Y Y Y Y Y Y Y Y Y Y Y Y)))))))
  (av (fJ 1 Y (Or.inl Y) Y Y))))
abbrev jb:Stmt:=top 20
def qo:p0 ["_law_word"] ["_law_word"] (ah jb):=by constructor<;>first | rfl | decide +kernel
def eD{m:Me}(F:Ir K "_law_order" "_law_order" jb f d)(a:mg "_law_order" = Z (.ref f))(B:JU mg)(h:Jo K mg C D) :
  FnAt P w K mg base 1 "_law_order" ["_law_word"] ((gX K C D).at m) gp:=iH F a qo Y Y (λ_ _ _ _ _ _ e b=>by obtain⟨_,rfl⟩:=L2.jK b;rfl) λ_ _ _ _ _ _ g =>
  (av (bu (iR (ab (fh B.ID (ab (qv 0) ag)) (ab (qv 0) ag)))))
abbrev lz:Stmt:=top 21
def aZ:p0 ["_law_book_here", "_law_known_here", "_law_groups", "_law_word", "_law_mark", "_law_stands", "_law_number", "_law_k", "_law_some", "_law_rows", "_law_link", "_law_signs"] Q5 (ah lz):=by constructor<;>first | rfl | decide +kernel
def g9{m:Me}(F:Ir K "_law_due" "_law_due" lz f e)(b:mg "_law_due" = Z (.ref f))(B:JU mg)(l:Jo K mg C D)(g:∀m,FnAt P w K mg base 1 "_law_known" Q5 ((gX K C D).at m) gv)(i:∀m,FnAt P w K mg base 1 "_law_order" ["_law_word"] ((gX K C D).at m) gp) :
  FnAt P w K mg base 4 "_law_due" Q5 ((gX K C D).at m) jv:=iH F b aZ Y Y (λ_ _ _ _ _ _ j d=>by obtain⟨_,rfl⟩:=L2.jK d;rfl) λ_ _ _ _ _ _ a =>
  (af (aF (dj (g _) a (ab (qv 0) ag) (by decide) Y Y) aZ.nd Y (Or.inr Y))
  (af (dM BE aZ.nd Y (Or.inr Y))
  (af (cY Yk Y (dA (wm (i _) (by decide) pH a B.J7 (ab (bH 1 Y (Or.inr Q4) Y Y) ag) Y Y Y Y Y Y)) (aX 3 aZ.nd Y Q4 Q4)
  (af (aF (iR (ab (qb B.Jl (ab (sA a (bH 1 Y (Or.inr Q4) Y Y) (qv 3) (λ_ _=>rfl)) ag)) (ab (uC (qE a.units) uV (qv 3) (d6 (by decide +kernel) (by decide)) (ig _)) ag))) aZ.nd Y Q4)
  (av (xf 2 a (qv 4) (ab (qv 3) ag)  rfl Y (Or.inr Q4) Y Y Y Y Y Y Y Y Y Y Y Y Y Y))))
  (af (wB 5 2 Q8 a Y Y (Or.inr Q4) Y Y (λ_ _ _ _ _=>⟨L2.uY (show List.Nodup Q8 from by decide +kernel) Y Q4 (Or.inr Y),L2.dk Y (Or.inr Q4) Y Y,L2.dk Y Q4 Y Y,rfl⟩) (λ_ _=>rfl) Y Y (by decide) (λ_=>rfl) aZ.nd Y Q4 Y Q4)
  (af (dM tY aZ.nd Y (Or.inr Y))
  (af (cY Yk Y (sF (qv 5) Y B.JX) (uL Y (jy (aX 7 aZ.nd Y Q4 Q4) (jy (aX 8 aZ.nd Y (Or.inr Y) Q4) rR)))
  (av (cY Yk Y (dA (bH 8 Y (Or.inr Q4) Y Y)) (aX 3 aZ.nd Y Q4 Q4)
  (av (z6 6 a (qv 3) (qv 7) Y (Or.inr Q4) Y Y (λ_=>rfl) Y Y Y)))))
  (jC 6 (af (dM (ff ag) aZ.nd Y Q4)
  (af (cY Yk Y (dA (qv 5)) (aX 8 aZ.nd Y (Or.inr Y) Q4)
  (af (aF tN aZ.nd Y Q4)
  (af (cp (rP a (bh (bH 8 Y (Or.inr Q4) Y Y) au (λ_ _=>rfl)) (d6 (by decide +kernel) (by decide))) (av (aF (sA a (bH 6 Y (Or.inr Q4) Y Y) (sN (bh (bH 8 Y (Or.inr Q4) Y Y) au (λ_ _=>rfl)) (n8 au) ze Y) (λ_ _=>rfl)) aZ.nd Y Q4)) bP)
  (af (ug 1 Qc (λ_ _ _ h=>BZ h) Y (dA (d6 (by decide +kernel) (by decide))) (jz) (λ_ _ _ _ _=>(aX 0 (show List.Nodup Qc from by decide +kernel) Y Q4 (Or.inr Y))) (λ_ _ _ _ _=>(CT a (w_add (bh (bH 9 Y (Or.inr Q4) Y Y) au (λ_ _=>rfl)) (qv 0)) (bH 2 Y (Or.inr Q4) Y Y) (by with_unfolding_all rfl) Y)) (λ_ _ _ _ _=>(qv 0)) aZ.nd Y Q4 Y Y (by decide))
  (av (gT 9 (ab (iR (ab (fh B.ID (ab (bh (bH 8 Y (Or.inr Q4) Y Y) au (λ_ _=>rfl)) ag)) (ab (fh B.ID (ab (bh (bH 8 Y (Or.inr Q4) Y Y) GA (λ_ _=>rfl)) ag)) (ab (qv 10) (ab (qb B.Jl (ab (mH 1 Qc Y (dA (qv 11)) (jz) (λ_ _ _ _ _=>(aX 0 (show List.Nodup Qc from by decide +kernel) Y Q4 (Or.inr Y))) (λ_ _ _ _ _=>(iR (ab (qv 0) (ab (sA a (bH 7 Y (Or.inr Q4) Y Y) (w_add (bh (bH 9 Y (Or.inr Q4) Y Y) au (λ_ _=>rfl)) (qv 0)) (λ_ _=>rfl)) ag)))) Y Y (by decide)) ag)) ag))))) ag) Y Y Q4 Y Y))))))
  (av (fJ 9 Y (Or.inl Y) Y Y)))))))))))
abbrev iZ:Stmt:=top 22
def qC:p0 ["_law_got"] ["_law_got"] (ah iZ):=by constructor<;>first | rfl | decide +kernel
def cn{m:Me}(F:Ir K "_law_whole" "_law_whole" iZ f d)(a:mg "_law_whole" = Z (.ref f))(B:JU mg)(h:Jo K mg C D) :
  FnAt P w K mg base 1 "_law_whole" ["_law_got"] ((gX K C D).at m) dE:=iH F a qC Y Y (λ_ _ _ _ _ _ e b=>by obtain⟨_,rfl⟩:=L2.jK b;rfl) λ_ _ _ _ _ _ g =>
  (av (bu (tH (w_is .int B.DP B.Ol (qv 0)) (tK (xG (w_is .bool B.DP B.Nd (qv 0)))))))
abbrev iV:Stmt:=top 23
def iA:p0 ["_law_table", "_law_row", "_law_way"] ["_law_table"] (ah iV):=by constructor<;>first | rfl | decide +kernel
def eG{m:Me}(F:Ir K "_law_kinds" "_law_kinds" iV f g)(d:mg "_law_kinds" = Z (.ref f))(B:JU mg)(i:Jo K mg C D)(b:∀m,FnAt P w K mg base 1 "_law_whole" ["_law_got"] ((gX K C D).at m) dE) :
  FnAt P w K mg base 2 "_law_kinds" ["_law_table"] ((gX K C D).at m) gn:=iH F d iA Y Y (λ_ _ _ _ _ _ h e=>by obtain⟨_,rfl⟩:=L2.jK e;rfl) λ_ _ _ _ _ _ a =>
  (af (cY Yk Y (dA (qv 0)) (aX 1 iA.nd Y Q4 Q4)
  (af (cp (Lq.Nh (gI (c8 (dw (w_is .tuple B.DP B.Jl (qv 1)))) (gI (c8 (dw (dj (b _) a (ab (bh (qv 1) au (λ_ _=>rfl)) ag) (by decide) Y Y))) (lH (c8 (dw (dj (b _) a (ab (bh (qv 1) au (λ_ _=>rfl)) ag) (by decide) Y Y))))))) (av (bu pq)) bP)
  (af (cp (Lq.Nh (gI (Lq.Nh (mK (kx (bh (qv 1) au (λ_ _=>rfl))) (mM (c8 (dw (dj (b _) a (ab (bh (qv 1) au (λ_ _=>rfl)) ag) (by decide) Y Y)))))) (lH (c8 (dw (w_is .tuple B.DP B.Jl (bh (qv 1) au (λ_ _=>rfl)))))))) (av (bu pq)) bP)
  (av (cY Yk Y (dA (bh (qv 1) au (λ_ _=>rfl))) (aX 2 iA.nd Y Q4 Q4)
  (av (cp (Lq.Nh (gI (c8 (dw (w_is .tuple B.DP B.Jl (qv 2)))) (gI (c8 (dw (w_is .str B.DP B.Rl (bh (qv 2) au (λ_ _=>rfl))))) (lH (c8 (dw (dj (b _) a (ab (bh (qv 2) au (λ_ _=>rfl)) ag) (by decide) Y Y))))))) (av (bu pq)) bP)))))))
  (av (bu pq)))
abbrev j3:Stmt:=top 24
def jS:p0 ["_law_script", "_law_book_here", "_law_handed", "_law_machine", "_law_due_here", "_law_got", "_law_told"] Qb (ah j3):=by constructor<;>first | rfl | decide +kernel
def EH{m:Me}(F:Ir K "law" "law" j3 f b)(B:JU mg)(l:Jo K mg C D)(j:InAt P w K mg base 6 (gX K C D) 1 1 "Machine" ["self", "book"] bB)(e:∀m,MpAt P w K mg base 1 ((gX K C D).at m) 1 "book" Qk cV)(d:∀m,MpAt P w K mg base 3 ((gX K C D).at m) 1 "table" Qk cB)(h:∀m,FnAt P w K mg base 3 "_law_book" Qb ((gX K C D).at m) ip)(g:∀m,FnAt P w K mg base 4 "_law_due" Q5 ((gX K C D).at m) jv)(i:∀m,FnAt P w K mg base 2 "_law_kinds" ["_law_table"] ((gX K C D).at m) gn) :
  FnOk P w K mg base Jb 8 f b Qb (KI ((gX K C D).at m) zz):=T2 F jS Y Y λ_ _ _ _ _ _ a =>
  (af (aF (dj (h _) a (ab (qv 0) ag) (by decide) Y Y) jS.nd Y Q4)
  (af (dM (vd B.KD (ab (qv 1) ag)) jS.nd Y Q4)
  (af (aF (EO j.at a (by decide) (ab (qv 2) ag) GK Y Y Y Y) jS.nd Y Q4)
  (af (aF (dj (g _) a (ab (qv 1) ag) (by decide) Y Y) jS.nd Y Q4)
  (af (dM (g8 (d _) a (by decide) (qv 3) Y) jS.nd Y Q4)
  (af (cp (Lq.Nh (gI (c8 (dw (w_is .list B.DP B.KD (qv 5)))) (gI (rP a (qv 5) (qv 4)) (gI (c8 (dw (dj (i _) a (ab (qv 5) ag) (by decide) Y Y))) (lH (rP a (qv 2) (qv 1))))))) (av (bu pq)) bP)
  (af (Au 5 Y (Or.inl Y) Y Y Y Y Y)
  (jC 5 (af (gT 2 (ab (d6 (by decide +kernel) (by decide)) ag) Y Y Q4 Y Y)
  (jC 2 (af (dM (g8 (e _) a (by decide) (qv 3) Y) jS.nd Y Q4)
  (af (cp (Lq.Nh (gI (c8 (dw (w_is .list B.DP B.KD (qv 6)))) (lH (rP a (qv 6) (qv 1))))) (av (bu pq)) bP)
  (af (gT 6 (ab (d6 (by decide +kernel) (by decide)) ag) Y Y Q4 Y Y)
  (jC 6 (av (bu (tH (uC (qE a.units) uV (g8 (d _) a (by decide) (qv 3) Y) (qv 4) (ig _)) (tK (uC (qE a.units) uV (g8 (e _) a (by decide) (qv 3) Y) (qv 1) (ig _))))))))))))))))))))
end
abbrev gN(K:Ww)(x:Str)(f:KM):Prop:=PySem.W.nsIn K mainGlobals x=Z (Z (.ref f))
abbrev gZ(K:Ww)(x:Str):Prop:=PySem.W.nsIn K mainGlobals x=Z J
def all_mk{l:PySem.W.OpenLaw}{K:Ww}(X:K.In h)(G:h.Ns mainGlobals b)(Q:b "law" = Z (.ref fa))(Tp:∀ns:Ur,zz [.scr ns]=Z (.fr,.bl true))(a0:Meth K C "new_node" f0)(F0:Ir K "new_node" "Nodes.new_node" d3 f0 fd0)(a1:Mk K C f1)(F1:Ir K "__init__" "Nodes.__init__" ed f1 fd1)(a2:Meth K C "node_just_behind" f2)(F2:Ir K "node_just_behind" "Nodes.node_just_behind" bW f2 fd2)(a3:Meth K C "head_behind" f3)(F3:Ir K "head_behind" "Nodes.head_behind" df f3 fd3)(a4:Meth K C "head_grown" f4)(F4:Ir K "head_grown" "Nodes.head_grown" dB f4 fd4)(a5:Meth K C "numbers_by_node" f5)(F5:Ir K "numbers_by_node" "Nodes.numbers_by_node" bY f5 fd5)(a6:Meth K C "row_of" f6)(F6:Ir K "row_of" "Nodes.row_of" fB f6 fd6)(a7:Meth K C "table" f7)(F7:Ir K "table" "Nodes.table" gG f7 U)(a8:Meth K D "begin" f8)(F8:Ir K "begin" "Machine.begin" fg f8 S)(a9:gN K "is_whole" f9)(F9:Ir K "is_whole" "is_whole" jU f9 R)(a10:gN K "refuse_no_text" z)(F10:Ir K "refuse_no_text" "refuse_no_text" d7 z Uh)(a11:gN K "signs_in" y)(F11:Ir K "signs_in" "signs_in" jR y Ug)(a12:Meth K D "grow" x)(F12:Ir K "grow" "Machine.grow" fO x Ue)(a13:Mk K D Uk)(N:K.lookup Uk=Z ⟨SN,SK,.func (PySem.W.fnOf "__init__" "Machine.__init__" (cK bN) (aY bN) (ah bN) (.ref A) S8 UI Sy UN Rh UJ),Sr⟩)(c13:PySem.W.codeIn K Rh "Machine.__init__" = true)(P:PySem.W.keepIn K (.ref Uk)=true)(H:K.lookup A=Z Qp)(E:Qp.data=.seq #[.none] SU)(a14:Meth K D "book" u)(F14:Ir K "book" "Machine.book" fS u Ud)(a15:Meth K D "table" t)(F15:Ir K "table" "Machine.table" eV t Uc)(a16:gN K "_law_cell_at" r)(F16:Ir K "_law_cell_at" "_law_cell_at" gD r Ub)(a17:gN K "_law_mixed" q)(F17:Ir K "_law_mixed" "_law_mixed" i5 q Ua)(a18:gN K "_law_text" p)(F18:Ir K "_law_text" "_law_text" jM p T9)(a19:gN K "_law_book" o)(F19:Ir K "_law_book" "_law_book" jL o T8)(a20:gN K "_law_known" n)(F20:Ir K "_law_known" "_law_known" iS n T7)(a21:gN K "_law_order" j)(F21:Ir K "_law_order" "_law_order" jb j T6)(a22:gN K "_law_due" i)(F22:Ir K "_law_due" "_law_due" lz i T5)(a23:gN K "_law_whole" g)(F23:Ir K "_law_whole" "_law_whole" iZ g T4)(a24:gN K "_law_kinds" f)(F24:Ir K "_law_kinds" "_law_kinds" iV f T3)(a25:gN K "law" Ui)(M:K.lookup Ui=Z ⟨SM,SJ,.func (PySem.W.fnOf "law" "law" (cK j3) (aY j3) (ah j3) .none Qz Rc Qn Rr Pb Rf),Sq⟩)(c25:PySem.W.codeIn K Pb "law" = true)(O:PySem.W.keepIn K (.ref Ui)=true)(Ou:gZ K "bool")(Ot:gZ K "dict")(KW:gZ K "enumerate")(PR:gZ K "int")(Kk:gZ K "isinstance")(PQ:gZ K "len")(Os:gZ K "list")(PN:gZ K "max")(PM:gZ K "min")(Nw:gZ K "range")(MO:gZ K "sorted")(PL:gZ K "str")(PJ:gZ K "sum")(Nv:gZ K "tuple")(Km:PySem.W.nsIn K mainGlobals "MOST_SIGNS" = Z (Z (.int 120 Kq)))(Kl:PySem.W.nsIn K mainGlobals "MOST_TEXTS" = Z (Z (.int 8 Kp)))(w_Nodes:gN K "Nodes" C)(Ii:JT K C)(IQ:aR K C "longs")(IS:aR K C "links")(IZ:aR K C "ways")(IM:aR K C "texts")(IT:aR K C "heads")(IP:aR K C "nodes")(w_Machine:gN K "Machine" D)(Ig:JT K D)(IA:aR K D "longs")(IB:aR K D "links")(IG:aR K D "ways")(Iy:aR K D "texts")(IC:aR K D "heads")(Iz:aR K D "nodes")
  : ∃fd:P3,(∀(s:IR)(v:On),BindsTo s fd ⟨[v],[]⟩ [("_law_script",v)])/\∀base:UV,K.In base->base.Ns mainGlobals b->FnOk l.prog w K b base Jb 8 fa fd Qb (KI (TZ K) BA):=by
 have e:=Q.symm.trans (Yf X G a25);cases e;have B:JU b:=⟨Yn X G Ou,Yn X G Ot,Yn X G KW,Yn X G PR,Yn X G Kk,Yn X G PQ,Yn X G Os,Yn X G PN,Yn X G PM,Yn X G Nw,Yn X G MO,Yn X G PL,Yn X G PJ,Yn X G Nv,⟨_,Yf X G Km⟩,⟨_,Yf X G Kl⟩⟩
 have a:Jo K b C D:=⟨Ii,Yf X G w_Nodes,IQ,IS,IZ,IM,IT,IP,Ig,Yf X G w_Machine,IA,IB,IG,Iy,IC,Iz⟩
 refine⟨PySem.W.fnOf "law" "law" (cK j3) (aY j3) (ah j3) .none Qz Rc Qn Rr Pb Rf,λs v=>.of_eq Y,λbase _ _=>?_⟩;have aJ:=aJ l.prog w base F0 a0 B a;have b6:=b6 l.prog w base F1 a1 B a aJ;have aP:=aP l.prog w base F2 a2 B a aJ;have bE:=bE l.prog w base F3 a3 B a aJ aP;have bO:=bO l.prog w base F4 a4 B a bE;have ba:=λm=>ba (m:=m) l.prog w base F5 a5 B a;have cQ:=λm=>cQ (m:=m) l.prog w base F6 a6 B a;have dr:=λm=>dr (m:=m) l.prog w base F7 a7 B a ba cQ;have cy:=cy l.prog w base F8 a8 B a;have fF:=λm=>fF (m:=m) l.prog w base F9 (Yf X G a9) B a;have cj:=λm=>cj (m:=m) l.prog w base F10 (Yf X G a10) B a fF;have fE:=λm=>fE (m:=m) l.prog w base F11 (Yf X G a11) B a;have cP:=cP l.prog w base F12 a12 B a bO cj fE;have bM:=bM l.prog w base ⟨⟨_,_,_,_,_,_,_,_,_,_,_,_,rfl,N,c13,H,E⟩,P⟩ a13 B a cy cP b6;have b9:=λm=>b9 (m:=m) l.prog w base F14 a14 B a;have bT:=λm=>bT (m:=m) l.prog w base F15 a15 B a dr;have bC:=λm=>bC (m:=m) l.prog w base F16 (Yf X G a16) B a;have eI:=λm=>eI (m:=m) l.prog w base F17 (Yf X G a17) B a;have fQ:=λm=>fQ (m:=m) l.prog w base F18 (Yf X G a18) B a bC eI;have fN:=λm=>fN (m:=m) l.prog w base F19 (Yf X G a19) B a bC fQ;have eJ:=λm=>eJ (m:=m) l.prog w base F20 (Yf X G a20) B a;have eD:=λm=>eD (m:=m) l.prog w base F21 (Yf X G a21) B a;have g9:=λm=>g9 (m:=m) l.prog w base F22 (Yf X G a22) B a eJ eD;have cn:=λm=>cn (m:=m) l.prog w base F23 (Yf X G a23) B a;have eG:=λm=>eG (m:=m) l.prog w base F24 (Yf X G a24) B a cn;exact Bd Y (EH l.prog w base (m:=λ_=>J) (xu (st:=j3) M c25 O) B a bM b9 bT fN g9 eG) Tp
end T06
open PySem PySem.W PyProof.Rows PySem.W.X PySem.W.ZRun
set_option maxRecDepth 100000 in
set_option maxHeartbeats 0 in
theorem PySem.Challenge.cw_allparts_k06_tables_told_holds : PySem.Challenge.rw_allparts_k06_tables_told.Holds := by
 w_on;o_law;z_head;(case hw=>w_witness2)
 k_fill
 intro w s₀ s₁ mg mb G y fa o pm cd doc dV kV ho hd hcd hD hmg hg args vals as L hpre hlay hrd hwl hlo
 z_open y L KX ZH ZN ZT
 clear ZH ZN ZT;refine VS.xE (l:=PySem.Challenge.rw_allparts_k06_tables_told) (k:=8) (x := "_law_script") (g:=VS.BA) rfl rfl ⟨rfl,by decide,by decide⟩ (fun _=>rfl) ?F w s₀ s₁ mg mb G KX fa o pm cd doc dV kV ho hd hcd hD hmg hg args vals as hpre hlay hrd hwl hlo
 case F =>
  intro w mg fa h KX G hmg;apply T06.all_mk KX G hmg T06.yt
  (case w_Nodes=>unfold T06.gN;k_is)
  (case w_Machine=>unfold T06.gN;k_is)
  all_goals first | (refine' L2.xu ?l ?c ?k;(case l=>k_is);(case c=>k_is);(case k=>k_is)) | (refine' ⟨?l,?c,?k⟩;(case l=>k_is);(case c=>k_is);(case k=>k_is)) | (refine' ⟨?l,?c,?k,?d⟩;(case l=>k_is);(case c=>k_is);(case k=>k_is);(case d=>k_is)) | (unfold T06.gN;k_is) | (unfold T06.gZ;k_is) | (unfold L2.aR;k_is) | k_is | exact rfl | kernel_rfl
end
