import PyProof.Rows.All
import Wide.All
import OpenK.AllK
import Wide.FinOn
import Lean
import PyProof.EqAt
import PyProof.EqKinds
import PyProof.TupleCall
import PyProof.Rows.SortShellK
import PyProof.Rows.SortStr
import PyProof.Rows.SortWalk
import PyProof.StrBlockH
import PyProof.StrLawsIn
import PyProof.Rows.SetFrom
import PyProof.CollectWalk
import KE.KDictSum
import PyProof.ListStr
import PyProof.SeqI3
import PyProof.Rows.CallKwBuiltin
import PyProof.ListRange
import PyProof.AttrMissSeq
import PyProof.DictUpdate
import PyProof.DictList
import PyProof.ListNew
import PyProof.FactsAll.dict_1
import PyProof.SliceList
import PyProof.WalkInts
import PyProof.StationsW
import OpenK.KOwn
import KE.KTryMore
import PyProof.NsDelKeeps
import PyProof.ExcArgsOwn
import PyProof.ExcAttrAll.Exception
import OpenK.KDescr
import KE.KIsAll
import PyProof.ExcBaseAll.ValueError
import PyProof.StrBlock
import PyProof.StrCalls
import PyProof.StrLawsOccR
import KE.KDictOf
import PyProof.Rows.Range3
import PyProof.Rows.ZipForRows
import PyProof.Draws
import KE.KLam
import PySem.Challenge.RW_allparts_k12_whole_other_letters
set_option linter.all false
set_option bootstrap.genMatcherCode false
set_option genSizeOf false
noncomputable section
namespace PySem.W.Fast
def tw11156756285716902437:True:=⟨⟩
def tw14947803598423510175:True:=⟨⟩
def tw1528855293255253228:True:=⟨⟩
def tw8017165418791111792:True:=⟨⟩
def tw11439353786190011212:True:=⟨⟩
def tw17526054488742255076:True:=⟨⟩
def tw7101599404256416527:True:=⟨⟩
def tw5954244391277160299:True:=⟨⟩
def tw3769020095800867110:True:=⟨⟩
def tw13369280207141357160:True:=⟨⟩
def tw1797284781016900859:True:=⟨⟩
def tw3785221047802392601:True:=⟨⟩
def tw5529966740975078462:True:=⟨⟩
def tw1357095387280307833:True:=⟨⟩
def tw12079837051083908139:True:=⟨⟩
def tw2695979249630438705:True:=⟨⟩
def tw6885469876949260521:True:=⟨⟩
def tw17330421166620766770:True:=⟨⟩
def tw10900401633262883609:True:=⟨⟩
def tw7155024974230838526:True:=⟨⟩
def tw6444750705179843870:True:=⟨⟩
def tw10848546315968765042:True:=⟨⟩
def tw4734529178987788481:True:=⟨⟩
def tw5480472385531755064:True:=⟨⟩
def tw9470929176620019336:True:=⟨⟩
def tw5387079018042525193:True:=⟨⟩
def tw17454111414448013525:True:=⟨⟩
def tw3780043584449275891:True:=⟨⟩
def tw3241092803209393783:True:=⟨⟩
def tw13815676913136976093:True:=⟨⟩
def tw14207020059600205343:True:=⟨⟩
def tw2438995209891333135:True:=⟨⟩
def tw3511820226983407461:True:=⟨⟩
def tw2561977819386121512:True:=⟨⟩
def tw9659643411785699016:True:=⟨⟩
def tw1024958622968227281:True:=⟨⟩
def tw2295876521173997302:True:=⟨⟩
def tw10022416735204917544:True:=⟨⟩
def tw7691379606294195550:True:=⟨⟩
def tw5005870259702692888:True:=⟨⟩
def tw4041663814596666231:True:=⟨⟩
def tw4532653003629925410:True:=⟨⟩
def tw17912734648390579934:True:=⟨⟩
def tw767069328545122350:True:=⟨⟩
def tw3753503445716457567:True:=⟨⟩
def tw11985469328022405930:True:=⟨⟩
def tw14718172276569780585:True:=⟨⟩
def tw4568211249585723986:True:=⟨⟩
def tw4954979774768160575:True:=⟨⟩
def tw17587402656543565448:True:=⟨⟩
def tw7052816701055929500:True:=⟨⟩
def tw11576755899578660416:True:=⟨⟩
def tw11706582554465347177:True:=⟨⟩
def tw193281847350514623:True:=⟨⟩
def tw3184894707793864322:True:=⟨⟩
def tw16824830140212972731:True:=⟨⟩
def tw4351490353714434355:True:=⟨⟩
def tw5997527413820123493:True:=⟨⟩
def tw4433656620428063750:True:=⟨⟩
def tw9955645583662236252:True:=⟨⟩
def tw905128093760048875:True:=⟨⟩
def tw5443367654698861445:True:=⟨⟩
def tw6455605076669449774:True:=⟨⟩
def tw1887968094338374143:True:=⟨⟩
def tw14928435531097518325:True:=⟨⟩
def tw7263642677521323002:True:=⟨⟩
def tw1508603062442747265:True:=⟨⟩
def tw1396633597858342069:True:=⟨⟩
def tw18392968761085514097:True:=⟨⟩
def tw10727536122271529459:True:=⟨⟩
def tw4045116332823941562:True:=⟨⟩
def tw122727114785136998:True:=⟨⟩
def tw2934855023230526456:True:=⟨⟩
def tw14630489007316670592:True:=⟨⟩
def tw13699957012920827750:True:=⟨⟩
def tw5269398834599471557:True:=⟨⟩
def tw11918772621622483547:True:=⟨⟩
def tw15625598216883208042:True:=⟨⟩
def tw10531436177564472478:True:=⟨⟩
def tw3854759548332470648:True:=⟨⟩
def tw9778159854901939526:True:=⟨⟩
def tw6561576742569360739:True:=⟨⟩
def tw16474367649968948798:True:=⟨⟩
def tw2671768889900042553:True:=⟨⟩
def tw16333476350329271568:True:=⟨⟩
def tw14049914133030459326:True:=⟨⟩
def tw11349659982289463197:True:=⟨⟩
def tw9788465009073425251:True:=⟨⟩
def tw809920768850426290:True:=⟨⟩
def tw18165714876267687768:True:=⟨⟩
def tw17506440275507296885:True:=⟨⟩
def tw5262499294749656775:True:=⟨⟩
def tw12213992808062431729:True:=⟨⟩
def tw15664563287577776203:True:=⟨⟩
def tw14701615282964966123:True:=⟨⟩
def tw4464369288777321701:True:=⟨⟩
def tw10938615373470691200:True:=⟨⟩
def tw9061304819316986462:True:=⟨⟩
def tw16053928254888518292:True:=⟨⟩
def tw14520620270454858092:True:=⟨⟩
def tw4880491263694358699:True:=⟨⟩
def tw6529812373605956321:True:=⟨⟩
def tw5902569730103407090:True:=⟨⟩
def tw5233672113889242889:True:=⟨⟩
def tw6340016517007241581:True:=⟨⟩
def tw14238595109139117072:True:=⟨⟩
def tw966946004022107614:True:=⟨⟩
def tw5576255321527694098:True:=⟨⟩
def tw11844861484528344487:True:=⟨⟩
def tw7545369467461857993:True:=⟨⟩
def tw3316841105346076137:True:=⟨⟩
def tw9743967774563135641:True:=⟨⟩
def tw7136916101522145332:True:=⟨⟩
def tw16816064032535913612:True:=⟨⟩
def tw3249856315391416331:True:=⟨⟩
def tw11816224117786436375:True:=⟨⟩
def tw3037313319967605244:True:=⟨⟩
def tw6550746861959913532:True:=⟨⟩
def tw16911832168234086169:True:=⟨⟩
def tw13434747132164060218:True:=⟨⟩
def tw8951796123957573749:True:=⟨⟩
def tw8052696698653359800:True:=⟨⟩
def tw4000970444235172355:True:=⟨⟩
def tw9867177582481099135:True:=⟨⟩
def tw6260316809091869240:True:=⟨⟩
def tw13097068214793897434:True:=⟨⟩
def tw4223781970789424779:True:=⟨⟩
def tw1429493821248143963:True:=⟨⟩
def tw12437512512553533389:True:=⟨⟩
def tw13240829180489549265:True:=⟨⟩
def tw15796066881964882183:True:=⟨⟩
def tw8973984377132750824:True:=⟨⟩
def tw903822701662710647:True:=⟨⟩
def tw8713144541280451274:True:=⟨⟩
def tw14639051274032688879:True:=⟨⟩
def tw15793746439077794795:True:=⟨⟩
def tw13837226386595048746:True:=⟨⟩
def tw613708246326781805:True:=⟨⟩
def tw3742367784631378296:True:=⟨⟩
def tw15388637963252042876:True:=⟨⟩
def tw16135674570089218979:True:=⟨⟩
def tw12967084863351934594:True:=⟨⟩
def tw10708318823780435395:True:=⟨⟩
def tw13631430986199238286:True:=⟨⟩
def tw13349046927359191226:True:=⟨⟩
def tw4888657924991354091:True:=⟨⟩
def tw9801513206043216016:True:=⟨⟩
def tw9628771527844039896:True:=⟨⟩
def tw16635646557460882554:True:=⟨⟩
def tw13702849580765748382:True:=⟨⟩
def tw11634853002956549956:True:=⟨⟩
def tw7114901020578785184:True:=⟨⟩
def tw6181851290416422805:True:=⟨⟩
def tw5645273368615832052:True:=⟨⟩
def tw3865016799033213349:True:=⟨⟩
def tw3363413673348539447:True:=⟨⟩
def tw3186376277978071625:True:=⟨⟩
def tw18365851369220893101:True:=⟨⟩
def tw18044765756011994090:True:=⟨⟩
def tw16096525593465416920:True:=⟨⟩
def tw15497116869413355880:True:=⟨⟩
def tw11622234867100982248:True:=⟨⟩
def tw11602074694091323428:True:=⟨⟩
def tw11407308823986723910:True:=⟨⟩
def tw7758738684509125321:True:=⟨⟩
def tw5215831740380557459:True:=⟨⟩
def tw2449973111589915588:True:=⟨⟩
def tw13508290665723489607:True:=⟨⟩
def tw10537497042807746354:True:=⟨⟩
def tw3353009590456357927:True:=⟨⟩
def tw9954542868006842778:True:=⟨⟩
def tw9881732147702274696:True:=⟨⟩
def tw9692126571310429004:True:=⟨⟩
def tw9006486312451049605:True:=⟨⟩
def tw884844739413003503:True:=⟨⟩
def tw8846576206610988678:True:=⟨⟩
def tw8530945273705182022:True:=⟨⟩
def tw8115984729173980714:True:=⟨⟩
def tw7472885293226207788:True:=⟨⟩
def tw7129402979054348027:True:=⟨⟩
def tw708191470068837395:True:=⟨⟩
def tw6963132649458773757:True:=⟨⟩
def tw6771837135543646118:True:=⟨⟩
def tw6679811172948641122:True:=⟨⟩
def tw664857281809670103:True:=⟨⟩
def tw6314682930634177017:True:=⟨⟩
def tw5760347363634640458:True:=⟨⟩
def tw5419843282351107314:True:=⟨⟩
def tw4732933990830392771:True:=⟨⟩
def tw4545280033919327974:True:=⟨⟩
def tw4444671141698532320:True:=⟨⟩
def tw4333441569284712861:True:=⟨⟩
def tw3657444890575810842:True:=⟨⟩
def tw346045325009725904:True:=⟨⟩
def tw3374884568927648796:True:=⟨⟩
def tw337363227684887348:True:=⟨⟩
def tw2994154533832462689:True:=⟨⟩
def tw2393906604868527141:True:=⟨⟩
def tw1925150511931462476:True:=⟨⟩
def tw17890743589704006943:True:=⟨⟩
def tw17589033772686324652:True:=⟨⟩
def tw17488158073769029158:True:=⟨⟩
def tw17465701496299629379:True:=⟨⟩
def tw17110653250805646610:True:=⟨⟩
def tw17056003185951291624:True:=⟨⟩
def tw16537069707309675343:True:=⟨⟩
def tw1651676221286504058:True:=⟨⟩
def tw16259486113127229772:True:=⟨⟩
def tw16141052740216313096:True:=⟨⟩
def tw15443579839907546567:True:=⟨⟩
def tw14535115745782744029:True:=⟨⟩
def tw14335304627584783942:True:=⟨⟩
def tw14017594527675272057:True:=⟨⟩
def tw12808517103357046937:True:=⟨⟩
def tw1259148593843087817:True:=⟨⟩
def tw12498881489169380901:True:=⟨⟩
def tw12441660580807581181:True:=⟨⟩
def tw12398374954219492599:True:=⟨⟩
def tw12388323595812072641:True:=⟨⟩
def tw11997632626446937177:True:=⟨⟩
def tw11437499168493301297:True:=⟨⟩
def tw11396314571219339396:True:=⟨⟩
def tw11379591407017120666:True:=⟨⟩
end PySem.W.Fast
open Option renaming some->Z, none->Y
open Bool renaming true->M, false->B
theorem q0(h:True:=by first | exact .inl L | exact .inr L | assumption):True:=h
theorem q1(h:True:=by decide):True:=h
theorem q2(h:True:=by rfl):True:=h
theorem q3(h:True:=by intro _;rfl):True:=h
theorem q4(h:True:=by with_unfolding_all rfl):True:=h
theorem q5(h:True:=by first | exact Or.inl L | exact Or.inr (Or.inl L) | exact Or.inr (Or.inr L)):True:=h
theorem q6(h:True:=by first | exact Or.inl L | exact Or.inr L):True:=h
theorem q7(h:True:=by exact rfl):True:=h
set_option hygiene false
local macro_rules|`({`q0,$x})=>`(autoParam $x q0._auto_1)|`({`q1,$x})=>`(autoParam $x q1._auto_1)|`({`q2,$x})=>`(autoParam $x q2._auto_1)|`({`q3,$x})=>`(autoParam $x q3._auto_1)|`({`q4,$x})=>`(autoParam $x q4._auto_1)|`({`q5,$x})=>`(autoParam $x q5._auto_1)|`({`q6,$x})=>`(autoParam $x q6._auto_1)|`({`q7,$x})=>`(autoParam $x q7._auto_1)
theorem L.{u}{α:Sort u}{a:α}:a=a:=rfl
open PySem renaming Shared->GM, model->IR, sizeLine->KB, Addr->KF, Value->KM, wpAny->On, starEach->Pi, FuncData->Pv, Program->P3, Around->Re, keywordEach->SB, compareOp->SC, Heap->SL, World->SZ, attributeBase->UF, foldedSetIterable->UV
open PyProof.Rows renaming Keyed->PP
set_option linter.all false
set_option maxRecDepth 100000
set_option Elab.async false
set_option maxHeartbeats 4000000
abbrev Z1:=PySem.Value->PySem.Shared->Prop
abbrev Yx:=List (PySem.Addr×PySem.Obj)
abbrev Xq:=List (List PySem.Addr)
abbrev X3:=PySem.W.Frag
abbrev Wu:=PySem.Str->Option PySem.Value
abbrev W6:=List PySem.Addr
abbrev Vx:=List PySem.Value
abbrev Vw:=Option PySem.Value
abbrev Vv:=List Nat
abbrev Vu:=List Int
abbrev Vt:=List (List (List Nat))
abbrev Zn:=@if_pos
abbrev Zm:=@if_neg
abbrev ZJ:=@beq_eq_false_iff_ne
abbrev ZG:=@decide_eq_false
open Option renaming bind_eq_some_iff->Zz,map_eq_some_iff->Zs,bind_some->Zp,getD_some->Yu,isSome_iff_exists->Yk,isSome_map->YJ
open PySem renaming wpAny_bind->Zy,wpAny_pure->Zr,wpAny_holding->Yp,wpAny_newObj_type->Yd,codeAny_builtin->YQ,wpAny_call_entry->YO,wpAny_mono->Y3,wpAny_Call_Name_kw->Y4,builtinLookup_eq_fast->Y9,wpAny_truthy_bool->Xy,wpAny_setState_of->Xw,wpAny_field->Xv,plainId_quiet->Xr,wpAny_setField->Xk,wpAny_callSpecial?_slot->Xj,sizeLine_eq->Xe,wpAny_setField_rec->Xb,tupleKind_room_in1->Xa,wpAny_passesOwn->XZ,mem_of_lookup->XQ,typeLookup_type->XA,wpAny_seqItems->X8,codeAny_mono->X9,wpAny_isInstance->Ww,wpAny_askSetting->Wv,wpAny_typeNameOfWhole_keyiter->Ws,wpAny_rule->Wm,sub_AttributeError->Wk,isSubtype_type->Wj,wpAny_pyIter_slot->Wb,fits_of_scanBound->Wa,wpAny_execs_nil->WK,wpAny_nextOf_list_end->WI,isSubtype_stop->WD
open List renaming length_map->Zx,getD_eq_getElem?_getD->Zv,mem_cons_self->Zu,mem_cons_of_mem->Zt,getElem?_eq_getElem->Zq,length_append->Zo,mem_cons->Zj,map_cons->Zi,mem_singleton->Zf,nodup_cons->Zd,getElem?_eq_some_iff->Zc,size_toArray->Zb,getElem?_map->ZZ,length_cons->ZX,mem_append->ZW,zip_cons_cons->ZV,mem_map->ZU,nodup_append->ZQ,mem_append_right->ZP,map_map->ZM,flatten_cons->ZI,map_append->ZF,append_nil->ZE,getElem?_eq_none->ZD,getElem?_append_left->ZA,find?_cons->Z0,length_range->Z3,append_assoc->Z4,all_eq_true->Z6,length_singleton->Z7,getElem_mem->Yy,sublist_cons_self->Yw,map_congr_left->Yv,not_mem_nil->Yt,getElem?_append_right->Ys,mem_append_left->Yq,length_zip->Yo,length_set->Yn,suffix_refl->Yi,lookup_cons->Yh,flatten_append->Yf,idxOf_lt_length_of_mem->Ye,mem_range->Yc,getElem?_eq_none_iff->Yb,mem_filter->YU,perm_ext_iff_of_nodup->YN,nodup_nil->YL,mem_of_getElem?->YK,getElem?_replicate->YI,any_cons->YG,any_eq_true->YF,sublist_append_right->YA,getElem?_zip_eq_some->Y0,nil_append->Y1,foldl_cons->Y2,nodup_range'->Y6,mem_range'_1->Y7,getElem?_set_ne->Y8,getD_cons_succ->Xz,getElem?_cons_succ->Xs,getElem_idxOf->Xo,drop_of_length_le->Xn,suffix_nil->Xi,length_replicate->Xg,cons_lt_cons_iff->Xf,pairwise_map->Xd,length_take->XS,length_drop->XR,pairwise_cons->XI,length_eq_zero_iff->XH,sum_cons->X6,all_cons->X7,nil_suffix->Wx,length_range'->Wq,ext_getElem?->Wo,mem_flatten->Wi,cons_append->Wh,take_of_length_le->Wf,getElem?_set_self->We,of_mem_zip->WZ,idxOf_cons->WY,forIn_cons->WX,set_getElem_self->WV,length_filter_le->WU,cons_prefix_cons->WT,map_id->WR,filterMap_cons->WN,findIdx?_cons->WE,take_sublist->WA,map_set->W0,getElem?_set->W3,map_fst_zip->Vz
open PySem.Heap renaming get?_push_of_some->Zw,get?_push_size->Zh,lt_size->Za,size_push->Z9,get?_update_self->Yr,get?_update_other->YW
open Nat renaming le_refl->Zl,ne_of_lt->Zg,lt_of_lt_of_le->ZR,le_of_not_lt->ZL,le_trans->Z2,lt_succ_self->Yz,lt_irrefl->Yj,lt_succ_of_lt->YY,zero_le->YT,le_add_right->YS,pos_of_ne_zero->YM,le_succ->Y5,ne_of_gt->Xp,le_of_eq->XT,min_self->XE,le_of_lt->XD,succ_le_succ->X4,le_of_not_le->X5,min_eq_left->Wy,lt_trans->Wt,add_sub_cancel->Wr,zero_add->Wg,lt_of_le_of_lt->WG,min_le_right->W8,min_eq_right->W9
open Option.some renaming inj->Zk
open Bool renaming and_eq_true_iff->Ze,false_ne_true->ZY,and_eq_true->Yg,false_eq_true->Xm,eq_iff_iff->XJ
open Array renaming length_toList->ZC,getElem?_toList->Z5,getElem?_eq_getElem->Ya,getElem?_eq_none->XB
open PySem.W renaming mg_none_of->Z8,mg_of->Yl,kia_one->YV,plainGet_of->WO,callWith_K->WH
open PySem.Around renaming under_plainId->Ym
open PySem.PassesOwn renaming never->YZ
open Int renaming toNat_natCast->YX,emod_lt_of_pos->YC,emod_nonneg->Xh,mul_le_mul_of_nonneg_right->Vy
open Ne renaming symm->YR
open PyProof.Rows renaming callWith_type1->YH,slot_tuple_getitem->X0
open List.Perm renaming refl->YD
open PySem.F renaming slot_dict_get->YB,plainAttrs_list->Xu,slot_dict_keyiterator_next->XW,type_list_append->XO,slot_list_append->XM,entry_dict_get->XG,slot_tuple_getattribute->Wc,slot_zip_getattribute->WQ,slot_zip_next->WJ
open PySem.Heap.SameBut renaming update->Xl
open PySem.Paired renaming length->XF
open List.Sublist renaming refl->XC
open PySem.Calls renaming spliced_cons->X1,spliced_nil->WW,callWith_builtin->WM,evalArgs_plain->W4
open List.Pairwise renaming filter->Wz
open Prod.mk renaming inj->Wp
open Nat.succ renaming inj->WB
open PyProof.Rows.F renaming plain_set_update_loop->W5
open PySem.Value renaming isStrOf_shape->W7
section
namespace L2
def jL{G:Prop}(h:∀P:Prop,(G->P)->P):G:=h G id
end L2
namespace VS
noncomputable abbrev Tx:=Vv
inductive T where
 |non | bl (b:Bool) | int (i:Int) | str (s:Tx) | scr (ns:Vu)
 |tup (l:List T) | lst (l:List T) | dct (kd:Nat) (l:List (T×T)) | obj (c:Nat) (fs:List (Nat×T))
 deriving Inhabited
abbrev Vo:=List T
noncomputable def dq:Nat:=16777216
mutual
def FZ:T->Bool
 |.lst _=>B
 |.dct _ _=>B
 |.obj _ _=>B
 |.tup l=>cL l
 |_=>M
def cL:Vo->Bool
 |[]=>M
 |t :: r=>FZ t&&cL r
end
mutual
@[simp] def eqT:T->T->Bool
 |.non,.non=>M
 |.bl a,.bl b=>a==b
 |.bl a,.int i=>(if a then 1 else 0)==i
 |.int i,.bl a=>i==(if a then 1 else 0)
 |.int i,.int j=>i==j
 |.str s,.str t=>s==t
 |.tup a,.tup b=>vn a b
 |.lst a,.lst b=>vn a b
 |_,_=>B
def vn:Vo->Vo->Bool
 |[],[]=>M
 |a :: d,b :: bs=>eqT a b&&vn d bs
 |_,_=>B
end
noncomputable def G2:Nat->T->Bool
 |_,.non=>M
 |_,.bl _=>M
 |_,.int _=>M
 |_,.str _=>M
 |n+1,.tup l=>l.all (G2 n)
 |n+1,.lst l=>l.all (G2 n)
 |_,_=>B
inductive Md where | fr | pu | bo
 deriving DecidableEq,Inhabited
@[simp] noncomputable def Md.join:Md->Md->Md
 |.bo,_=>.bo
 |_,.bo=>.bo
 |.pu,_=>.pu
 |_,.pu=>.pu
 |.fr,.fr=>.fr
inductive Cell where | pu (t:T) | ow (t:T)
 deriving Inhabited
abbrev Vr:=Option Cell
noncomputable abbrev Env:=List (Vr)
noncomputable abbrev Val:=Md×T
abbrev Vp:=Option Val
abbrev Vq:=List Val
abbrev Ex:=Env->Vp
abbrev GG:=Env->Option (Vq)
@[simp] def up(m:Md)(t:T):Val:=(if FZ t then .fr else m,t)
noncomputable def DI:T->Bool
 |.lst _=>M
 |.dct _ _=>M
 |.obj _ _=>M
 |_=>B
@[simp] def cellOf:Val->Vr
 | (.fr,t)=>Z (if DI t then .ow t else .pu t)
 | (.pu,t)=>Z (.pu t)
 | (.bo,_)=>Y
inductive Out where | nx (U:Env) | rt (v:Val) (U:Env) | bk (U:Env) | ct (U:Env)
abbrev Sx:=Env->Option Out
@[simp] noncomputable def eC(t:T)(_:Env):Vp:=Z (.fr,t)
abbrev Q3(i:Int):Ex:=eC (.int i)
@[simp] def aa(i:Nat)(U:Env):Vp:=match U[i]? with
 |some (some (.pu t))=>Z (up .pu t)
 |some (some (.ow t))=>Z (.bo,t)
 |_=>Y
@[simp] noncomputable def e1(f:Val->Vp)(a:Ex)(U:Env):Vp:=(a U).bind f
@[simp] noncomputable def e2(f:Val->Val->Vp)(a b:Ex)(U:Env):Vp:=(a U).bind λx=>(b U).bind λy=>f x y
@[simp] noncomputable def af(_:Env):Option (Vq):=Z []
@[simp] noncomputable def ab(a:Ex)(r:GG)(U:Env):Option (Vq):=(a U).bind λx=>(r U).bind λxs=>Z (x :: xs)
@[simp] noncomputable def eN(f:Vq->Vp)(a:GG)(U:Env):Vp:=(a U).bind f
@[simp] def b7:Vq->Md
 |[]=>.fr
 |v :: r=>v.1.join (b7 r)
@[simp] noncomputable def trees(l:Vq):Vo:=l.map (·.2)
def Ir(m:Md)(l:Vo):Vp:=if l.length<=dq then Z (if cL l then .fr else m,.lst l) else Y
@[simp] def gO(a:GG)(U:Env):Vp:=(a U).bind λl=>Ir (b7 l) (trees l)
def t4(l:Vq):Vp:=if l.length<=dq then Z (up (b7 l) (.tup (trees l))) else Y
@[simp] def ia(a:GG)(U:Env):Vp:=(a U).bind t4
def dput(l:List (T×T))(k v:T):List (T×T):=if l.any (λp=>eqT p.1 k) then l.map (λp=>if eqT p.1 k then (p.1,v) else p) else l++[(k,v)]
noncomputable def gK:T->Bool
 |.int _=>M
 |.str _=>M
 |_=>B
def keyOk:Nat->T->Bool
 |0,t=>gK t
 |1,.tup l=>l.all gK
 |_,_=>B
noncomputable def pairs:List (Ex×Ex)->Env->Option (List (Val×Val))
 |[],_=>Z []
 | (a,b) :: r,U=>(a U).bind λx=>(b U).bind λy=>(pairs r U).map ((x,y) :: ·)
def pK(a:Nat)(b:List (Ex×Ex))(U:Env):Vp:=(pairs b U).bind λl=>if l.all (λp=>keyOk a p.1.2)/\l.length<=15 then
 Z (b7 (l.map (·.2)),.dct a (l.foldl (λd p=>dput d p.1.2 p.2.2) [])) else Y
noncomputable def Nl:T->Option Bool
 |.bl b=>Z b
 |.int i=>Z (i != 0)
 |.str s=>Z (!s.isEmpty)
 |.lst l=>Z (!l.isEmpty)
 |.tup l=>Z (!l.isEmpty)
 |.dct 0 l=>Z (!l.isEmpty)
 |.non=>Z B
 |_=>Y
@[simp] noncomputable def iC(a b:Ex)(U:Env):Vp:=(a U).bind λx=>match x.2 with
 |.bl true=>b U
 |.bl false=>Z (.fr,.bl B)
 |_=>Y
@[simp] noncomputable def KR(a b:Ex)(U:Env):Vp:=(a U).bind λx=>match x.2 with
 |.bl true=>Z (.fr,.bl M)
 |.bl false=>b U
 |_=>Y
@[simp] noncomputable def oH(a:Ex)(U:Env):Vp:=(a U).bind λx=>match x.2 with
 |.bl b=>Z (.fr,.bl (!b))
 |_=>Y
noncomputable def MZ:T->Bool
 |.non=>M
 |_=>B
@[simp] def uO(a:Ex)(U:Env):Vp:=(a U).bind λx=>Z (.fr,.bl (MZ x.2))
@[simp] def fG(a:Ex)(U:Env):Vp:=(a U).bind λx=>Z (.fr,.bl (!MZ x.2))
@[simp] noncomputable def ki(f g:Val->Val->Vp)(a b c:Ex)(U:Env):Vp:=(a U).bind λx=>(b U).bind λy=>(f x y).bind λr=>match r.2 with
 |.bl true=>(c U).bind λz=>g y z
 |.bl false=>Z (.fr,.bl B)
 |_=>Y
@[simp] noncomputable def int?:T->Option Int
 |.int i=>Z i
 |_=>Y
def da:Val->Val->Vp
 | (_,.int i),(_,.int j)=>Z (.fr,.int (i+j))
 | (_,.str s),(_,.str t)=>if s.length+t.length<=dq then Z (.fr,.str (s++t)) else Y
 | (m,.lst s),(n,.lst t)=>Ir (m.join n) (s++t)
 |_,_=>Y
@[simp] noncomputable def pJ:Val->Val->Vp
 | (_,.int i),(_,.int j)=>Z (.fr,.int (i-j))
 |_,_=>Y
noncomputable def Lp:Int:=4611686018427387904
noncomputable def OL:Int:=18446744073709551616
def k8:Val->Val->Vp
 | (_,.int i),(_,.int j)=>if (-OL<i/\i<OL)\/(-OL<j/\j<OL) then Z (.fr,.int (i*j)) else Y
 |_,_=>Y
noncomputable def cn:Val->Val->Vp
 | (_,.int i),(_,.int j)=>if 0<j/\j<1073741824 then Z (.fr,.int (i/j)) else Y
 |_,_=>Y
noncomputable def oMod:Val->Val->Vp
 | (_,.int i),(_,.int j)=>if 0<j then Z (.fr,.int (i%j)) else Y
 |_,_=>Y
noncomputable def JN:Tx->Tx->Bool
 |[],[]=>B
 |[],_ :: _=>M
 |_ :: _,[]=>B
 |a :: d,b :: bs=>if a<b then M else if b<a then B else JN d bs
@[simp] def oLt:Val->Val->Vp
 | (_,.int i),(_,.int j)=>Z (.fr,.bl (decide (i<j)))
 | (_,.str s),(_,.str t)=>Z (.fr,.bl (JN s t))
 |_,_=>Y
@[simp] def oLe:Val->Val->Vp
 | (_,.int i),(_,.int j)=>Z (.fr,.bl (decide (i<=j)))
 | (_,.str s),(_,.str t)=>Z (.fr,.bl (!JN t s))
 |_,_=>Y
@[simp] def MX(a b:Val):Vp:=oLt b a
@[simp] def MY(a b:Val):Vp:=oLe b a
@[simp] def oEq(a b:Val):Vp:=if G2 60 a.2/\G2 60 b.2 then Z (.fr,.bl (eqT a.2 b.2)) else Y
@[simp] def IL(a b:Val):Vp:=if G2 60 a.2/\G2 60 b.2 then Z (.fr,.bl (!eqT a.2 b.2)) else Y
def cS(l:List (T×T))(k:T):Option T:=(l.find? λp=>eqT p.1 k).map (·.2)
noncomputable def Hw(n:Nat)(i:Int):Option Nat:=if 0<=i then (if i<n then Z i.toNat else Y) else (if 0<=i+n then Z (i+n).toNat else Y)
@[simp] def sub(m:Md)(t:T):Val:=up m t
@[simp] def aC:Val->Val->Vp
 | (m,.lst l),(_,.int i)=>(Hw l.length i).bind λk=>(l[k]?).map (sub m)
 | (m,.tup l),(_,.int i)=>(Hw l.length i).bind λk=>(l[k]?).map (sub m)
 | (_,.scr l),(_,.int i)=>(Hw l.length i).bind λk=>(l[k]?).map λn=>(.fr,.int n)
 | (_,.str l),(_,.int i)=>(Hw l.length i).bind λk=>(l[k]?).map λn=>(.fr,.str [n])
 |_,_=>Y
noncomputable def clip(n:Nat)(i:Int):Nat:=if i<0 then (i+n).toNat else min i.toNat n
def cut{α:Type}(l:List α)(a b:Option Int):List α :=
 let lo:=match a with | none=>0 | some i=>clip l.length i
 let d:=match b with | none=>l.length | some i=>clip l.length i
 (l.drop lo).take (d-lo)
@[simp] def Sh(v:Val)(a b:Option Int):Vp:=match v with
 | (_,.str s)=>Z (.fr,.str (cut s a b))
 | (m,.lst l)=>Ir m (cut l a b)
 |_=>Y
@[simp] def tu(c:Option Ex)(U:Env):Option (Option Int):=match c with
 |none=>Z Y
 |some e=>(e U).bind λy=>(int? y.2).map Z
@[simp] def Oi(a:Ex)(b d:Option Ex)(U:Env):Vp:=(a U).bind λx=>(tu b U).bind λl=>(tu d U).bind λh=>Sh x l h
noncomputable def FU:T->Option Nat
 |.lst l=>Z l.length
 |.tup l=>Z l.length
 |.str l=>Z l.length
 |.scr l=>Z l.length
 |.dct 0 l=>Z l.length
 |_=>Y
@[simp] def bX:Vq->Vp
 |[x]=>(FU x.2).map λn=>(.fr,.int n)
 |_=>Y
@[simp] noncomputable def rn:Vq->Vp
 |[(_,.int i),(_,.int j)]=>Z (.fr,.int (if j<i then j else i))
 |_=>Y
@[simp] noncomputable def pZ:Vq->Vp
 |[(_,.int i),(_,.int j)]=>Z (.fr,.int (if j > i then j else i))
 |_=>Y
noncomputable def qi:Vo->Option (Vu)
 |[]=>Z []
 |.int i :: r=>(qi r).map (i :: ·)
 |_=>Y
noncomputable def strs?:Vo->Option (List Tx)
 |[]=>Z []
 |.str i :: r=>(strs? r).map (i :: ·)
 |_=>Y
def zA:Vq->Vp
 |[(_,.lst l)]=>(qi l).bind λa=>Z (.fr,.int a.sum)
 |_=>Y
@[simp] def Br:Vq->Vp
 |[(m,.lst l)]=>Ir m l
 |[(m,.tup l)]=>Ir m l
 |_=>Y
def fC:Vq->Vp
 |[(m,.lst l)]=>if l.length<=dq then Z (up m (.tup l)) else Y
 |_=>Y
def mP(x:Tx):List Tx->List Tx
 |[]=>[x]
 |y :: r=>if JN y x then y :: mP x r else x :: y :: r
def cy(l:List Tx):List Tx:=l.foldr mP []
noncomputable def dedup:List Tx->List Tx
 |[]=>[]
 |x :: r=>x :: (dedup r).filter (· ≠ x)
inductive Ty where | int | str | bool | list | tuple | dict
@[simp] noncomputable def pY:Ty->T->Bool
 |.int,.int _=>M
 |.int,.bl _=>M
 |.bool,.bl _=>M
 |.str,.str _=>M
 |.list,.lst _=>M
 |.tuple,.tup _=>M
 |.dict,.dct _ _=>M
 |_,_=>B
@[simp] noncomputable def uj:T->Bool
 |.obj _ _=>B
 |.scr _=>B
 |.dct 0 _=>M
 |.dct 1 _=>M
 |.dct _ _=>B
 |_=>M
@[simp] def Oj(t:Ty)(a:Ex)(U:Env):Vp:=(a U).bind λx=>if uj x.2 then Z (.fr,.bl (pY t x.2)) else Y
noncomputable def total:List Tx->Nat
 |[]=>0
 |x :: r=>x.length+total r
noncomputable def cZ(a:Tx):List Tx->Tx
 |[]=>[]
 |[x]=>x
 |x :: r=>x++a++cZ a r
def gf:Val->Vq->Vp
 | (_,.str sep),[(_,.lst l)]=>(strs? l).bind λa=>if total a+a.length*sep.length<=dq then Z (.fr,.str (cZ sep a)) else Y
 |_,_=>Y
@[simp] noncomputable def eM(f:Val->Vq->Vp)(o:Ex)(b:GG)(U:Env):Vp:=(o U).bind λx=>(b U).bind λa=>f x a
noncomputable abbrev Fn:=Vo->Vp
@[simp] def bw(g:Fn)(b:GG)(U:Env):Vp:=(b U).bind λa=>(g (trees a)).bind λr=>match r with
 | (.fr,t)=>Z (.fr,t)
 | (_,t)=>Z ((Md.pu).join (b7 a),t)
abbrev IQ:=Env->Option (Md×Vo)
noncomputable def uK:Val->Option (Md×Vo)
 | (m,.lst l)=>Z (m,l)
 | (m,.tup l)=>Z (m,l)
 | (_,.str l)=>Z (.fr,l.map λc=>.str [c])
 |_=>Y
@[simp] def dJ(a:Ex)(U:Env):Option (Md×Vo):=(a U).bind uK
noncomputable def rng(a:Int)(n:Nat):Vo:=(List.range n).map λ(k:Nat)=>T.int (a+k)
def d8(a:Ex)(U:Env):Option (Md×Vo):=(a U).bind λx=>(int? x.2).bind λj=>if -Lp<=j/\j<Lp then Z (.fr,rng 0 j.toNat) else Y
def jP(a b:Ex)(U:Env):Option (Md×Vo):=(a U).bind λx=>(b U).bind λy=>(int? x.2).bind λi=>(int? y.2).bind λj =>
 if (-Lp<=i/\i<Lp)/\-Lp<=j/\j<Lp then Z (.fr,rng i (j-i).toNat) else Y
abbrev Tg:=T->Env->Option Env
@[simp] noncomputable def bh(i:Nat)(t:T)(U:Env):Option Env:=if i<U.length then Z (U.set i (Z (.pu t))) else Y
noncomputable def sN:List Tg->Vo->Env->Option Env
 |[],[],U=>Z U
 |g :: b,t :: a,U=>(g t U).bind λd=>sN b a d
 |_,_,_=>Y
@[simp] def jm(a:List Tg)(t:T)(U:Env):Option Env:=match t with
 |.tup l=>sN a l U
 |_=>Y
@[simp] def Sf(m:Md)(l:Vo):Bool:=match m with
 |.bo=>cL l
 |_=>M
def mf(e:Tg)(a:Option Ex)(d:Ex)(U:Env):Vo->Option (Vq)
 |[]=>Z []
 |t :: r=>(e t U).bind λf=>(match a with | none=>some true | some c=>(c f).bind λx=>Nl x.2).bind λb =>
  if b then (d f).bind λv=>(mf e a d U r).map (v :: ·) else mf e a d U r
def cz(k:Nat)(e:Tg)(f:IQ)(a:Option Ex)(b:Ex)(U:Env):Vp:=(f U).bind λ(m,l)=>if Sf m l then
 (mf e a b (List.replicate k Y++U) l).bind λd=>Ir (b7 d) (trees d) else Y
@[simp] noncomputable def eD(U:Env):Option Out:=Z (.nx U)
@[simp] noncomputable def aj(a b:Sx)(U:Env):Option Out:=(a U).bind λo=>match o with
 |.nx d=>b d
 |o=>Z o
@[simp] def kX(i:Nat)(e:Ex)(U:Env):Option Out:=(e U).bind λv=>(cellOf v).bind λc=>if i<U.length then Z (.nx (U.set i (Z c))) else Y
@[simp] noncomputable def aI(i:Nat)(e:Ex)(U:Env):Option Out:=(e U).bind λv=>match v.1 with
 |.bo=>Y
 |_=>if i<U.length then Z (.nx (U.set i (Z (.pu v.2)))) else Y
@[simp] noncomputable def eI(e:Ex)(U:Env):Option Out:=(e U).bind λv=>Z (.rt (match v.1 with | .bo=>.pu | m=>m,v.2) U)
@[simp] def ip(i:Nat)(U:Env):Option Out:=match U[i]? with
 |some (some (.ow t))=>Z (.rt (.fr,t) (U.set i Y))
 |some (some (.pu t))=>Z (.rt (up .pu t) U)
 |_=>Y
@[simp] def G8(c:Ex)(a b:Sx)(U:Env):Option Out:=(c U).bind λx=>(Nl x.2).bind λt=>if t then a U else b U
noncomputable def forL(d:Tg)(a:Sx):Vo->Env->Option Out
 |[],U=>Z (.nx U)
 |t :: r,U=>(d t U).bind λe=>(a e).bind λo=>match o with
  |.nx b=>forL d a r b
  |.ct b=>forL d a r b
  |.bk b=>Z (.nx b)
  |.rt v b=>Z (.rt v b)
@[simp] noncomputable def Sg:Md->Bool
 |.bo=>B
 |_=>M
@[simp] def jo(b:Tg)(d:IQ)(a:Sx)(U:Env):Option Out:=(d U).bind λ(m,l)=>if Sg m then forL b a l U else Y
def dZ(c:Ex)(a:Sx):Nat->Env->Option Out
 |0,_=>Y
 |n+1,U=>(c U).bind λx=>(Nl x.2).bind λt=>if t then (a U).bind λo=>match o with
  |.nx b=>dZ c a n b
  |.ct b=>dZ c a n b
  |.bk b=>Z (.nx b)
  |.rt v b=>Z (.rt v b)
  else Z (.nx U)
noncomputable def uL:Nat:=1000000
def ko(c:Ex)(a:Sx)(U:Env):Option Out:=dZ c a uL U
@[simp] noncomputable def rE(i:Nat)(U:Env):Option Out:=match U[i]? with
 |some (some (.ow t))=>Z (.nx (U.set i (Z (.pu t))))
 |some (some (.pu _))=>Z (.nx U)
 |_=>Y
inductive IJ where | fld (k:Nat) | ix (e:Ex) | un
inductive Ky where | fld (k:Nat) | at (t:T) | un
def keys:List IJ->Env->Option (List Ky)
 |[],_=>Z []
 |.fld k :: r,U=>(keys r U).map (.fld k :: ·)
 |.ix e :: r,U=>(e U).bind λx=>(keys r U).map (.at x.2 :: ·)
 |.un :: r,U=>(keys r U).map (.un :: ·)
noncomputable def FF(a:List (Nat×T))(k:Nat):Option T:=a.lookup k
noncomputable def FD(a:List (Nat×T))(k:Nat)(v:T):List (Nat×T):=if a.any (λp=>p.1==k) then a.map (λp=>if p.1==k then (p.1,v) else p) else a++[(k,v)]
def yW{α:Type}(f:T->Option (T×α)):List Ky->T->Option (T×α)
 |[],t=>f t
 |.fld k :: r,.obj c fs=>(FF fs k).bind λx=>(yW f r x).map λ(y,a)=>(.obj c (FD fs k y),a)
 |.at (.int i) :: r,.lst l=>(Hw l.length i).bind λj=>(l[j]?).bind λx=>(yW f r x).map λ(y,a)=>(.lst (l.set j y),a)
 |.at k :: r,.dct d l=>(cS l k).bind λx=>(yW f r x).map λ(y,a)=>(.dct d (dput l k y),a)
 |_,_=>Y
abbrev Xx:=Env->Option (Val×Env)
@[simp] noncomputable def xP(e:Ex)(U:Env):Option (Val×Env):=(e U).map λv=>(v,U)
@[simp] def lV(i:Nat)(a:List IJ)(f:T->Vq->Option (T×Val))(g:GG)(U:Env):Option (Val×Env):=match U[i]? with
 |some (some (.ow t))=>(keys a U).bind λe=>(g U).bind λb=>(yW (λx=>f x b) e t).map λ(d,v)=>(v,U.set i (Z (.ow d)))
 |_=>Y
@[simp] noncomputable def fit(v:Val):Option T:=match v.1 with
 |.fr=>Z v.2
 |_=>Y
def aB:T->Vq->Option (T×Val)
 |.lst l,[v]=>(fit v).bind λt=>if l.length<dq then Z (.lst (l++[t]),(.fr,.non)) else Y
 |_,_=>Y
@[simp] noncomputable def sX(x:Xx)(U:Env):Option Out:=(x U).map λr=>.nx r.2
@[simp] noncomputable def fn(d e:Nat)(a:Sx):Fn:=λb=>if b.length=d then
 (a (b.map (λt=>Z (.pu t))++List.replicate (e-d) Y)).bind λo=>match o with
  |.rt v _=>Z v
  |.nx _=>Z (.fr,.non)
  |_=>Y else Y
def xM{s t:Tx}(h:s.length+t.length<=16777216):da (m,.str s) (n,.str t)=Z (.fr,.str (s++t)):=Zn h
def lH{i j:Int}(h:-18446744073709551616<i/\i<18446744073709551616):k8 (m,.int i) (n,.int j)=Z (.fr,.int (i*j)):=Zn (.inl h)
def iy{m n:Md}{i j:Int}(h:0<j/\j<1073741824):cn (m,.int i) (n,.int j)=Z (.fr,.int (i/j)):=Zn h
def fA{m n:Md}{i j:Int}(h:0<j):oMod (m,.int i) (n,.int j)=Z (.fr,.int (i%j)):=Zn h
def dR{l:Vo}(h:l.length<16777216):aB (.lst l) [(.fr,t)]=Z (.lst (l++[t]),(.fr,.non)):=by
 simp only[aB,fit,Zp];exact Zn h
def mQ{m:Md}{j:Int}(e:a U=Z (m,.int j))(h:-4611686018427387904<=j/\j<4611686018427387904):d8 a U=Z (.fr,rng 0 j.toNat):=by
 simp only[d8,e,Zp,int?];exact Zn h
def CD{l:Vo}(h:l.length<=16777216):Ir m l=Z (if cL l then .fr else m,.lst l):=Zn h
def g6{b:Tg}{r:Vo}{U1:Env}(f:b t U=Z U1)(e:a U1=Z (.nx d)):forL b a (t :: r) U=forL b a r d:=by
 simp[forL,f,e]
theorem strs_map{α:Type}(f:α->Tx):∀l:List α,strs? (l.map λx=>T.str (f x))=Z (l.map f)
 |[]=>rfl
 |a :: r=>congrArg (Option.map (f a :: ·)) (strs_map f r)
theorem ints_map{α:Type}(f:α->Int):∀l:List α,qi (l.map λx=>T.int (f x))=Z (l.map f)
 |[]=>rfl
 |a :: r=>congrArg (Option.map (f a :: ·)) (ints_map f r)
theorem l9:∀a:List Tx,cZ [] a=a.flatten
 |[]=>rfl
 |[x]=>by simp[cZ]
 |x :: y :: r=>by
  have:=l9 (y :: r);simp[cZ]at this ⊢;exact this
theorem lY:∀a:List Tx,total a=a.flatten.length
 |[]=>rfl
 |x :: r=>by simp[total,lY r]
def kD{m n:Md}(e:strs? l=Z a)(b:a.flatten.length<=16777216):gf (m,.str []) [(n,.lst l)]=Z (.fr,.str a.flatten):=by
 simp only[gf,Zp,e,l9];refine Zn ?_;rw[lY];show _<=16777216;simpa using b
def fz{α:Type}(l:List α):(l.map λx=>[x]).flatten=l:=by
 induction l with
 |nil=>rfl
 |cons a r b=>rw[Zi,ZI,b];rfl
def qd(n:Nat):rng 0 n=(List.range n).map λ(k:Nat)=>T.int (k:Int):=by
 unfold rng;simp
theorem p6{α:Type}(f:α->T)(h:∀x,FZ (f x)=M):∀l:List α,cL (l.map f)=M
 |[]=>rfl
 |a :: r=>Bool.and_eq_true_iff.mpr ⟨h a,p6 f h r⟩
theorem nV{α:Type}(g:α->T)(f:α->Val):∀l:List α,(∀a∈l,∃e,i (g a) U=Z e/\d e=Z (f a))->mf i Y d U (l.map g)=Z (l.map f)
 |[],_=>rfl
 |a :: r,h=>by
  obtain⟨e,m,j⟩:=h a Zu;simp[mf,m,j,nV g f r λb hb=>h b (Zt _ hb)]
theorem qP{α:Type}(f:α->T):∀l:List α,b7 (l.map λa=>(Md.fr,f a))=.fr
 |[]=>rfl
 |a :: r=>by simp[qP f r]
def uU{α:Type}(f:α->Val)(l:List α):trees (l.map f)=l.map λa=>(f a).2:=by simp
def dY{α:Type}{k:Nat}{tg:Tg}{it:IQ}{elt:Ex}{U:Env}{m:Md}(g:α->T)(f:α->T)(l:List α)(i:it U=Z (m,l.map g))(e:Sf m (l.map g)=M)(d:l.length<=16777216)(h:∀a∈l,∃b,tg (g a) (List.replicate k Y++U)=Z b/\elt b=Z (.fr,f a)):cz k tg it Y elt U=Z (.fr,.lst (l.map f)):=by
 simp only[cz,i,Zp];rw[Zn e,nV g (λa=>(Md.fr,f a)) l h];simp only[Zp,qP,uU];rw[CD (by rw[Zx];exact d)];simp
def xm{α:Type}{m n:Md}(f:α->T)(l:List α)(i:Int)(d:α)(g:0<=i)(e:i<l.length)(a:FZ (f (l.getD i.toNat d))=M):aC (m,.lst (l.map f)) (n,.int i)=Z (.fr,f (l.getD i.toNat d)):=by
 have b:i.toNat<l.length:=by lia
 simp only[Zv,Zq b,Yu]at a ⊢;simp[Hw,g,e,b,a]
end VS
end
section
namespace L2
open PySem PySem.Spec PyProof.Rows
noncomputable abbrev Key:=Sum Int Str
def kL:Key->KM->Bool
 |.inl k,v=>Value.isInt k v
 |.inr x,v=>Value.isStrOf x v
noncomputable def D1(w:SZ):Key->Int
 |.inl k=>hashInt k
 |.inr x=>hashStr w x
theorem bK:∀{k:Key}{v:KM},kL k v=M->(∃i t,k=Sum.inl i/\v=Value.int i t)\/(∃x t,k=Sum.inr x/\v=Value.str x t)
 |.inl i,v,h=>by
  obtain⟨t,e⟩:=Value.isInt_shape (k:=i) (v:=v) h;exact .inl ⟨i,t,rfl,e⟩
 |.inr x,v,h=>by
  obtain⟨t,e⟩:=W7 (x:=x) (v:=v) h;exact .inr ⟨x,t,rfl,e⟩
def uR(i:Int)(t:Tok):kL (.inl i) (.int i t)=M:=by simp[kL,Value.isInt]
def vt(x:Str)(t:Tok):kL (.inr x) (.str x t)=M:=by simp[kL,Value.isStrOf]
def C1(a b:Int):decide ((Sum.inl a:Key)=Sum.inl b)=(a==b):=by
 by_cases e:a=b
 ·subst e;simp
 ·have h:¬(Sum.inl a:Key)=Sum.inl b:=λq=>e (Sum.inl.inj q);rw[ZG h];exact(ZJ.mpr e).symm
def Cw(a b:Str):decide ((Sum.inr a:Key)=Sum.inr b)=decide (a=b):=by
 by_cases e:a=b
 ·subst e;simp
 ·have h:¬(Sum.inr a:Key)=Sum.inr b:=λq=>e (Sum.inr.inj q);rw[ZG h,ZG e]
def Dc(a:Int)(b:Str):decide ((Sum.inl a:Key)=Sum.inr b)=B:=ZG (λq=>nomatch q)
def Dk(a:Str)(b:Int):decide ((Sum.inr a:Key)=Sum.inl b)=B:=ZG (λq=>nomatch q)
def aw(d:P3)(w:SZ):PySem.KeyKind d w Key where
 is:=kL
 hash:=D1 w
 inj:=λv a b l hb=>by
  rcases bK l with⟨i,t,rfl,rfl⟩ | ⟨x,t,rfl,rfl⟩
  ·rcases bK hb with⟨j,u,rfl,e⟩ | ⟨y,u,rfl,e⟩
   ·injection e with e1 _;rw[e1]
   ·exact nomatch e
  ·rcases bK hb with⟨j,u,rfl,e⟩ | ⟨y,u,rfl,e⟩
   ·exact nomatch e
   ·injection e with e1 _;rw[e1]
 byValue:=λk v h=>by
  rcases bK h with⟨i,t,rfl,rfl⟩ | ⟨x,t,rfl,rfl⟩<;>rfl
 pyHash:=λf h=>by
  rcases bK f with⟨i,t,rfl,rfl⟩ | ⟨x,t,rfl,rfl⟩
  ·exact wpAny_pyHash_int h
  ·exact wpAny_pyHash_str h
 eqBool:=λg f h=>by
  rcases bK g with⟨i,t,rfl,rfl⟩ | ⟨x,t,rfl,rfl⟩
  ·rcases bK f with⟨j,u,rfl,rfl⟩ | ⟨y,u,rfl,rfl⟩
   ·rw[C1]at h;exact wpAny_eqBool_int h
   ·rw[Dc]at h;exact SeqAt.EqAt.int_str i t y u _ _ _ _ h
  ·rcases bK f with⟨j,u,rfl,rfl⟩ | ⟨y,u,rfl,rfl⟩
   ·rw[Dk]at h;exact SeqAt.EqAt.str_int x t j u _ _ _ _ h
   ·rw[Cw]at h;exact wpAny_eqBool_str h
 «strs» := λk x t v h=>by
  rcases bK h with⟨i,u,rfl,e⟩ | ⟨y,u,rfl,e⟩
  ·exact nomatch e
  ·injection e with e1 _
   subst e1;cases v<;>rfl
def qK(a:P3)(w:SZ)(i:Int)(t:Tok):(aw a w).is (.inl i) (.int i t)=M:=uR i t
def kG(a:P3)(w:SZ)(x:Str)(t:Tok):(aw a w).is (.inr x) (.str x t)=M:=vt x t
inductive V where
 |non | bl (b:Bool) | int (i:Int) | str (x:Str) | byt (b:Array UInt8) | flt (b:UInt64) | ref (a:KF) | ty (n:String)
 deriving DecidableEq
noncomputable def RelV:V->KM->Prop
 |.non,u=>u=Value.none
 |.bl b,u=>u=Value.bool b
 |.int i,u=>∃t,u=Value.int i t
 |.str x,u=>∃t,u=Value.str x t
 |.byt b,u=>∃t,u=Value.bytes b t
 |.flt b,u=>∃t,u=Value.float b t
 |.ref a,u=>u=Value.ref a
 |.ty n,u=>u=Value.type n
abbrev aO:List V->Vx->Prop:=Paired RelV
theorem aO.length{xs:List V}{us:Vx}(r:aO xs us):xs.length=us.length:=XF r
theorem aO.get:∀{a:List V}{b:Vx}{i:Nat}{x:V},aO a b->a[i]?=Z x->∃u,b[i]?=Z u/\RelV x u
 |_,_,_,_,.nil,e=>by simp at e
 |_,_,0,_,.cons r _,e=>by simp at e;subst e;exact⟨_,rfl,r⟩
 |_,_,i+1,x,.cons _ t,e=>by
  obtain⟨u,f,d⟩:=aO.get (i:=i) (x:=x) t (by simpa using e);exact⟨u,by simpa using f,d⟩
theorem aO.set(r:RelV x u):∀{a:List V}{b:Vx}(i:Nat),aO a b->aO (a.set i x) (b.set i u)
 |_,_,_,.nil=>.nil
 |_,_,0,.cons _ t=>.cons r t
 |_,_,i+1,.cons q t=>.cons q (aO.set r i t)
theorem aO.append:∀{b a:List V}{e d:Vx},aO b e->aO a d->aO (b++a) (e++d)
 |_,_,_,_,.nil,s=>s
 |_,_,_,_,.cons r t,s=>.cons r (aO.append t s)
theorem aO.take:∀{a:List V}{b:Vx}(n:Nat),aO a b->aO (a.take n) (b.take n)
 |_,_,0,_=>.nil
 |_,_,_+1,.nil=>.nil
 |_,_,n+1,.cons r t=>.cons r (aO.take n t)
theorem aO.drop:∀{a:List V}{b:Vx}(n:Nat),aO a b->aO (a.drop n) (b.drop n)
 |_,_,0,r=>r
 |_,_,_+1,.nil=>.nil
 |_,_,n+1,.cons _ t=>aO.drop n t
def aO.none_of:∀{a:List V}{b:Vx}{i:Nat},aO a b->a[i]?=Y->b[i]?=Y:=λ{a b i} r e=>by
 have f:=r.length;have d:a.length<=i:=Yb.mp e;exact Yb.mpr (by lia)
def hZ:Option V->Vw->Prop
 |some v,some u=>RelV v u
 |none,none=>True
 |_,_=>False
def KV{κ:Type}:List (κ×V)->List (κ×KM)->Prop:=Paired λ(p:κ×V) (q:κ×KM)=>p.1=q.1/\RelV p.2 q.2
noncomputable def kV:Key->V
 |.inl i=>.int i
 |.inr x=>.str x
inductive HO where
 |lst (xs:List V)
 |tup (xs:List V)
 |dK (bt:List (Key×V)) | dT (bt:List (List Key×V))
 |set (S:Int->Bool) (n:Nat)
 |ins (C dx:KF) (fs:List (Str×V))
 |own (x:KF)
 |xd (fs:List (Str×V))
 |met (f x:KF)
 |rng (lo hi:Int)
 |frz (o:Obj) (u:HO)
 |tbl (q:Str)
 |ext (φ:SZ->SL->Prop)
noncomputable abbrev Hp:=KF->Option HO
noncomputable def upd(H:Hp)(a:KF)(o:HO):Hp:=λb=>if b=a then Z o else H b
def ay:upd H a o a=Z o:=by unfold upd;rw[Zn L]
def aE(h:b≠a):upd H a o b=H b:=by unfold upd;rw[Zm h]
def zW:upd (upd H a o) a u=upd H a u:=by
 funext b;unfold upd;split<;>rfl
def DQ{H:Hp}{a b:KF}{o u:HO}(h:H a=Z o)(f:H b=Z u)(d:o≠u):a≠b:=by
 intro e;subst e;rw[h]at f;exact d (Zk f)
def dj{H:Hp}{a b:KF}{o:HO}(h:H a=Z o)(d:H b=Y):a≠b:=by
 intro e;subst e;rw[h]at d;cases d
noncomputable def KU(h:SL)(a:KF):Prop:=∀o,h.get? a=Z o->o.dict=Y
def KU.new(h:SL)(a:Array KM):KU (h.push { cls:=.type "tuple",data:=.seq a }) h.objs.size:=λo e=>by
 rw[Zh _ L]at e;cases e;rfl
def KU.of{h:SL}{o:Obj}(e:h.get? a=Z o)(d:o.dict=Y):KU h a:=λf b=>by
 rw[e]at b;cases b;exact d
section
variable(P:P3)(w:SZ)
def bF(H:Hp)(h:SL)(a:KF):HO->Prop
 |.lst b=>b.length<=KB/\∃(g:Vx)(n:Nat),aO b g/\h.get? a=Z { cls:=.type "list",data:=.seq g.toArray n }
 |.tup b=>b.length<=KB/\∃g:Vx,aO b g/\KU h a/\IsTup h a g.toArray
 |.dK i=>i.length<=KB/\(a==sysModules)=B/\∃e,KV i e/\h.DictOf (aw P w) a e
 |.dT i=>i.length<=KB/\(a==sysModules)=B/\∃b:List (List Key×KF×KM),
   Paired (λ(p:List Key×V) (q:List Key×KF×KM)=>p.1=q.1/\H q.2.1=Z (.tup (p.1.map kV))/\RelV p.2 q.2.2) i b ∧
   ∃o s A,h.get? a=Z o/\o.ExactDict/\o.data=.dict s A/\s.toList=b.map (entryOfKey (tupleKind (aw P w)))/\(b.map (·.1)).Nodup
 |.set S n=>h.SetOf (intKind P w) a S n
 |.ins C j fs=>H j=Z (.own a)/\fs.length<=1000/\j≠a/\h.get? a=Z (PySem.W.instObj C j) ∧
   ∃d,h.Ns1 j d/\(∀f,hZ (fs.lookup f) (d f))/\PySem.Within d (fs.map (·.1))
 |.own _=>∃o,h.get? a=Z o
 |.xd fs=>∃d,h.Ns1 a d/\∀f,hZ (fs.lookup f) (d f)
 |.rng lo z=>∃t u v,h.get? a=Z { cls:=.type "range",data:=.fields #[.int lo t,.int z u,.int 1 v] }
 |.frz o u=>h.get? a=Z o/\bF H h a u
 |.tbl q=>∃l,h.get? a=Z { cls:=.none,data:=.fields l }/\TriplesOk l.toList/\∀pos v,codeAmong pos l.toList=Z v->∃c o y e t,v=.ref c/\H c=Z (.frz o (.own y))/\o.data=.fields e/\e[1]?=Z (.str q t)
 |.met f x=>h.get? a=Z (PySem.W.methodObj (.ref f) (.ref x))
 |.ext φ=>φ w h/\(∃o,h.get? a=Z o)/\∀r m:SL,φ w r->(∀o,r.get? a=Z o->m.get? a=Z o)->φ w m
def Hf(H:Hp)(h:SL):Prop:=∀a o,H a=Z o->bF P w H h a o
end
section
theorem bF.lt(x:bF P w H h a o):a<h.objs.size:=by
 cases o with
 |lst b=>obtain⟨_,_,_,_,e⟩:=x;exact Za e
 |tup b=>obtain⟨_,_,_,_,p⟩:=x;exact p.lt
 |dK d=>obtain⟨_,_,_,_,o,_,_,e,_⟩:=x;exact Za e
 |dT d=>obtain⟨_,_,_,_,o,_,_,e,_⟩:=x;exact Za e
 |set S n=>obtain⟨o,_,_,_,e,_⟩:=x;exact Za e
 |ins C i fs=>obtain⟨_,_,_,e,_⟩:=x;exact Za e
 |own y=>obtain⟨_,e⟩:=x;exact Za e
 |xd fs=>obtain⟨_,⟨_,_,_,e,_⟩,_⟩:=x;exact Za e
 |rng lo g=>obtain⟨_,_,_,e⟩:=x;exact Za e
 |frz ob u=>obtain⟨e,_⟩:=x;exact Za e
 |tbl q=>obtain⟨_,e,_⟩:=x;exact Za e
 |met f y=>exact Za (show h.get? a=Z _ from x)
 |ext φ=>obtain⟨_,⟨_,e⟩,_⟩:=x;exact Za e
theorem Paired.K9{α β:Type}{F G:α->β->Prop}:∀{e:List α}{d:List β},Paired F e d->(∀a b,F a b->G a b)->Paired G e d
 |_,_,.nil,_=>.nil
 |_,_,.cons r t,f=>.cons (f _ _ r) (Paired.K9 t f)
def bF.JY{h':SL}(x:bF P w H h a o)(k:∀b u,(b=a\/H b=Z (.own a))->h.get? b=Z u->h'.get? b=Z u)(N:∀b,H b=Z (.own a)->H' b=Z (.own a))(J:∀b l,H b=Z (.tup l)->H' b=Z (.tup l))(O:∀b o y,H b=Z (.frz o (.own y))->H' b=Z (.frz o (.own y))):bF P w H' h' a o:=by
 induction o with
 |lst l=>obtain⟨z,D,n,r,e⟩:=x;exact⟨z,D,n,r,k _ _ (.inl L) e⟩
 |tup l=>obtain⟨z,D,r,nd,g,e,c⟩:=x;exact⟨z,D,r,KU.of (k _ _ (.inl L) e) (nd _ e),g,k _ _ (.inl L) e,c⟩
 |dK Q=>obtain⟨z,y,m,r,g,i,j,e,c⟩:=x;exact⟨z,y,m,r,g,i,j,k _ _ (.inl L) e,c⟩
 |dT Q =>
  obtain⟨z,y,l,r,g,i,j,e,c⟩:=x;exact⟨z,y,l,Paired.K9 r λp q z=>⟨z.1,J _ _ z.2.1,z.2.2⟩,g,i,j,k _ _ (.inl L) e,c⟩
 |set S n=>obtain⟨g,i,j,t,e,c⟩:=x;exact⟨g,i,j,t,k _ _ (.inl L) e,c⟩
 |ins C U fs =>
  obtain⟨d,z,ne,e,A,⟨s,i,j,e2,c⟩,r⟩:=x;exact⟨N _ d,z,ne,k _ _ (.inl L) e,A,⟨s,i,j,k _ _ (.inr d) e2,c⟩,r⟩
 |own y=>obtain⟨g,e⟩:=x;exact⟨g,k _ _ (.inl L) e⟩
 |xd fs=>obtain⟨A,⟨s,i,j,e,c⟩,r⟩:=x;exact⟨A,⟨s,i,j,k _ _ (.inl L) e,c⟩,r⟩
 |rng lo R=>obtain⟨t,u,v,e⟩:=x;exact⟨t,u,v,k _ _ (.inl L) e⟩
 |frz g u G=>obtain⟨e,q⟩:=x;exact⟨k _ _ (.inl L) e,G q⟩
 |tbl q =>
  obtain⟨F,e,e1,e2⟩:=x;refine⟨F,k a _ (.inl L) e,e1,λpos v r=>?_⟩;obtain⟨c,o,y,m,t,r1,r2,E⟩:=e2 pos v r;exact⟨c,o,y,m,t,r1,O _ _ _ r2,E⟩
 |met f y =>
  have e:h.get? a=Z (PySem.W.methodObj (.ref f) (.ref y)):=x;show h'.get? a=Z (PySem.W.methodObj (.ref f) (.ref y));exact k a _ (.inl L) e
 |ext φ=>obtain⟨p,⟨o,e⟩,st⟩:=x;exact⟨st _ _ p λo q=>k _ _ (.inl L) q,⟨o,k _ _ (.inl L) e⟩,st⟩
theorem Hf.lt(x:Hf P w H h)(e:H a=Z o):a<h.objs.size:=(x a o e).lt
def Hf.fresh(x:Hf P w H h)(e:h.objs.size<=a):H a=Y:=by
 cases q:H a with
 |none=>rfl
 |some u=>exact absurd (ZR (x.lt q) e) (Yj _)
def Hf.kept{h':SL}(x:Hf P w H h)(k:∀b u,h.get? b=Z u->h'.get? b=Z u):Hf P w H h':=λa o e =>
 (x a o e).JY (λb u _ q=>k b u q) (λ_ q=>q) (λ_ _ q=>q) λ_ _ _ q=>q
def Hf.laid{h':SL}(x:Hf P w H h)(k:∀b u,h.get? b=Z u->h'.get? b=Z u)(g:h.objs.size<=a)(d:bF P w (upd H a o) h' a o):Hf P w (upd H a o) h':=λb u e=>by
 have f:=x.fresh g;by_cases hb:b=a
 ·subst hb;rw[ay]at e;cases e;exact d
 ·rw[aE hb]at e;exact(x b u e).JY (λc v _ q=>k c v q) (λc q=>by rw[aE (dj q f)];exact q) (λc i q=>by rw[aE (dj q f)];exact q) λc _ _ q=>by rw[aE (dj q f)];exact q
end
noncomputable def Rd(H:Hp)(a:KF)(u:HO):Prop:=H a=Z u\/∃o,H a=Z (.frz o u)
def Rd.ok(r:Rd H a u)(x:Hf P w H h):bF P w H h a u:=by
 rcases r with r | ⟨o,r⟩
 ·exact x a u r
 ·obtain⟨_,q⟩:=x a _ r;exact q
noncomputable def Gk:Option HO->Prop
 |some (.lst _)=>True
 |some (.dK _)=>True
 |some (.dT _)=>True
 |some (.set _ _)=>True
 |some (.ins _ _ _)=>True
 |some (.ext _)=>True
 |_=>False
section
def Hf.write{h':SL}(m:Hf P w H h)(a:Gk (H x))(he:e=x\/H e=Z (.own x))(k:∀b u,b≠e->h.get? b=Z u->h'.get? b=Z u)(p:∃u,h'.get? e=Z u)(i:bF P w (upd H x o') h' x o'):Hf P w (upd H x o') h':=λb u q=>by
 have l:∀c y,H c=Z (.own y)->c≠x:=λc y r z=>by subst z;rw[r]at a;exact a
 have o:∀c d,H c=Z (.tup d)->c≠x:=λc d r z=>by subst z;rw[r]at a;exact a
 by_cases hb:b=x
 ·subst hb;rw[ay]at q;cases q;exact i
 ·rw[aE hb]at q;by_cases g:b=e
  ·have j:H b=Z (.own x):=by
    rcases he with z | z
    ·exact absurd (g.trans z) hb
    ·rw[g];exact z
   rw[q]at j;cases j;obtain⟨v,n⟩:=p;exact⟨v,by rw[g];exact n⟩
  ·refine(m b u q).JY (λc v f r=>k c v ?_ r) (λc r=>by rw[aE (l c b r)];exact r) (λc d r=>by rw[aE (o c d r)];exact r) λc _ _ r=>by rw[aE λz=>by subst z;rw[r]at a;exact a];exact r
   rcases f with rfl | f
   ·exact g
   ·rintro rfl;rcases he with z | z
    ·exact l c b f z
    ·rw[f]at z;cases z;exact hb L
end
structure Un(fs ex:W6)(H H':Hp)(h h':SL):Prop where
 keep:∀b o,h.get? b=some o->H b=none->b∉fs->b∉ex->h'.get? b=some o
 slot:∀b o,h.get? b=some o->H b=none->b∈fs->b∉ex->∃sl,h'.get? b=some { o with slots:=sl }
 free:∀b o,h.get? b=some o->H b=none->b∉ex->H' b=none
 there:∀b o,h.get? b=some o->b∉ex->∃o',h'.get? b=some o'
 Iz:∀b xs,H b=some (.tup xs)->H' b=some (.tup xs)
 Il:∀b o u,H b=some (.frz o u)->H' b=some (.frz o u)
 Ib:∀b q,H b=some (.tbl q)->H' b=some (.tbl q)
section
def Un.any(u:Un fs ex H H1 h h1)(q:h.get? b=Z d)(n:H b=Y)(f:b∉ex):∃g,h1.get? b=Z { d with slots:=g }:=by
 by_cases hb:b∈fs
 ·exact u.slot b d q n hb f
 ·exact⟨d.slots,u.keep b d q n hb f⟩
def Un.kept{h h':SL}(k:∀b u,h.get? b=Z u->h'.get? b=Z u):Un fs ex H H h h' :=
 ⟨λb d q _ _ _=>k b d q,λb d q _ _ _=>⟨d.slots,k b d q⟩,λ_ _ _ n _=>n,λb d q _=>⟨d,k b d q⟩,λ_ _ q=>q,λ_ _ _ q=>q,λ_ _ q=>q⟩
def Un.refl:Un fs ex H H h h:=Un.kept λ_ _ q=>q
def Un.laid{h h':SL}(k:∀b u,h.get? b=Z u->h'.get? b=Z u)(g:h.objs.size<=a)(d:H a=Y):Un fs ex H (upd H a o) h h' where
 keep:=λb u q _ _ _=>k b u q
 slot:=λb u q _ _ _=>⟨u.slots,k b u q⟩
 free:=λb u q n _=>by rw[aE (Zg (ZR (Za q) g))];exact n
 there:=λb u q _=>⟨u,k b u q⟩
 Iz:=λb f q=>by rw[aE (dj q d)];exact q
 Il:=λb u f q=>by rw[aE (dj q d)];exact q
 Ib:=λb n q=>by rw[aE (dj q d)];exact q
def Un.write{h h':SL}(d:Gk (H x))(he:e=x\/H e=Z (.own x))(k:∀b u,b≠e->h.get? b=Z u->h'.get? b=Z u)(l:∃u,h'.get? e=Z u):Un fs ex H (upd H x o) h h':=by
 have g:∀b,H b=Y->b≠x:=λb n z=>by subst z;rw[n]at d;exact d
 have hb:∀b,H b=Y->b≠e:=λb n z=>by
  subst z;rcases he with r | r
  ·exact g b n r
  ·rw[n]at r;cases r
 have f:∀b u,H b=Z u->¬Gk (Z u)->b≠x:=λb u q nm z=>by subst z;rw[q]at d;exact nm d
 refine⟨λb u q n _ _=>k b u (hb b n) q,λb u q n _ _=>⟨u.slots,k b u (hb b n) q⟩,λb u q n _=>by rw[aE (g b n)];exact n,λb u q _=>?_,
  λb j q=>by rw[aE (f b _ q λz=>z)];exact q,λb u j q=>by rw[aE (f b _ q λz=>z)];exact q,λb n q=>by rw[aE (f b _ q λz=>z)];exact q⟩
 by_cases i:b=e
 ·subst i;exact l
 ·exact⟨u,k b u i q⟩
end
noncomputable def gone(v:KM):Obj:=⟨v,Y,.freed,#[]⟩
def u4(H:Hp)(a:KF)(o:Obj):Obj:=match H a with
 |some (.tbl q)=>gone (.str q 0)
 |some _=>gone .none
 |none=>match o.data with
  |.freed=>gone .none
  |_=>o
def nz(h:SL)(H:Hp):Heap:=⟨h.objs.mapIdx λa o=>u4 H a o,h.life⟩
def Tb(b:SL)(a:KF)(q:Str):Prop:=b.objs[a]?=Z (gone (.str q 0))
def vk(h:SL)(H:Hp):(nz h H).objs.size=h.objs.size:=Array.size_mapIdx
def pC(h:SL)(H:Hp)(b:KF):(nz h H).objs[b]?=(h.objs[b]?).map (u4 H b):=Array.getElem?_mapIdx
def lr{h:SL}:h.get? b=Z o↔h.objs[b]?=Z o/\o.data ≠ .freed:=by
 unfold Heap.get?;split
 ·rename_i e;exact⟨λz=>(nomatch z),λ⟨z,n⟩=>by rw[e]at z;cases z;exact absurd L n⟩
 ·rename_i n;exact⟨λz=>⟨z,λd=>by
   obtain⟨c,u,a,f⟩:=o;cases (show a=Data.freed from d);exact n _ _ _ z⟩,λz=>z.1⟩
def xZ{h:SL}(e:h.get? b=Z o)(n:H b=Y):(nz h H).get? b=Z o:=by
 obtain⟨e1,e2⟩:=lr.mp e;refine lr.mpr ⟨?_,e2⟩;rw[pC,e1,Option.map_some];unfold u4;rw[n];cases h:o.data with
 |freed=>exact absurd h e2
 |_=>rfl
def As(e:(nz h H).get? b=Z o):h.get? b=Z o/\H b=Y:=by
 obtain⟨e1,e2⟩:=lr.mp e;rw[pC]at e1;obtain⟨u,e3,a⟩:=Zs.mp e1;unfold u4 at a;cases q:H b with
 |some y =>
  rw[q]at a;cases y<;>(cases a;exact absurd L e2)
 |none =>
  rw[q]at a;refine⟨lr.mpr ?_,rfl⟩;cases d:u.data with
  |freed=>rw[d]at a;cases a;exact absurd L e2
  |_ =>
   have f:u=o:=by rw[d]at a;exact a
   subst f;exact⟨e3,e2⟩
def zg:Tb (nz h H) b q↔H b=Z (.tbl q)/\b<h.objs.size:=by
 unfold Tb;rw[pC];constructor
 ·intro e;obtain⟨u,e3,a⟩:=Zs.mp e;refine⟨?_,(Array.getElem?_eq_some_iff.mp e3).1⟩;unfold u4 at a;cases y:H b with
  |some f =>
   rw[y]at a;cases f with
   |tbl i=>cases a;rfl
   |_=>cases a
  |none =>
   rw[y]at a;cases d:u.data with
   |freed=>rw[d]at a;cases a
   |_ =>
    have g:u=gone (.str q 0):=by rw[d]at a;exact a
    rw[g]at d;cases d
 ·rintro⟨e,l⟩;rw[Ya l,Option.map_some];unfold u4;rw[e]
noncomputable def zt(g h:SL)(L:KF):Yx:=(List.range h.objs.size).filterMap λa=>if a=L\/(g.get? a).isSome=M then Y else (h.get? a).map λo=>(a,o)
def rest(g h:SL)(L d:KF):Yx:=(zt g h L).filter λp=>decide (p.1≠d)
structure Mod(K:X3)(mg:Wu)(base:SL):Prop where
 NL:K.In base
 glob:base.Ns mainGlobals mg
 blt:∃mb,base.Ns builtinsNs mb/\∀x:Str,x ≠ "__name__" → mb x=bootBuiltins x
 nolimit:base.NoLimit
structure Cx where
 prog:P3
 w:SZ
 K:X3
 mg:Wu
 base:SL
 A:Re
 N:List Str
 s₀:GM
 H₀:Hp
 env:Env
 outer:List Env
 stack:List Env
 ex:W6
 fn:Str->Bool
 calm:Bool
 pn:Yx
 xe:Z1
abbrev K1(e:Expr)(l:List Expr)(X:Cx):Prop:=Pi (e :: l) X.env=(B,eval e X.env) :: Pi l X.env
abbrev K2(p:Pos)(l:List Expr)(X:Cx):Prop:=(backTo p (Pi l X.env)).any (·.1)=B
abbrev K3(x:Str):Prop:=(x==("__debug__" : Str))=B
abbrev K4(x:Str):Prop:=(x==("__classdict__" : Str))=B
noncomputable def Ha(l:List Env):W6:=l.filterMap (·.frame)
abbrev Cx.fs(X:Cx):W6:=Ha X.outer
noncomputable def HU(a:Scope)(x:Str):Prop:=a.names.lookup x=Z .local\/a.names.lookup x=Z .cell\/a.names.lookup x=Z .free
noncomputable def Loc(a:Scope)(x:Str):Prop:=a.names.lookup x=Z .local\/a.names.lookup x=Z .cell
noncomputable def Look(a:Env)(h:SL)(m:Wu)(x:Str)(u:KM):Prop :=
 (a.kindOf x=Z .local/\m x=Z u)\/((a.kindOf x=Z .cell\/a.kindOf x=Z .free)/\∃c,a.cells.lookup x=Z c/\h.IsCell c (Z u))
structure Cx.Ok(X:Cx):Prop where
 mod:Mod X.K X.mg X.base
 kind:X.env.scope.kind=.function
 glob:X.env.globals=mainGlobals
 blt:X.env.builtins=builtinsNs
 above:X.s₀.heap.objs.size<=X.env.locals
 inj:∀x y c,X.env.cells.lookup x=some c->X.env.cells.lookup y=some c->x=y
 has:∀x,(X.env.kindOf x=some .cell\/X.env.kindOf x=some .free)->∃c,X.env.cells.lookup x=some c
 Oy:∀x c,X.fn x=true->X.env.cells.lookup x=some c->X.s₀.heap.objs.size<=c
 hd:X.calm=true->X.A.handled=none
 frames:X.A.frames=some X.stack
 OS:X.stack=X.outer\/(X.stack=X.env :: X.outer/\X.env.frame=some X.env.locals)
 Tz:∀b∈X.ex,b≠X.env.locals/\∀x c,X.env.cells.lookup x=some c->c≠b
 tb:∀b q,Tb X.base b q->X.H₀ b=some (.tbl q)
 bs:∀b o,X.base.get? b=some o->X.s₀.heap.get? b=some o/\X.H₀ b=none
 Lm:X.base.objs.size<=X.s₀.heap.objs.size
 J9:∀b o,X.base.get? b=some o->b∉X.ex
 Lk:∀b∈X.ex,b∉X.fs
 Hx:X.s₀.heap.FunFrames X.base X.outer
 MJ:∀b∈X.fs,X.H₀ b=none
structure Inv(X:Cx)(pins:Yx)(J:List (Option V))(H:Hp)(s:GM):Prop where
 ok:X.Ok
 os:s.os=X.s₀.os
 bare:AllBare s.gens
 base:Un X.fs X.ex X.H₀ H X.s₀.heap s.heap
 loc:∃m,s.heap.Ns X.env.locals m/\∀(i:Nat)(x:Str)(v:V),X.N[i]?=some x->J[i]?=some (some v)->HU X.env.scope x->∃u,RelV v u/\Look X.env s.heap m x u
 cell:∀x c,X.env.cells.lookup x=some c->∃v,s.heap.IsCell c v
 free:H X.env.locals=none
 G1:∀x c,X.env.cells.lookup x=some c->H c=none
 pin:∀p∈X.pn++pins,s.heap.get? p.1=some p.2/\H p.1=none/\p.1≠X.env.locals/\p.1∉X.fs/\∀v,p.2.data ≠ .cell v
 xt:Hf X.prog X.w H s.heap
 len:J.length=X.N.length
section
variable{X:Cx}
def Cx.Ok.Qp(a:X.Ok)(e:X.base.get? b=Z o):b∉X.fs:=λhb=>by
 have:=(a.Hx.mem hb).1;rw[e]at this;cases this
theorem Inv.bs(I:Inv X pins J H s):∀b o,X.base.get? b=Z o->s.heap.get? b=Z o/\H b=Y:=λb o e =>
 ⟨I.base.keep b o (I.ok.bs b o e).1 (I.ok.bs b o e).2 (I.ok.Qp e) (I.ok.J9 b o e),I.base.free b o (I.ok.bs b o e).1 (I.ok.bs b o e).2 (I.ok.J9 b o e)⟩
theorem Inv.tb(I:Inv X pins J H s):∀b q,Tb X.base b q->H b=Z (.tbl q):=λb q e=>I.base.Ib b q (I.ok.tb b q e)
def Inv.bk(I:Inv X pins J H s):∀b o,X.base.get? b=Z o->s.heap.get? b=Z o:=λb o e=>(I.bs b o e).1
theorem Inv.mod(I:Inv X pins J H s):Mod X.K X.mg X.base:=I.ok.mod
def Inv.Ht(I:Inv X pins J H s):X.K.In s.heap:=I.ok.mod.NL.keeps I.bk
theorem Inv.lt(I:Inv X pins J H s):X.env.locals<s.heap.objs.size:=let ⟨_,a,_⟩:=I.loc;a.lt
def Inv.sz(I:Inv X pins J H s):X.s₀.heap.objs.size<=s.heap.objs.size:=Z2 I.ok.above (XD I.lt)
def Inv.Qo(I:Inv X pins J H s)(h:s.heap.objs.size<=a):a∉X.fs:=λhb=>by
 obtain⟨_,o,b,_⟩:=I.ok.Hx.mem hb;exact absurd (ZR (Za b) (Z2 I.sz h)) (Yj _)
def Inv.MN(I:Inv X pins J H s):∀x c,X.env.cells.lookup x=Z c->c≠X.env.locals:=λx c e z=>by
 obtain⟨v,o,a,hd⟩:=I.cell x c e;obtain⟨m,⟨f,g,h,d,b,_⟩,_⟩:=I.loc;rw[z,d]at a;cases a;rw[b]at hd;cases hd
theorem Inv.Hx(I:Inv X pins J H s):s.heap.FunFrames X.base X.outer:=by
 have all:∀(l:List Env),(∀b∈Ha l,b∈X.fs)->X.s₀.heap.FunFrames X.base l->s.heap.FunFrames X.base l:=by
  intro l
  induction l with
  |nil=>intro _ _;trivial
  |cons env r g =>
   intro f m;obtain⟨n,⟨L,o,a,j,i,hd⟩,h⟩:=m;have d:L∈X.fs:=f L (by unfold Ha;rw[WN,a];exact Zu);obtain⟨p,e⟩:=I.base.slot L o i (I.ok.MJ L d) d λz=>I.ok.Lk L z d;exact⟨n,⟨L,_,a,j,e,hd⟩,g (λb hb=>f b (by unfold Ha;rw[WN,a];exact Zt _ hb)) h⟩
 exact all X.outer (λ_ hb=>hb) I.ok.Hx
theorem Inv.stack(I:Inv X pins J H s):s.heap.FunFrames X.base X.stack:=by
 rcases I.ok.OS with e | ⟨e,b⟩
 ·rw[e];exact I.Hx
 ·rw[e];obtain⟨m,a,_⟩:=I.loc;refine .cons (by rw[I.ok.kind];decide) b a ?_ I.Hx;exact Heap.get?_none_of_le (Z2 I.ok.Lm I.ok.above)
def Inv.Ig(I:Inv X pins J H s):∀b∈Ha X.stack,b∈X.env.locals :: X.fs:=λb hb=>by
 rcases I.ok.OS with e | ⟨e,a⟩
 ·rw[e]at hb;exact Zt _ hb
 ·rw[e]at hb;unfold Ha at hb;rw[WN,a]at hb;exact hb
def Inv.Jj(I:Inv X pins J H s):∀b∈Ha X.stack,H b=Y:=λb hb=>by
 rcases Zj.mp (I.Ig b hb) with e | hb
 ·rw[e];exact I.free
 ·obtain⟨_,o,a,_⟩:=I.ok.Hx.mem hb;exact I.base.free b o a (I.ok.MJ b hb) λz=>I.ok.Lk b z hb
def Inv.step{h':SL}{g':Array GenState}{d':Drawn}{ch:W6}(I:Inv X pins J H s)(C:∀b∈ch,(b∈X.ex\/X.s₀.heap.objs.size<=b)/\b≠X.env.locals/\(∀x c,X.env.cells.lookup x=Z c->c≠b)/\∀p∈X.pn++pins,p.1≠b)(f:∀b o,b≠X.env.locals->b∉X.fs->b∉ch->s.heap.get? b=Z o->H b=Y->h'.get? b=Z o)(h:∀b o,b≠X.env.locals->b∈X.fs->b∉ch->s.heap.get? b=Z o->H b=Y->∃E,h'.get? b=Z { o with slots:=E })(free:∀b o,b∉ch->s.heap.get? b=some o->H b=none->H' b=none)(j:∀b o,b∉ch->s.heap.get? b=Z o->∃y,h'.get? b=Z y)(Iz:∀b g,H b=Z (.tup g)->H' b=Z (.tup g))(Il:∀b o u,H b=Z (.frz o u)->H' b=Z (.frz o u))(Ib:∀b q,H b=Z (.tbl q)->H' b=Z (.tbl q))(R:∀m,s.heap.Ns X.env.locals m->h'.Ns X.env.locals m)(P:Hf X.prog X.w H' h')(hg:AllBare g') :
  Inv X pins J H' { s with heap:=h',gens:=g',drawn:=d',toks:=Q }:=by
 have O:∀b o,X.s₀.heap.get? b=Z o->b≠X.env.locals:=λb o e=>Zg (ZR (Za e) I.ok.above);have D:∀b o,X.s₀.heap.get? b=Z o->b∉X.ex->b∉ch:=λb o e a hb=>by
  rcases (C b hb).1 with z | z
  ·exact a z
  ·exact absurd (ZR (Za e) z) (Yj _)
 have cellK:∀x c,X.env.cells.lookup x=Z c->∀v,s.heap.IsCell c v->h'.IsCell c v:=λx c e v ⟨o,t,hd⟩=>by
  have A:c∉ch:=λz=>(C c z).2.2.1 x c e L;by_cases N:c∈X.fs
  ·obtain⟨E,q⟩:=h c o (I.MN x c e) N A t (I.G1 x c e);exact⟨_,q,hd⟩
  ·exact⟨o,f c o (I.MN x c e) N A t (I.G1 x c e),hd⟩
 refine⟨I.ok,I.os,hg,⟨λb o e n hb a=>?_,λb o e n hb a=>?_,λb o e n a=>?_,λb o e a=>?_,λb g e=>Iz b g (I.base.Iz b g e),λb o g e=>Il b o g (I.base.Il b o g e),λb q e=>Ib b q (I.base.Ib b q e)⟩,?_,λx c e=>?_,?_,λx c e=>?_,λp G=>?_,P,I.len⟩
 ·exact f b o (O b o e) hb (D b o e a) (I.base.keep b o e n hb a) (I.base.free b o e n a)
 ·obtain⟨E,e1⟩:=I.base.slot b o e n hb a;obtain⟨Ul,e2⟩:=h b _ (O b o e) hb (D b o e a) e1 (I.base.free b o e n a);exact⟨Ul,e2⟩
 ·obtain⟨y,e1⟩:=I.base.there b o e a;exact free b y (D b o e a) e1 (I.base.free b o e n a)
 ·obtain⟨y,e1⟩:=I.base.there b o e a;exact j b y (D b o e a) e1
 ·obtain⟨m,S,U⟩:=I.loc;refine⟨m,R m S,λi x v e1 e2 e3=>?_⟩;obtain⟨u,r,l⟩:=U i x v e1 e2 e3;refine⟨u,r,?_⟩;rcases l with l | ⟨k,c,e,z⟩
  ·exact .inl l
  ·exact .inr ⟨k,c,e,cellK x c e _ z⟩
 ·obtain⟨v,z⟩:=I.cell x c e;exact⟨v,cellK x c e v z⟩
 ·obtain⟨m,⟨o,_,_,t,_⟩,_⟩:=I.loc;exact free _ o (λz=>(C _ z).2.1 L) t I.free
 ·obtain⟨v,o,t,hd⟩:=I.cell x c e;exact free c o (λz=>(C c z).2.2.1 x c e L) t (I.G1 x c e)
 ·obtain⟨e,n,ne,F,d⟩:=I.pin p G;have A:p.1∉ch:=λz=>(C p.1 z).2.2.2 p G L;exact⟨f p.1 p.2 ne F A e n,free p.1 p.2 A e n,ne,F,d⟩
def Inv.un{t':Nat}(I:Inv X pins J H s)(u:Un X.fs [] H H' s.heap h')(f:Hf X.prog X.w H' h'):Inv X pins J H' { s with heap:=h',toks:=t' }:=by
 obtain⟨m,⟨o,v,y,a,r⟩,_⟩:=id I.loc;obtain⟨p,i⟩:=u.any a I.free (by simp);exact I.step (g':=s.gens) (d':=s.drawn) (ch:=[]) (λ_ z=>nomatch z) (λb o _ hb _ e n=>u.keep b o e n hb (by simp)) (λb o _ hb _ e n=>u.slot b o e n hb (by simp)) (λb o _ e n=>u.free b o e n (by simp)) (λb o _ e=>u.there b o e (by simp)) u.Iz u.Il u.Ib (λt h=>by
  obtain⟨q,l,j,d,g⟩:=h;rw[a]at d;cases d;exact⟨_,l,j,i,g⟩) f I.bare
def Inv.call{g':Array GenState}{t':Nat}{d':Drawn}{ch:W6}(I:Inv X pins J H s)(u:Un (Ha X.stack) ch H H' s.heap h')(i:Hf X.prog X.w H' h')(q:AllBare g')(g:∀b∈ch,(b∈X.ex\/X.s₀.heap.objs.size<=b)/\b≠X.env.locals/\(∀x c,X.env.cells.lookup x=Z c->c≠b)/\∀p∈X.pn++pins,p.1≠b) :
  Inv X pins J H' { s with heap:=h',gens:=g',drawn:=d',toks:=t' }:=by
 obtain⟨m,⟨o,D,E,f,r⟩,_⟩:=id I.loc;obtain⟨y,d⟩:=u.any f I.free λz=>(g _ z).2.1 L;exact I.step (ch:=ch) g (λb o d hb a e n=>u.keep b o e n (λz=>(Zj.mp (I.Ig b z)).elim d hb) a) (λb o _ _ a e n=>u.any e n a) (λb o a e n=>u.free b o e n a) (λb o a e=>u.there b o e a) u.Iz u.Il u.Ib (λC l=>by
  obtain⟨A,v,t,h,j⟩:=l;rw[f]at h;cases h;exact⟨_,v,t,d,j⟩) i q
def Inv.turned{h':SL}{t':Nat}{it:KF}(I:Inv X pins J H s)(k:∀b o,b≠it->s.heap.get? b=Z o->h'.get? b=Z o)(h:H it=Y)(d:it≠X.env.locals)(t:it∈X.ex\/X.s₀.heap.objs.size<=it)(l:∀x c,X.env.cells.lookup x=Z c->c≠it)(j:∀p∈X.pn++pins,p.1≠it):Inv X pins J H { s with heap:=h',toks:=t' }:=by
 have f:∀b u,H b=Z u->b≠it:=λb u e z=>by rw[z,h]at e;cases e
 refine I.step (g':=s.gens) (d':=s.drawn) (ch:=[it]) (λb hb=>?_) (λb o _ _ a e _=>k b o (λz=>a (by simp[z])) e) (λb o _ _ a e _=>⟨o.slots,k b o (λz=>a (by simp[z])) e⟩) (λ_ _ _ _ n=>n)
  (λb o a e=>⟨o,k b o (λz=>a (by simp[z])) e⟩) (λ_ _ e=>e) (λ_ _ _ e=>e) (λ_ _ e=>e) (λm i=>?_) (λb u e=>?_) I.bare
 ·have e:b=it:=by simpa using hb
  subst e;exact⟨t,d,l,j⟩
 ·obtain⟨o,w,y,g,r⟩:=i;exact⟨o,w,y,k _ o (YR d) g,r⟩
 ·refine(I.xt b u e).JY (λc v a q=>k c v ?_ q) (λ_ q=>q) (λ_ _ q=>q) λ_ _ _ q=>q;rcases a with z | z
  ·rw[z];exact f b u e
  ·exact f c _ z
def Inv.tok(I:Inv X pins J H s)(t:Nat):Inv X pins J H { s with toks:=t }:=I.un (h':=s.heap) (t':=t) Un.refl I.xt
theorem Inv.kept{h':SL}{t':Nat}(I:Inv X pins J H s)(k:∀b u,s.heap.get? b=Z u->h'.get? b=Z u):Inv X pins J H { s with heap:=h',toks:=t' }:=I.un (Un.kept k) (I.xt.kept k)
theorem Inv.laid{h':SL}{a:KF}{o:HO}{t':Nat}(I:Inv X pins J H s)(k:∀b u,s.heap.get? b=Z u->h'.get? b=Z u)(e:s.heap.objs.size<=a)(d:bF X.prog X.w (upd H a o) h' a o) :
  Inv X pins J (upd H a o) { s with heap:=h',toks:=t' }:=I.un (Un.laid k e (I.xt.fresh e)) (I.xt.laid k e d)
theorem Inv.write{h':SL}{x e:KF}(I:Inv X pins J H s)(d:Gk (H x))(he:e=x\/H e=Z (.own x))(k:∀b u,b≠e->s.heap.get? b=Z u->h'.get? b=Z u)(f:∃u,h'.get? e=Z u)(a:bF X.prog X.w (upd H x o) h' x o):Inv X pins J (upd H x o) { s with heap:=h',toks:=g }:=I.un (Un.write d he k f) (I.xt.write d he k f a)
def Inv.Jl(I:Inv X pins J H s)(h:∀p∈a,s.heap.get? p.1=Z p.2/\H p.1=Y/\p.1≠X.env.locals/\p.1∉X.fs/\∀v,p.2.data ≠ .cell v):Inv X a J H s :=
 ⟨I.ok,I.os,I.bare,I.base,I.loc,I.cell,I.free,I.G1,λp b=>(ZW.mp b).elim (λz=>I.pin p (Yq _ z)) (h p),I.xt,I.len⟩
def qM{N:List Str}(d:N.Nodup){i j:Nat}{x:Str}(a:N[i]?=Z x)(b:N[j]?=Z x):i=j:=by
 obtain⟨f,e1⟩:=Zc.mp a;obtain⟨e,e2⟩:=Zc.mp b;exact(List.getElem_inj d).mp (e1.trans e2.symm)
def uT(I:Inv X pins J H s)(hN:X.N.Nodup)(D:X.N[i]?=Z x)(l:Loc X.env.scope x)(r:RelV v u)(h:∀S,Inv X pins (J.set i (Z v)) H S->(∃a,Heap.SameBut a s.heap S.heap/\(a=X.env.locals\/X.env.cells.lookup x=Z a))->Q () S)(hf:{`q0,X.fn x=true\/X.env.scope.names.lookup x=Z .local}):On Mq0 A (storeName X.env x u) Q E s:=by
 obtain⟨m,hn,hl⟩:=id I.loc;have QW:(X.env.scope.kind == .class||(X.env.scope.kind == .module&&X.env.locals != X.env.globals))=B:=by rw[I.ok.kind];rfl
 have SQ:i<J.length:=by rw[I.len];exact(Zc.mp D).1
 have MN:=I.MN;have tracked:∀{a:KF}{h':SL},(∃o,s.heap.get? a=Z o/\H a=Y)->Heap.SameBut a s.heap h'->Hf X.prog X.w H h':=λ{a h'} ha f b ob e=>by
  obtain⟨_,_,LO⟩:=ha;refine(I.xt b ob e).JY (λc F g q=>(f.2 c ?_).trans q) (λ_ q=>q) (λ_ _ q=>q) λ_ _ _ q=>q;rintro rfl;rcases g with rfl | g
  ·rw[LO]at e;cases e
  ·rw[LO]at g;cases g
 rcases l with t | t
 ·refine wpAny_storeName_local t hn (λh' LM f=>?_) QW;obtain⟨oL,_,_,NW,_⟩:=id hn;refine h _ ⟨I.ok,I.os,I.bare,⟨λb o e n hb l=>?_,λb o e n hb l=>?_,I.base.free,λb o e l=>?_,I.base.Iz,I.base.Il,I.base.Ib⟩,⟨_,LM,λj y O e1 e2 e3=>?_⟩,λy c e=>?_,I.free,I.G1,λp hp=>?_,tracked ⟨oL,NW,I.free⟩ f,by simpa using I.len⟩ ⟨_,f,.inl L⟩
  ·exact(f.2 b (Zg (ZR (Za e) I.ok.above))).trans (I.base.keep b o e n hb l)
  ·obtain⟨R,e1⟩:=I.base.slot b o e n hb l;exact⟨R,(f.2 b (Zg (ZR (Za e) I.ok.above))).trans e1⟩
  ·obtain⟨o',e1⟩:=I.base.there b o e l;exact⟨o',(f.2 b (Zg (ZR (Za e) I.ok.above))).trans e1⟩
  ·by_cases C:j=i
   ·subst C;rw[D]at e1;cases e1;rw[We SQ]at e2;cases e2;exact⟨u,r,.inl ⟨t,by simp⟩⟩
   ·rw[Y8 (YR C)]at e2;obtain⟨P,U,q⟩:=hl j y O e1 e2 e3;refine⟨P,U,?_⟩;rcases q with⟨k,e⟩ | ⟨k,c,e,z⟩
    ·refine .inl ⟨k,?_⟩;have:y≠x:=λe=>C (qM hN e1 (e ▸ D));simp[this,e]
    ·exact .inr ⟨k,c,e,z.sameBut f (MN y c e)⟩
  ·obtain⟨F,z⟩:=I.cell y c e;exact⟨F,z.sameBut f (MN y c e)⟩
  ·obtain⟨e,n,ne,nf,d⟩:=I.pin p hp;exact⟨(f.2 p.1 ne).trans e,n,ne,nf,d⟩
 ·have QS:X.fn x=true:=by
   rcases hf with z | z
   ·exact z
   ·rw[z]at t;cases t
  obtain⟨c,g⟩:=I.ok.has x (.inl t);obtain⟨F,z⟩:=I.cell x c g;refine wpAny_storeName_cell I.ok.kind t g z (λh' Ja f=>?_);obtain⟨oc,SG,QI⟩:=id z;refine h { s with heap:=h' } ⟨I.ok,I.os,I.bare,⟨λb o e n hb l=>?_,λb o e n hb l=>?_,I.base.free,λb o e l=>?_,I.base.Iz,I.base.Il,I.base.Ib⟩,⟨m,hn.sameBut f (YR (MN x c g)),λj y O e1 e2 e3=>?_⟩,λy G e=>?_,I.free,I.G1,λp hp=>?_,tracked ⟨oc,SG,I.G1 x c g⟩ f,by simpa using I.len⟩ ⟨c,f,.inr g⟩
  ·exact(f.2 b (Zg (ZR (Za e) (I.ok.Oy x c QS g)))).trans (I.base.keep b o e n hb l)
  ·obtain⟨R,e1⟩:=I.base.slot b o e n hb l;exact⟨R,(f.2 b (Zg (ZR (Za e) (I.ok.Oy x c QS g)))).trans e1⟩
  ·obtain⟨o',e1⟩:=I.base.there b o e l;exact⟨o',(f.2 b (Zg (ZR (Za e) (I.ok.Oy x c QS g)))).trans e1⟩
  ·by_cases C:j=i
   ·subst C;rw[D]at e1;cases e1;rw[We SQ]at e2;cases e2;exact⟨u,r,.inr ⟨.inl t,c,g,Ja⟩⟩
   ·rw[Y8 (YR C)]at e2;obtain⟨P,U,q⟩:=hl j y O e1 e2 e3;refine⟨P,U,?_⟩;rcases q with q | ⟨k,G,e,z'⟩
    ·exact .inl q
    ·refine .inr ⟨k,G,e,z'.sameBut f ?_⟩;rintro rfl;exact C (qM hN e1 (I.ok.inj _ _ _ e g ▸ D))
  ·by_cases Ph:G=c
   ·subst Ph;exact⟨_,Ja⟩
   ·obtain⟨w2,z2⟩:=I.cell y G e;exact⟨w2,z2.sameBut f Ph⟩
  ·obtain⟨e,n,ne,nf,d⟩:=I.pin p hp;refine⟨(f.2 p.1 ?_).trans e,n,ne,nf,d⟩;intro q;rw[q,SG]at e;have q':oc=p.2:=Zk e;exact d F (by rw[← q'];exact QI)
def rC(I:Inv X pins J H s)(g:X.N.Nodup)(e:X.N[i]?=Z x)(d:Loc X.env.scope x)(r:RelV v u)(h:∀a,Inv X pins (J.set i (Z v)) H a->Q () a)(f:{`q0,X.fn x=true\/X.env.scope.names.lookup x=Z .local}):On b A (storeName X.env x u) Q E s :=
 uT I g e d r (λa j _=>h a j) f
def Inv.Ox{a:GM}{ch:W6}(I:Inv X pins J H s)(g:a.os=s.os)(u:Un (Ha X.stack) ch H H' s.heap a.heap)(d:Hf X.prog X.w H' a.heap)(h:AllBare a.gens)(i:∀b∈ch,(b∈X.ex\/X.s₀.heap.objs.size<=b)/\b≠X.env.locals/\(∀x c,X.env.cells.lookup x=Z c->c≠b)/\∀p∈X.pn++pins,p.1≠b):Inv X pins J H' a:=by
 obtain⟨h',g',d',t',f⟩:=a;have e:f=s.os:=g;subst e;exact I.call (g':=g') (t':=t') (d':=d') u d h i
end
abbrev XK:=KM->Option KF->Hp->Prop
noncomputable abbrev St:=List (Option V)
abbrev VK:=V->Hp->Prop
abbrev TE:=St->Hp->VK->Prop
abbrev TT:=St->Hp->(Bool->Hp->Prop)->Prop
abbrev TA:=St->Hp->(List V->Hp->Prop)->Prop
structure Ends where
 nx:St->Hp->Prop
 rt:VK
 bk:St->Hp->Prop:=λ_ _=>False
 ct:St->Hp->Prop:=λ_ _=>False
abbrev TS:=Ends->St->Hp->Prop
def EP(X:Cx)(a:Yx)(J:St)(Q:VK)(u:KM)(d:GM):Prop:=∃v b,Inv X a J b d/\RelV v u/\Q v b
noncomputable def TP(X:Cx)(a:Yx)(J:St)(Q:Bool->Hp->Prop)(b:Bool)(e:GM):Prop:=∃d,Inv X a J d e/\Q b d
def AP(X:Cx)(a:Yx)(J:St)(Q:List V->Hp->Prop)(e:Vx)(f:GM):Prop:=∃b d,Inv X a J d f/\aO b e/\Q b d
def SP(X:Cx)(a:Yx)(D:Ends)(f:Flow)(e:GM):Prop :=
 match f with
 |.next=>∃d b,Inv X a d b e/\D.nx d b
 |.brk=>∃d b,Inv X a d b e/\D.bk d b
 |.cont=>∃d b,Inv X a d b e/\D.ct d b
 |.ret u=>∃v d b,Inv X a d b e/\RelV v u/\D.rt v b
def PE(X:Cx)(e:Expr)(t:TE):Prop :=
 ∀(a:Yx)(s:GM)(J:St)(H:Hp)(Q:VK),Inv X a J H s->t J H Q->On (IR X.prog X.w) X.A (eval e X.env) (EP X a J Q) X.xe s
def PT(X:Cx)(e:Expr)(t:TT):Prop :=
 ∀(a:Yx)(s:GM)(J:St)(H:Hp)(Q:Bool->Hp->Prop),Inv X a J H s->t J H Q->On (IR X.prog X.w) X.A (isTrue e X.env (eval e X.env)) (TP X a J Q) X.xe s
def PW(X:Cx)(e:Expr)(t:TT):Prop :=
 ∀(whole:Sem KM)(a:Yx)(s:GM)(J:St)(H:Hp)(Q:Bool->Hp->Prop),Inv X a J H s->t J H Q->On (IR X.prog X.w) X.A (isTrue e X.env whole) (TP X a J Q) X.xe s
def PW.pt(h:PW X e t):PT X e t:=h _
def PA(X:Cx)(b:List Expr)(t:TA):Prop :=
 ∀(pos:Pos)(a:Yx)(s:GM)(J:St)(H:Hp)(Q:List V->Hp->Prop),Inv X a J H s->t J H Q->On (IR X.prog X.w) X.A (spliced (backTo pos (Pi b X.env))) (AP X a J Q) X.xe s
def PS(X:Cx)(b:Stmt)(t:TS):Prop :=
 ∀(a:Yx)(s:GM)(J:St)(H:Hp)(D:Ends),Inv X a J H s->t D J H->On (IR X.prog X.w) X.A (exec b X.env) (SP X a D) X.xe s
def HJ(X:Cx)(b:List Stmt)(t:TS):Prop :=
 ∀(a:Yx)(s:GM)(J:St)(H:Hp)(D:Ends),Inv X a J H s->t D J H->On (IR X.prog X.w) X.A (execs b X.env) (SP X a D) X.xe s
def thn{α:Type}{t:Sem α}{Q b:α->GM->Prop}{M:Model}(h:On M A t Q E s)(d:∀a s,Q a s->b a s):On M A t b E s:=Y3 h d λ_ _ x=>x
section
variable{X:Cx}
noncomputable def Ej(i:Nat):TE:=λJ H Q=>∃v,J[i]?=Z (Z v)/\Q v H
noncomputable def tC(v:V):TE:=λ_ H Q=>Q v H
def eQ(w:X.N[i]?=Z x)(o:HU X.env.scope x)(f:{`q1,K3 x})(g:{`q1,K4 x}):PE X (.Name x d) (Ej i):=by
 intro b s J H Q I h;obtain⟨v,e,h⟩:=h;obtain⟨m,p,t⟩:=I.loc;obtain⟨u,r,l⟩:=t i x v w e o;have fin:EP X b J Q u s:=⟨v,H,I,r,h⟩
 rcases l with⟨a,q⟩ | ⟨a,c,j,n⟩
 ·exact wpAny_Name (wpAny_loadName_local I.ok.kind a p q fin) f
 ·rcases a with a | a
  ·exact wpAny_Name (wpAny_loadName_cell I.ok.kind a j n fin) f
  ·exact wpAny_Name (wpAny_loadName_free I.ok.kind a j n fin g) f
def sC{i j pos}:PE X (.Constant (.int i) j pos) (tC (.int i)):=λ_ _ _ H _ I h=>wpAny_Constant_int ⟨.int i,H,I.tok _,⟨_,rfl⟩,h⟩
def DH{b j pos}:PE X (.Constant (.bool b) j pos) (tC (.bl b)):=λ_ _ _ H _ I h=>Constant_bool ⟨.bl b,H,I,rfl,h⟩
def BY{j pos}:PE X (.Constant .none j pos) (tC .non):=λ_ _ _ H _ I h=>Constant_none ⟨.non,H,I,rfl,h⟩
def Cd{x j pos}:PE X (.Constant (.str x) j pos) (tC (.str x)):=λ_ _ _ H _ I h=>Calls.Constant_str ⟨.str x,H,I.tok _,⟨_,rfl⟩,h⟩
noncomputable def Gl(X:Cx)(x:Str):Prop:=X.env.kindOf x=Z .globalImplicit
def lq(I:Inv X a J H s)(e:Gl X x)(d:X.mg x=Z u)(h:Q u s)(f:{`q1,K3 x}):On (IR X.prog X.w) X.A (eval (.Name x b) X.env) Q E s :=
 Calls.Name_function_global I.ok.kind e (Calls.loadGlobal_global (by rw[I.ok.glob];exact I.mod.glob.keeps I.bk) d h) f
def jt(I:Inv X a J H s)(g:Gl X x)(f:X.mg x=Y)(d:bootBuiltins x=Z u)(h:Q u s)(e:{`q1,x ≠ "__name__"})(i:{`q1,K3 x}):On (IR X.prog X.w) X.A (eval (.Name x b) X.env) Q E s:=by
 obtain⟨m,l,j⟩:=I.mod.blt;exact Calls.Name_function_global I.ok.kind g (Calls.loadGlobal_builtin (by rw[I.ok.glob];exact I.mod.glob.keeps I.bk) f (by rw[I.ok.blt];exact l.keeps I.bk) ((j x e).trans d) h) i
def Ad(d:Gl X x)(b:X.mg x=Z u)(r:RelV v u)(e:{`q1,K3 x}):PE X (.Name x a) (tC v) :=
 λ_ _ _ H _ I h=>lq I d b ⟨v,H,I,r,h⟩ e
def zO{v:V}(f:Gl X x)(e:X.mg x=Y)(b:bootBuiltins x=Z u)(r:RelV v u)(d:{`q1,x ≠ "__name__"})(g:{`q1,K3 x}):PE X (.Name x a) (tC v) :=
 λ_ _ _ H _ I h=>jt I f e b ⟨v,H,I,r,h⟩ d g
def PC(X:Cx)(g:CmpOp)(a b:Expr)(t:TE):Prop :=
 ∀(d:Yx)(s:GM)(J:St)(H:Hp)(Q:VK),Inv X d J H s->t J H Q →
  On (IR X.prog X.w) X.A (eval a X.env) (λv f=>On (IR X.prog X.w) X.A (eval b X.env) (λu e=>On (IR X.prog X.w) X.A (SC g v u) (EP X d J Q) X.xe e) X.xe f) X.xe s
def wQ(b:Expr)(h:d ≠ .In)(e:d ≠ .NotIn):behindInMarks d b=B:=by
 have e1:(d==CmpOp.In)=B:=by cases d<;>first | rfl | exact absurd L h
 have e2:(d==CmpOp.NotIn)=B:=by cases d<;>first | rfl | exact absurd L e
 cases b<;>simp[behindInMarks,e1,e2]
noncomputable def FL(ta:TE):TE:=λJ H Q=>ta J H λx d=>Q (.bl (decide (x=.non))) d
noncomputable def Ef(ta:TE):TE:=λJ H Q=>ta J H λx d=>Q (.bl (!decide (x=.non))) d
def RelV.IE(r:RelV x v):(v==Value.none)=decide (x=.non):=by
 cases x with
 |non=>cases r;rfl
 |bl _=>cases r;rfl
 |int _=>obtain⟨t,rfl⟩:=r;rfl
 |str _=>obtain⟨t,rfl⟩:=r;rfl
 |byt _=>obtain⟨t,rfl⟩:=r;rfl
 |flt _=>obtain⟨t,rfl⟩:=r;rfl
 |ref _=>cases r;rfl
 |ty _=>cases r;rfl
def CY{j pos'}(f:PE X a ta):PC X .Is a (.Constant .none j pos') (FL ta):=by
 intro d s J H Q I h;refine thn (f d s J H _ I h) λv s1 ⟨x,i,g,r1,e⟩=>?_;exact Constant_none (is_none_gen ⟨.bl _,i,g,by rw[r1.IE];rfl,e⟩)
def zR{j pos'}(f:PE X a ta):PC X .IsNot a (.Constant .none j pos') (Ef ta):=by
 intro d s J H Q I h;refine thn (f d s J H _ I h) λv s1 ⟨x,i,g,r1,e⟩=>?_;exact Constant_none (isnot_none_gen ⟨.bl _,i,g,by rw[r1.IE];rfl,e⟩)
noncomputable def tB(t:TE):TT:=λJ H Q=>t J H λx d=>∃c,x=.bl c/\Q c d
def vO(h:PC X f a b t)(g:behindInMarks f b=B:=by first | exact wQ _ (by decide) (by decide) | rfl):PT X (.Compare a [f] [b] pos) (tB t):=by
 intro e s J H Q I hw;refine wpAny_isTrue_Compare1 (thn (h e s J H _ I hw) λv s1 g=>thn g λu o j=>thn j λc n ⟨x,m,l,r1,i⟩=>?_) g;obtain⟨d,rfl,q⟩:=i;cases r1;exact Xy ⟨m,l,q⟩
noncomputable def FI(t u:TT):TT:=λJ H Q=>t J H λc d=>if c=M then u J d Q else Q B d
noncomputable def Uc(t u:TT):TT:=λJ H Q=>t J H λc d=>if c=M then Q M d else u J d Q
noncomputable def FJ(t:TT):TT:=λJ H Q=>t J H λc d=>Q (!c) d
def oM(f:PT X a tA):PW X (.BoolOp .And [a] pos) tA:=by
 intro g d s J H Q I h;refine isTrue_and (thn (f d s J H Q I h) λc s1 e=>?_);cases c with
 |true=>exact isTrue_and_nil e
 |false=>exact e
def oQ(f:PT X a tA):PW X (.BoolOp .Or [a] pos) tA:=by
 intro g d s J H Q I h;refine isTrue_or (thn (f d s J H Q I h) λc s1 e=>?_);cases c with
 |false=>exact isTrue_or_nil e
 |true=>exact e
def Cm{a:Expr}{pos:Pos}{tA OR:TT}{rest:List Expr}(l:PT X a tA)(j:PW X (.BoolOp .And (b :: rest) pos) OR):PW X (.BoolOp .And (a :: b :: rest) pos) (FI tA OR):=by
 intro i d s J H Q I h;refine isTrue_and (thn (l d s J H _ I h) λc s1 ⟨g,f,e⟩=>?_);cases c with
 |true=>exact j i d s1 J g Q f e
 |false=>exact⟨g,f,e⟩
def Ep{a:Expr}{pos:Pos}{tA OR:TT}{rest:List Expr}(l:PT X a tA)(j:PW X (.BoolOp .Or (b :: rest) pos) OR):PW X (.BoolOp .Or (a :: b :: rest) pos) (Uc tA OR):=by
 intro i d s J H Q I h;refine isTrue_or (thn (l d s J H _ I h) λc s1 ⟨g,f,e⟩=>?_);cases c with
 |true=>exact⟨g,f,e⟩
 |false=>exact j i d s1 J g Q f e
def BD(e:PT X a tA):PT X (.UnaryOp .Not a pos) (FJ tA):=by
 intro d s J H Q I h;exact isTrue_not (e d s J H (λc f=>Q (!c) f) I h)
noncomputable def D5(ta e:TE):TE:=λJ H Q=>ta J H λx d=>∃c,x=.bl c/\if c=M then e J d Q else Q (.bl B) d
noncomputable def E6(ta:TE):TE:=λJ H Q=>ta J H λx d=>∃c,x=.bl c/\Q (.bl (!c)) d
def Dm{op}(h:PE X a t):PE X (.BoolOp op [a] pos) t:=λd s J H Q I hw=>BoolOp_one (h d s J H Q I hw)
def CB{a:Expr}{ta tb:TE}{pos:Pos}{rest:List Expr}(j:PE X a ta)(i:PE X (.BoolOp .And (b :: rest) pos) tb):PE X (.BoolOp .And (a :: b :: rest) pos) (D5 ta tb):=by
 intro d s J H Q I h;refine BoolOp_and (thn (j d s J H _ I h) λv s1 ⟨x,g,f,r1,e⟩=>?_);obtain⟨c,rfl,e⟩:=e;cases r1;refine Xy ?_;cases c with
 |true=>exact i d s1 J g Q f e
 |false=>exact⟨.bl B,g,f,rfl,e⟩
def BN(f:PE X a ta):PE X (.UnaryOp .Not a pos) (E6 ta):=by
 intro d s J H Q I h;refine UnaryOp_ (thn (f d s J H _ I h) λv s1 ⟨x,i,g,r1,e⟩=>?_);obtain⟨c,rfl,e⟩:=e;cases r1;exact not_of (Xy ⟨.bl (!c),i,g,rfl,e⟩)
end
def Gw(K:X3)(H:Hp)(a:KF)(d:List V):Prop :=
 Rd H a (.lst d) ∨
  ∃(o:Obj)(b:Array KM)(n:Nat),K.lookup a=Z o/\o.cls=.type "list" ∧ o.dict=Y/\o.data=.seq b n/\b.size<=KB/\aO d b.toList
def GV(K:X3)(H:Hp)(a:KF)(d:List V):Prop :=
 Rd H a (.tup d) ∨
  ∃(o:Obj)(b:Array KM)(n:Nat),K.lookup a=Z o/\o.cls=.type "tuple" ∧ o.data=.seq b n/\b.size<=KB/\aO d b.toList
noncomputable def Fo:KM->Option V
 |.none=>Z .non
 |.bool b=>Z (.bl b)
 |.int i _=>Z (.int i)
 |.str x _=>Z (.str x)
 |.bytes b _=>Z (.byt b)
 |.float b _=>Z (.flt b)
 |.ref a=>Z (.ref a)
 |.type n=>Z (.ty n)
 |_=>Y
def RelV.abs(r:RelV x u):Fo u=Z x:=by
 cases x with
 |non=>cases r;rfl
 |bl _=>cases r;rfl
 |int _=>obtain⟨t,rfl⟩:=r;rfl
 |str _=>obtain⟨t,rfl⟩:=r;rfl
 |byt _=>obtain⟨t,rfl⟩:=r;rfl
 |flt _=>obtain⟨t,rfl⟩:=r;rfl
 |ref _=>cases r;rfl
 |ty _=>cases r;rfl
def RelV.inj(r:RelV x u)(q:RelV y u):x=y:=Zk (r.abs.symm.trans q.abs)
theorem aO.inj:∀{b a:List V}{d:Vx},aO b d->aO a d->b=a
 |_,_,_,.nil,.nil=>rfl
 |_,_,_,.cons r t,.cons f e=>by rw[r.inj f,aO.inj t e]
section
variable{X:Cx}
def Gw.of{K:X3}(h:H a=Z (.lst xs)):Gw K H a xs:=.inl (.inl h)
def GV.of{K:X3}(h:H a=Z (.tup xs)):GV K H a xs:=.inl (.inl h)
def Inv.list(I:Inv X pins J H s)(h:Gw X.K H a xs):∃b:Vx,aO xs b/\PlainL s.heap a b.toArray/\xs.length<=sizeLine:=by
 rcases h with h | ⟨o,b,n,f,g,hd,d,i,r⟩
 ·obtain⟨z,b,n,r,e⟩:=h.ok I.xt;exact⟨b,r,⟨_,n,e,rfl,rfl,rfl⟩,z⟩
 ·refine⟨b.toList,r,⟨o,n,I.Ht a o f,g,hd,by simpa using d⟩,?_⟩;have e:=r.length;simp only[ZC]at e;lia
def Inv.tuple(I:Inv X pins J H s)(h:GV X.K H a xs):∃b:Vx,aO xs b/\IsTup s.heap a b.toArray/\xs.length<=sizeLine:=by
 rcases h with h | ⟨o,b,n,f,g,d,i,r⟩
 ·obtain⟨z,b,r,_,p⟩:=h.ok I.xt;exact⟨b,r,p,z⟩
 ·refine⟨b.toList,r,⟨o,I.Ht a o f,g,n,by simpa using d⟩,?_⟩;have e:=r.length;simp only[ZC]at e;lia
def Inv.Kd(I:Inv X pins J H s)(h:Gw X.K H a xs)(l:Gw X.K H a ys):xs=ys:=by
 obtain⟨j,r,⟨o,n,e,_,_,d⟩,_⟩:=I.list h;obtain⟨b,i,⟨m,p,f,_,_,g⟩,_⟩:=I.list l;rw[e]at f;cases f;rw[d]at g;injection g with d1 _
 have:j=b:=by simpa using congrArg Array.toList d1
 subst this;exact r.inj i
def Inv.Jw(I:Inv X pins J H s)(h:GV X.K H a xs)(l:GV X.K H a ys):xs=ys:=by
 obtain⟨j,r,⟨o,e,_,n,d⟩,_⟩:=I.tuple h;obtain⟨b,i,⟨m,f,_,p,g⟩,_⟩:=I.tuple l;rw[e]at f;cases f;rw[d]at g;injection g with d1 _
 have:j=b:=by simpa using congrArg Array.toList d1
 subst this;exact r.inj i
end
noncomputable abbrev Cx.HM(X:Cx)(E:Z1):Cx:={ X with xe:=E }
abbrev Cx.IV(X:Cx):Cx:=X.HM λ_ _=>False
theorem Cx.Ok.HM{X:Cx}(a:X.Ok)(E:Z1):(X.HM E).Ok :=
 ⟨a.mod,a.kind,a.glob,a.blt,a.above,a.inj,a.has,a.Oy,a.hd,a.frames,a.OS,a.Tz,a.tb,a.bs,a.Lm,a.J9,a.Lk,a.Hx,a.MJ⟩
def Cx.Ok.GZ{X:Cx}(a:(X.HM E).Ok):X.Ok :=
 ⟨a.mod,a.kind,a.glob,a.blt,a.above,a.inj,a.has,a.Oy,a.hd,a.frames,a.OS,a.Tz,a.tb,a.bs,a.Lm,a.J9,a.Lk,a.Hx,a.MJ⟩
section
variable{X:Cx}
theorem Inv.HM(I:Inv X pins J H s)(E:Z1):Inv (X.HM E) pins J H s:=⟨I.ok.HM E,I.os,I.bare,I.base,I.loc,I.cell,I.free,I.G1,I.pin,I.xt,I.len⟩
theorem Inv.GZ(I:Inv (X.HM E) pins J H s):Inv X pins J H s:=⟨I.ok.GZ,I.os,I.bare,I.base,I.loc,I.cell,I.free,I.G1,I.pin,I.xt,I.len⟩
theorem SP.GZ(h:SP (X.HM E) pins D f d):SP X pins D f d:=by
 cases f with
 |next=>obtain⟨a,b,I,q⟩:=h;exact⟨a,b,I.GZ,q⟩
 |brk=>obtain⟨a,b,I,q⟩:=h;exact⟨a,b,I.GZ,q⟩
 |cont=>obtain⟨a,b,I,q⟩:=h;exact⟨a,b,I.GZ,q⟩
 |ret u=>obtain⟨v,a,b,I,r,q⟩:=h;exact⟨v,a,b,I.GZ,r,q⟩
theorem HJ.IV(h:HJ X.IV a t):HJ X a t:=λpins s J H D I hw =>
 Y3 (h pins s J H D (I.HM _) hw) (λ_ _ q=>q.GZ) λ_ _ z=>False.elim z
end
section
variable{X:Cx}{st:Stmt}
noncomputable def Ee:TS:=λD J H=>D.nx J H
noncomputable def FG(t u:TS):TS:=λD J H=>t { D with nx:=u D } J H
def zP:HJ X [] Ee:=λ_ _ J H _ I h=>WK ⟨J,H,I,h⟩
def wC{rest:List Stmt}{t u:TS}(d:PS X st t)(b:HJ X rest u):HJ X (st :: rest) (FG t u):=by
 intro a s J H D I h;refine wpAny_execs_cons (thn (d a s J H { D with nx:=u D } I h) λf s1 q=>?_);cases f with
 |next =>
  obtain⟨g,j,i,q⟩:=q;exact b a s1 g j D i q
 |ret v=>exact q
 |brk=>exact q
 |cont=>exact q
def aq(b:PS X st t):HJ X [st] t:=by
 intro a s J H D I h;refine wpAny_execs_cons (thn (b a s J H D I h) λf s1 q=>?_);cases f with
 |next=>exact WK q
 |ret v=>exact q
 |brk=>exact q
 |cont=>exact q
def Inv.quiet(I:Inv X a J H s):interactive X.env=B:=by simp[interactive,I.ok.kind]
noncomputable def DW(a:TE):TS:=λD J H=>a J H λ_ b=>D.nx J b
def iV{pos:Pos}(he:PE X e te)(d:{`q2,swapsWith e Y pos.line X.env=pure B}):PS X (.Expr e pos) (DW te):=by
 intro a s J H D I h;exact wpAny_Expr_any (thn (he a s J H _ I h) λv s1 ⟨x,g,f,r1,b⟩=>⟨J,g,f,b⟩) I.quiet d
noncomputable def FT(a:TE):TS:=λD J H=>a J H D.rt
def pG(he:PE X e te):PS X (.Return (Z e) pos) (FT te):=by
 intro a s J H D I h;exact wpAny_Return_some (thn (he a s J H _ I h) λv s1 ⟨x,f,d,r1,b⟩=>⟨x,J,f,d,r1,b⟩)
noncomputable def FE(c:TT)(t u:TS):TS:=λD J H=>c J H λb a=>if b=M then t D J a else u D J a
def Es(m:PT X c g)(o:HJ X a t)(n:HJ X b u):PS X (.If c a b pos) (FE g t u):=by
 intro f s J H D I h;refine wpAny_If (thn (m f s J H _ I h) λd s1 ⟨l,j,i⟩=>?_);cases d with
 |true=>exact o f s1 J l D j i
 |false=>exact n f s1 J l D j i
end
abbrev TG:=V->St->Hp->(St->Hp->Prop)->Prop
abbrev Ln:=List V->St->Hp->(St->Hp->Prop)->Prop
def PG(X:Cx)(a:Expr)(t:TG):Prop :=
 ∀(b:Yx)(s:GM)(J:St)(H:Hp)(v:V)(u:KM)(Q:St->Hp->Prop),Inv X b J H s->RelV v u->t v J H Q →
  On (IR X.prog X.w) X.A (assign a X.env u) (λ_ f=>∃d e,Inv X b d e f/\Q d e) X.xe s
def KS(X:Cx)(g:List Expr)(t:Ln):Prop :=
 ∀(a:Yx)(s:GM)(J:St)(H:Hp)(b:List V)(d:Vx)(Q:St->Hp->Prop),Inv X a J H s->aO b d->t b J H Q →
  On (IR X.prog X.w) X.A (assignInOrder ((assignEach g X.env).map (·.2)) d) (λ_ h=>∃e f,Inv X a e f h/\Q e f) X.xe s
abbrev zB:=V->V->V->Hp->(Hp->Prop)->Prop
def Cp(X:Cx)(t:zB):Prop :=
 ∀(a:Yx)(s:GM)(J:St)(H:Hp)(o i v:V)(b iv u:KM)(Q:Hp->Prop),Inv X a J H s->RelV o b->RelV i iv->RelV v u->t o i v H Q →
  On (IR X.prog X.w) X.A (setItem b iv u) (λ_ e=>∃d,Inv X a J d e/\Q d) X.xe s
section
variable{X:Cx}
noncomputable def Bt(i:Nat):TG:=λv J H Q=>Q (J.set i (Z v)) H
def A6(f:X.N.Nodup)(d:X.N[i]?=Z x)(b:Loc X.env.scope x)(e:{`q0,X.fn x=M\/X.env.scope.names.lookup x=Z .local}):PG X (.Name x pos) (Bt i):=by
 intro a s J H v u Q I r h;exact wpAny_assign_Name (rC I f d b r (λj g=>⟨_,H,g,h⟩) e)
noncomputable def FB:Ln:=λa J H Q=>a=[]/\Q J H
noncomputable def D3(t:TG)(u:Ln):Ln:=λa J H Q=>∃v r,a=v :: r/\t v J H λb d=>u r b d Q
def zD:KS X [] FB:=by
 intro a s J H b d Q I r h;obtain⟨e,h⟩:=h;subst e;cases r;exact assignInOrder_nil ⟨J,H,I,h⟩
def vS(j:PG X e t)(i:KS X b u)(g:{`q2,(assignEach (e :: b) X.env).map (·.2)=assign e X.env :: (assignEach b X.env).map (·.2)}):KS X (e :: b) (D3 t u):=by
 intro a s J H o q Q I r h;obtain⟨v,p,e1,h⟩:=h;subst e1;cases r with
 |cons r d =>
  rw[g];refine assignInOrder_cons (thn (j a s J H _ _ _ I r h) λ_ s1 ⟨l,n,m,f⟩=>?_);exact i a s1 l n _ _ Q m d f
def jm(K:X3)(n:Nat)(t:Ln):TG:=λv J H Q=>∃a b,v=.ref a/\GV K H a b/\b.length=n/\t b J H Q
def Cu{n:Nat}(w:X.calm=M)(h:KS X f t)(p:{`q2,(assignEach f X.env).length=n})(A:{`q2,(assignEach f X.env).findIdx? (·.1)=Y}):PG X (.Tuple f k pos) (jm X.K n t):=by
 intro d s J H v u Q I r hw;obtain⟨a,i,e1,m,q,hw⟩:=hw;subst e1;cases r;obtain⟨C,g,l,D⟩:=I.tuple m;refine assign_Tuple_tuple (I.ok.hd w) l (by simp[p,← q,g.length]) A λy j=>?_;have z:Inv X d J H { s with heap:=y }:=I.kept (t':=s.toks) λb o e=>j b o (Zg (Za e)) e;exact h d _ J H i _ Q z (by simpa using g) hw
noncomputable def EZ(a b:TE)(t:zB):TG:=λv J H Q=>a J H λo f=>b J f λi e=>t o i v e λd=>Q J d
def rY(n:PE X o d)(p:PE X i e)(m:Cp X t)(q:{`q3,∀v,assign (.Subscript o i pos) X.env v=(do
   let b ← holding [v] (eval o X.env)
   let iv ← holding [v,b] (eval i X.env)
   standAt pos
   holding [v,b,iv] (setItem b iv v)
   release [v,b,iv] [])}):PG X (.Subscript o i pos) (EZ d e t):=by
 intro a s J H v u Q I r h;rw[q];refine Zy (Yp (thn (n a s J H _ I h) λb s1 ⟨x,E,A,r1,l⟩=>?_));refine Zy (Yp (thn (p a s1 J E _ A l) λiv f ⟨y,D,z,r2,j⟩=>?_));refine Zy (wpAny_standAt (Zy (Yp (thn (m a f J D x y v b iv u _ z r1 r2 r j) λ_ F ⟨C,w,g⟩=>?_))));exact wpAny_release ⟨J,C,w,g⟩
noncomputable def EO(a:TE)(g:TG):TS:=λD J H=>a J H λx b=>g x J b D.nx
def oR{pos:Pos}(he:PE X e d)(j:PG X b g)(i:{`q2,swapsWithSole [b] e pos.line X.env=pure B})(hw:{`q2,swappedStores [b] e X.env=pure Y})(l:{`q2,(assignEach [b] X.env).map (·.2)=[assign b X.env]}):PS X (.Assign [b] e pos) (EO d g):=by
 intro a s J H D I h;refine wpAny_Assign_stores (thn (he a s J H _ I h) λv s1 ⟨x,n,m,r1,f⟩=>?_) i hw;rw[l];exact thn (j a s1 J n x v _ m r1 f) λ_ o q=>q
def rK{pos:Pos}(n:X.N.Nodup)(l:X.N[i]?=Z x)(g:Loc X.env.scope x)(he:PE X e d)(j:{`q2,swapsWith e (Z (.Name x a)) pos.line X.env=pure B})(m:{`q0,X.fn x=M\/X.env.scope.names.lookup x=Z .local}) :
  PS X (.Assign [.Name x a] e pos) (EO d (Bt i)):=by
 intro b s J H D I h;refine wpAny_Assign_Name (thn (he b s J H _ I h) λv s1 ⟨y,q,p,r1,f⟩=>?_) j;exact rC p n l g r1 (λr o=>⟨_,q,o,f⟩) m
end
section
variable{X:Cx}
def Dt(c:TT)(g:TS):TS:=λD J H=>∃W:Nat->St->Hp->Prop,(∃m,W m J H)/\∀m J H,W m J H →
 c J H λb e=>if b=M then ∃N:St->Hp->Prop,(∀d f,N d f->∃a,a<m/\W a d f)/\g { D with nx:=N,ct:=N,bk:=D.nx } J e else D.nx J e
def wg(y:PassesOwn (IR X.prog X.w) X.A X.env X.xe)(U:PT X c t)(hb:HJ X d u):PS X (.While c d [] pos) (Dt t u):=by
 intro a s J H D I h;obtain⟨W,⟨S,P⟩,turn⟩:=h;refine wpAny_While (codeAny_whileLoop (λn R=>∃z G,Inv X a z G R/\W n z G) ?_ S ⟨J,H,I,P⟩);rintro n s1 ⟨l,F,I1,O⟩;refine XZ y (thn (U a s1 l F _ I1 (turn n l F O)) λb Q ⟨E,C,j⟩=>?_);cases b with
 |true =>
  obtain⟨N,hN,j⟩:=j;rw[Zn L];refine XZ y (thn (hb a Q l E _ C j) λf s3 i=>?_);cases f with
  |next =>
   obtain⟨e,g,r,o⟩:=i;obtain⟨p,q,m⟩:=hN e g o;exact⟨p,q,e,g,r,m⟩
  |cont =>
   obtain⟨e,g,r,o⟩:=i;obtain⟨p,q,m⟩:=hN e g o;exact⟨p,q,e,g,r,m⟩
  |brk=>exact i
  |ret v=>exact i
 |false =>
  rw[Zm ZY];exact WK ⟨l,E,C,j⟩
end
structure It where
 go:Nat->Hp->Prop
 OM:Nat->Hp->V->Hp->Prop
 stop:Nat->Hp->Prop
def nN(X:Cx)(a:Yx)(H:Hp)(b:KF):Prop :=
 H b=Y/\b≠X.env.locals/\b∉X.fs/\(b∈X.ex\/X.s₀.heap.objs.size<=b)/\(∀x c,X.env.cells.lookup x=Z c->c≠b)/\∀p∈X.pn++a,p.1≠b
def Inv.Lj(I:Inv X a J H s)(d:s.heap.objs.size<=b)(h:f b=Y):nN X a f b:=by
 refine⟨h,Xp (ZR I.lt d),I.Qo d,.inr (Z2 I.sz d),λx c e z=>?_,λp g z=>?_⟩
 ·obtain⟨v,q⟩:=I.cell x c e;exact absurd (ZR q.lt (by rw[z];exact d)) (Yj _)
 ·exact absurd (ZR (Za (I.pin p g).1) (by rw[z];exact d)) (Yj _)
structure Turn(P:P3)(w:SZ)(K:X3)(tg:Expr)(Jq:It)(fp:W6)(it:KF)(tn:Nat->SL->Prop):Prop where
 mem:it∈fp
 obj:∀i h,tn i h->∀b∈fp,∃o,h.get? b=some o/\∀v,o.data ≠ .cell v
 keep:∀i h h',tn i h->(∀b∈fp,∀o,h.get? b=some o->h'.get? b=some o)->tn i h'
 item:∀(X:Cx),X.prog=P->X.w=w->X.K=K->X.calm=true->∀(i:Nat)(pins:Yx)(s:GM)(J:St)(H:Hp)(E:Z1),Inv X pins J H s->(∀b∈fp,nN X pins H b)->tn i s.heap->Jq.go i H →
  On (IR P w) X.A (pyNext (.ref it)) (λr s1=>∃u,r=some u ∧
   On (IR P w) X.A (letOwnedTupleGo tg (.ref it) u) (λ_ s2=>∃x H',Inv X pins J H' s2/\RelV x u/\Jq.OM i H x H'/\tn (i+1) s2.heap/\∀b∈fp,H' b=none) E s1) E s
 done:∀(X:Cx),X.prog=P->X.w=w->X.K=K->X.calm=true->∀(i:Nat)(pins:Yx)(s:GM)(J:St)(H:Hp)(E:Z1),Inv X pins J H s->(∀b∈fp,nN X pins H b)->tn i s.heap->Jq.stop i H →
  On (IR P w) X.A (pyNext (.ref it)) (λr s1=>r=none/\Inv X pins J H s1) E s
 self:∀(A:Re)(i:Nat)(s:GM)(Q:Z1)(E:Z1),tn i s.heap->Q (.ref it) s->On (IR P w) A (pyIter (.ref it)) Q E s
abbrev TI:=St->Hp->(It->Hp->Prop)->Prop
def TH(X:Cx)(a:Yx)(J:St)(h:Expr)(R:It->Hp->Prop)(i:KM)(f:GM):Prop :=
 ∃(it:KF)(fp:W6)(e:Nat->SL->Prop)(g:It)(d:Hp),i=.ref it/\Inv X a J d f/\Turn X.prog X.w X.K h g fp it e/\e 0 f.heap/\(∀b∈fp,nN X a d b)/\R g d
def PI(X:Cx)(e b:Expr)(d:TI):Prop :=
 ∀(a:Yx)(s:GM)(J:St)(H:Hp)(R:It->Hp->Prop),Inv X a J H s->d J H R →
  On (IR X.prog X.w) X.A (eval b X.env) (λv s1=>On (IR X.prog X.w) X.A (pyIter v) (TH X a J e R) X.xe s1) X.xe s
def rm{M:Model}{s:GM}{n:String}(f:s.heap.get? e=Z o)(j:o.cls=.type n)(i:o.data=.fields b)(g:["enumerate", "zip", "dict_itemiterator", "dict_reverseitemiterator", "odict_iterator", "itertools.zip_longest", "itertools.pairwise"].contains n=B)(a:Q () s):On M A (letOwnedTupleGo d (.ref e) u) Q E s:=by
 unfold letOwnedTupleGo;cases d<;>first
  |exact Zr a
  | (cases u<;>first
    |exact Zr a
    | (refine Zy (wpAny_load f ?_)
       rw[j,i];show On M A (if (["enumerate", "zip", "dict_itemiterator", "dict_reverseitemiterator", "odict_iterator", "itertools.zip_longest", "itertools.pairwise"].contains n&&b[0]? == Z (rawInt _))=true then _ else _) Q E s;rw[Zm (by intro h;rw[g,Bool.false_and]at h;cases h)];exact Zr a))
def RT(K:X3)(a:KF):It :=
 ⟨λi H=>∃b x,Gw K H a b/\b[i]?=Z x,λi H x d=>d=H/\∀b,Gw K H a b->b[i]?=Z x,λi H=>∃b,Gw K H a b/\b.length<=i⟩
def RS(K:X3)(a:KF):It :=
 ⟨λi H=>∃b x,GV K H a b/\b[i]?=Z x,λi H x d=>d=H/\∀b,GV K H a b->b[i]?=Z x,λi H=>∃b,GV K H a b/\b.length<=i⟩
noncomputable def OH(a:Int)(n:Nat):It:=⟨λi _=>i<n,λi H x b=>b=H/\x=.int (a+i),λi _=>n<=i⟩
def vv{K:X3}(a g:KF):Turn P w K N (RT K a) [g] g (λi h=>h.IsListIter g a i) where
 mem:=by simp
 obj:=λi h st b hb=>by
  have e:b=g:=by simpa using hb
  subst e;obtain⟨o,e,c,d⟩:=st;exact⟨o,e,λv z=>by rw[d]at z;cases z⟩
 keep:=λi h m st k=>st.at λo e=>k g (by simp) o e
 item:=by
  intro X r hw t F i f s J H E I l st hg;subst r hw t;obtain⟨L,x,j,q⟩:=hg;obtain⟨R,n,p,S⟩:=I.list j;obtain⟨u,hu,Q⟩:=n.get q;obtain⟨D,f1,f2,C,A,y⟩:=l g (by simp);refine wpAny_pyNext_list_item st p.isList (x:=u) (by simpa using hu) λm G O=>?_;have I1:Inv X f J H { s with heap:=m }:=I.turned (t':=s.toks) (λb o hb e=>(O.2 b hb).trans e) D f1 C A y;obtain⟨o,e,c,d⟩:=id G;exact⟨u,rfl,rm (s:={ s with heap:=m }) e c d (by decide) ⟨x,H,I1,Q,⟨rfl,λys U=>by rw[I.Kd U j];exact q⟩,G,λb hb=>(l b hb).1⟩⟩
 done:=by
  intro X r hw t F i f s J H E I l st hg;subst r hw t;obtain⟨L,j,q⟩:=hg;obtain⟨R,n,p,S⟩:=I.list j;obtain⟨D,f1,f2,C,A,y⟩:=l g (by simp);have hl:=n.length;exact wpAny_pyNext_list_end (I.ok.hd F) st p.isList (by simp;lia) λm eb=>⟨rfl,I.turned (t':=s.toks) (λb o hb e=>eb b o hb e) D f1 C A y⟩
 self:=λ_ _ _ _ _ st h=>wpAny_pyIter_listiter st h
def sA{K:X3}(a g:KF):Turn P w K O (RS K a) [g] g (λi h=>h.IsTupleIter g a i) where
 mem:=by simp
 obj:=λi h st b hb=>by
  have e:b=g:=by simpa using hb
  subst e;obtain⟨o,e,c,d⟩:=st;exact⟨o,e,λv z=>by rw[d]at z;cases z⟩
 keep:=λi h m st k=>st.at λo e=>k g (by simp) o e
 item:=by
  intro X t hw y G i f s J H E I l st hg;subst t hw y;obtain⟨N,x,j,r⟩:=hg;obtain⟨q,n,p,S⟩:=I.tuple j;obtain⟨u,hu,R⟩:=n.get r;obtain⟨F,f1,f2,D,C,A⟩:=l g (by simp);refine wpAny_pyNext_tuple_item st (show s.heap.IsTuple a q.toArray from p) (x:=u) (by simpa using hu) λm L Q=>?_;have I1:Inv X f J H { s with heap:=m }:=I.turned (t':=s.toks) (λb o hb e=>(Q.2 b hb).trans e) F f1 D C A;obtain⟨o,e,c,d⟩:=id L;exact⟨u,rfl,rm (s:={ s with heap:=m }) e c d (by decide) ⟨x,H,I1,R,⟨rfl,λys U=>by rw[I.Jw U j];exact r⟩,L,λb hb=>(l b hb).1⟩⟩
 done:=by
  intro X t hw y G i f s J H E I l st hg;subst t hw y;obtain⟨N,j,r⟩:=hg;obtain⟨q,n,p,S⟩:=I.tuple j;obtain⟨F,f1,f2,D,C,A⟩:=l g (by simp);have hl:=n.length;exact wpAny_pyNext_tuple_end (I.ok.hd G) st (show s.heap.IsTuple a q.toArray from p) (by simp;lia) λm eb=>⟨rfl,I.turned (t':=s.toks) (λb o hb e=>eb b o hb e) F f1 D C A⟩
 self:=λ_ _ _ _ _ st h=>wpAny_pyIter_tupleiter st h
def sH{K:X3}(d:KF)(f:Int)(n:Nat):Turn P w K F (OH f n) [d] d (λi h=>IsRangeIter h d (f+(i:Nat)*1) ((n:Int)-(i:Nat)) 1) where
 mem:=by simp
 obj:=λi h st b hb=>by
  have e:b=d:=by simpa using hb
  subst e;exact⟨_,st,λv z=>by
   have D:Data.fields _=Data.cell v:=z;cases D⟩
 keep:=λi h j st k=>k d (by simp) _ st
 item:=by
  intro X m hw p l i a s J H E I g st hg;subst m hw p;obtain⟨y,f1,f2,u,r,q⟩:=g d (by simp);have W:=Walks.range (prog:=X.prog) (w:=X.w) (I.ok.hd l) d f 1 n;refine W.item i s _ _ hg st λv j A N C G=>?_;obtain⟨t,rfl⟩:=N;have Q:Inv X a J H { s with heap:=j,toks:=A }:=I.turned (λb o hb e=>G b o (by simpa using hb) e) y f1 u r q;refine⟨_,rfl,rm (s:={ s with heap:=j,toks:=A }) (n := "range_iterator") C L L (by decide) ⟨.int (f+i),H,Q,⟨t,?_⟩,⟨rfl,rfl⟩,C,λb hb=>(g b hb).1⟩⟩;rw[Int.mul_one]
 done:=by
  intro X m hw p l i a s J H E I g st hg;subst m hw p;obtain⟨y,f1,f2,u,r,q⟩:=g d (by simp);exact wpAny_pyNext_range_end (I.ok.hd l) st (by have:n<=i:=hg;lia) λj O=>⟨rfl,I.turned (t':=s.toks) (λb o hb e=>O b o hb e) y f1 u r q⟩
 self:=λ_ _ _ _ _ st h=>wpAny_pyIter_rangeiter st h
section
variable{X:Cx}
def qS{a d:Int}(I:Inv X f J H s)(m:-(2 ^ 62)<=a)(l:a<2 ^ 62)(j:-(2 ^ 62)<=d)(i:d<2 ^ 62)(q:R (OH a (d-a).toNat) H):On (IR X.prog X.w) X.A (pyIter (.ref s.heap.objs.size)) (TH X f J tg R) E { s with heap:=s.heap.push { cls:=.type "range",data:=.fields #[.int a t,.int d u,.int 1 v] },toks:=g }:=by
 refine wpAny_pyIter_range (IsRange.new ..) (small_one m l j i) ?_;have h:Inv X f J H { s with heap:=s.heap.push { cls:=.type "range",data:=.fields #[.int a t,.int d u,.int 1 v] },toks:=g }:=I.kept λb o e=>Zw _ e;refine⟨(s.heap.push { cls:=.type "range",data:=.fields #[.int a t,.int d u,.int 1 v] }).objs.size,[(s.heap.push { cls:=.type "range",data:=.fields #[.int a t,.int d u,.int 1 v] }).objs.size],_,_,H,rfl,
  h.kept (t':=g) λb o e=>Zw _ e,sH _ a (d-a).toNat,?_,λb hb=>?_,q⟩
 ·have e1:a+((0:Nat):Int)*1=a:=by simp
  have e2:(((d-a).toNat:Nat):Int)-((0:Nat):Int)=Builtin.Range.rangeSize a d 1:=by rw[rangeSize_one];split<;>lia
  show IsRangeIter _ _ (a+((0:Nat):Int)*1) ((((d-a).toNat:Nat):Int)-((0:Nat):Int)) 1;rw[e1,e2];exact Zh _ L
 ·have e:b=(s.heap.push { cls:=.type "range",data:=.fields #[.int a t,.int d u,.int 1 v] }).objs.size:=by simpa using hb
  subst e;exact h.Lj (Zl _) (h.xt.fresh (Zl _))
def Eh(ta:TA):TI:=λJ H R=>ta J H λa b=>∃j:Int,a=[.int j]/\-(2 ^ 62)<=j/\j<2 ^ 62/\R (OH 0 j.toNat) b
def Em(ta:TA):TI:=λJ H R=>ta J H λa b=>∃i j:Int,a=[.int i,.int j]/\(-(2 ^ 62)<=i/\i<2 ^ 62/\-(2 ^ 62)<=j/\j<2 ^ 62)/\R (OH i (j-i).toNat) b
def vH(o:Gl X "range")(n:X.mg "range" = Y)(u:PA X [a] g)(m:{`q2,Pi [a] X.env=[(B,eval a X.env)]}):PI X tg (.Call (.Name "range" p) [a] [] b) (Eh g):=by
 intro d s J H R I h;refine Call_ (jt I o n boot_range (YH (thn (u b d s J H _ I h) λy s1 ⟨w,z,v,r1,f⟩=>?_) m L));obtain⟨j,e,f,l,q⟩:=f;subst e;cases r1 with
 |cons r i =>
  cases i;obtain⟨t,rfl⟩:=r;exact call_range_1 (qS v (by lia) (by lia) f l (by simpa using q))
def uM(A:Gl X "range")(z:X.mg "range" = Y)(C:PA X [a,b] m)(y:{`q2,Pi [a,b] X.env=[(B,eval a X.env),(B,eval b X.env)]})(n:{`q2,Pi [b] X.env=[(B,eval b X.env)]}) :
  PI X tg (.Call (.Name "range" p) [a,b] [] d) (Em m):=by
 intro f s J H R I h;refine Call_ (jt I A z boot_range (YH (thn (C d f s J H _ I h) λF s1 ⟨E,L,D,r1,l⟩=>?_) (by rw[y,n]) (by rw[n];rfl)));obtain⟨i,j,e,⟨l,w,v,u⟩,q⟩:=l;subst e;cases r1 with
 |cons r g =>
  cases g with
  |cons o g =>
   cases g;obtain⟨t,rfl⟩:=r;obtain⟨G,rfl⟩:=o;exact call_range_2 (qS D l w v u q)
def E9(f:TI)(g:TG)(h:TS):TS:=λD J H=>f J H λb n=>∃W:Nat->Nat->St->Hp->Prop,(∃m,W 0 m J n)/\∀i m J H,W i m J H →
 (b.stop i H/\D.nx J H)\/(b.go i H/\∃N:St->Hp->Prop,(∀e a,N e a->∃d,d<m/\W (i+1) d e a)/\∀x a,b.OM i H x a->g x J a λj l=>h { D with nx:=N,ct:=N,bk:=D.nx } j l)
noncomputable def mM(a:W6)(h:SL):Yx:=a.filterMap λb=>(h.get? b).map λo=>(b,o)
def gT{h:SL}(d:b∈a)(e:h.get? b=Z o):(b,o)∈mM a h:=List.mem_filterMap.mpr ⟨b,d,by rw[e];rfl⟩
def vI(d:p∈mM a h):p.1∈a/\h.get? p.1=Z p.2:=by
 obtain⟨b,hb,e⟩:=List.mem_filterMap.mp d;cases q:h.get? b with
 |none=>rw[q]at e;cases e
 |some o =>
  rw[q]at e;have f:(b,o)=p:=Zk e;subst f;exact⟨hb,q⟩
def Inv.pinned(I:Inv X a J H s)(j:∀b∈f,nN X a H b)(i:∀b∈f,∃o,s.heap.get? b=Z o/\∀v,o.data ≠ .cell v):Inv X (a++mM f s.heap) J H s :=
 I.Jl λp h=>(ZW.mp h).elim (λz=>I.pin p (ZP _ z)) λz=>by
  obtain⟨hb,e⟩:=vI z;obtain⟨l,f1,f2,_⟩:=j p.1 hb;obtain⟨o,g,d⟩:=i p.1 hb;rw[e]at g;cases g;exact⟨e,l,f1,f2,d⟩
def Inv.Hg(I:Inv X (a++b) J H s):Inv X a J H s:=I.Jl λp d=>I.pin p (ZP _ (Yq _ d))
def BO(F:PassesOwn (IR X.prog X.w) X.A X.env X.xe)(hc:X.calm=M)(hi:PI X tg j wi)(hg:PG X tg g)(l:HJ X C tb)(hs:{`q3,∀x,UV j X.env x=pure x}):PS X (.For tg j C [] R) (E9 wi g tb):=by
 intro a s J H D I h;refine wpAny_For (thn (hi a s J H _ I h) λv s1 h1=>thn h1 λQy s2 h2=>?_) hs;obtain⟨it,fp,tn,Jq,H2,e,I2,T,L5,f2,W,⟨m0,w0⟩,turn⟩:=h2;subst e;have IT:∀{y:Hp},(∀b∈fp,y b=Y)->∀b∈fp,nN X a y b:=λhn b l=>⟨hn b l,(f2 b l).2⟩
 refine codeAny_forLoop_any (λn s'=>∃i O y,Inv X a O y s'/\tn i s'.heap/\(∀b∈fp,y b=Y)/\W i n O y) ?_ m0 ⟨0,J,H2,I2,L5,λb l=>(f2 b l).1,w0⟩;rintro n s3 ⟨i,G,P,I3,Lv,Oc,w3⟩;rcases turn i n G P w3 with⟨stop,qn⟩ | ⟨go,N,hN,step⟩
 ·refine XZ F (thn (T.done X L L L hc i a s3 G P X.xe I3 (IT Oc) Lv stop) λr s4 ⟨S,I4⟩=>?_);subst S;exact WK ⟨G,P,I4,qn⟩
 ·refine XZ F (thn (T.item X L L L hc i a s3 G P X.xe I3 (IT Oc) Lv go) λr s4 ⟨u,S,h4⟩=>?_);subst S;refine XZ F (thn h4 λ_ s5 ⟨x,H5,I5,r5,y5,U,Rm⟩=>?_);have RW:=I5.pinned (IT Rm) (T.obj _ _ U);refine XZ F (thn (hg _ s5 G H5 x u _ RW r5 (step x H5 y5)) λ_ s6 ⟨J6,H6,I6,q6⟩=>?_);refine XZ F (thn (l _ s6 J6 H6 _ I6 q6) λf Q z=>?_);have again:∀{p:St}{t:Hp},Inv X (a++mM fp s5.heap) p t Q->N p t->∃m,m<n/\∃i O y,Inv X a O y Q/\tn i Q.heap/\(∀b∈fp,y b=Y)/\W i m O y:=λ{p t} q E=>by
   obtain⟨m',hm,w7⟩:=hN p t E;refine⟨m',hm,i+1,p,t,q.Hg,T.keep _ _ _ U λb l o e=>(q.pin (b,o) (ZP _ (ZP _ (gT l e)))).1,λb l=>?_,w7⟩;obtain⟨o,e,d⟩:=T.obj _ _ U b l;exact(q.pin (b,o) (ZP _ (ZP _ (gT l e)))).2.1
  cases f with
  |next=>obtain⟨p,t,q,E⟩:=z;exact again q E
  |cont=>obtain⟨p,t,q,E⟩:=z;exact again q E
  |brk=>obtain⟨p,t,q,z⟩:=z;exact⟨p,t,q.Hg,z⟩
  |ret v=>obtain⟨x7,p,t,q,r7,z⟩:=z;exact⟨x7,p,t,q.Hg,r7,z⟩
end
abbrev R2:=V->V->Hp->VK->Prop
def OpR(X:Cx)(f:KM->KM->Sem KM)(r:R2):Prop :=
 ∀(a:Yx)(s:GM)(J:St)(H:Hp)(x y:V)(v u:KM)(Q:VK),Inv X a J H s->RelV x v->RelV y u->r x y H Q →
  On (IR X.prog X.w) X.A (f v u) (EP X a J Q) X.xe s
def cB(X:Cx)(f:KM)(r:List V->Hp->VK->Prop):Prop :=
 ∀(a:Yx)(s:GM)(J:St)(H:Hp)(b:List V)(d:Vx)(Q:VK),Inv X a J H s->aO b d->r b H Q →
  On (IR X.prog X.w) X.A (call f d) (EP X a J Q) X.xe s
def FO(X:Cx)(r:V->Hp->(Bool->Hp->Prop)->Prop):Prop :=
 ∀(a:Yx)(s:GM)(J:St)(H:Hp)(x:V)(v:KM)(Q:Bool->Hp->Prop),Inv X a J H s->RelV x v->r x H Q →
  On (IR X.prog X.w) X.A (truthy v) (TP X a J Q) X.xe s
noncomputable def Np(r:R2)(ta a:TE):TE:=λJ H Q=>ta J H λx d=>a J d λy b=>r x y b Q
noncomputable def rI(C:Int->Int->Prop)(g:Int->Int->V):R2:=λx y H Q=>∃i j,x=.int i/\y=.int j/\C i j/\Q (g i j) H
noncomputable def Jk(g:Int->Int->V):R2:=λx y H Q=>∃i j,x=.int i/\y=.int j/\Q (g i j) H
section
variable{X:Cx}
def CZ{a b:Expr}{ta tb:TE}(q:PE X a ta)(p:PE X b tb){d:Yx}{s:GM}{J:St}{H:Hp}{R:V->V->Hp->Prop}(I:Inv X d J H s)(h:ta J H λx i=>tb J i λy e=>R x y e){Q:Z1}{f:KM->KM->Sem KM}(o:∀v u g x y e,Inv X d J e g->RelV x v->RelV y u->R x y e->On (IR X.prog X.w) X.A (f v u) Q X.xe g) :
  On (IR X.prog X.w) X.A (eval a X.env) (λv l=>On (IR X.prog X.w) X.A (eval b X.env) (λu j=>On (IR X.prog X.w) X.A (f v u) Q X.xe j) X.xe l) X.xe s:=by
 refine thn (q d s J H _ I h) λv s1 ⟨x,i,t,r1,n⟩=>?_;refine thn (p d s1 J i _ t n) λu g ⟨y,e,r,r2,m⟩=>?_;exact o v u g x y e r r1 r2 m
def Ei(j:OpR X (binaryOp e) r)(m:PE X a ta)(l:PE X b tb):PE X (.BinOp a e b pos) (Np r ta tb):=by
 intro d s J H Q I h;exact wpAny_BinOp (CZ m l I h λv u f x y o n i g q=>j d f J o x y v u Q n i g q)
def PZ{f:KM->KM->Sem KM}{C:Int->Int->Prop}{g:Int->Int->Int}(d:∀(i j:Int)(t u:Tok)(s:GM)(Q:Z1)(E:Z1),C i j->Q (.int (g i j) s.toks) { s with toks:=s.toks+1 }->On (IR X.prog X.w) X.A (f (.int i t) (.int j u)) Q E s) :
  OpR X f (rI C λi j=>.int (g i j)):=by
 intro e s J H x y v u Q I n m h;obtain⟨i,j,rfl,rfl,o,q⟩:=h;obtain⟨t,rfl⟩:=n;obtain⟨l,rfl⟩:=m;exact d i j t l s _ _ o ⟨.int (g i j),H,I.tok _,⟨_,rfl⟩,q⟩
def EH{f:KM->KM->Sem KM}{g:Int->Int->Int}(d:∀(i j:Int)(t u:Tok)(s:GM)(Q:Z1)(E:Z1),Q (.int (g i j) s.toks) { s with toks:=s.toks+1 }->On (IR X.prog X.w) X.A (f (.int i t) (.int j u)) Q E s) :
  OpR X f (Jk λi j=>.int (g i j)):=by
 intro e s J H x y v u Q I n m h;obtain⟨i,j,rfl,rfl,q⟩:=h;obtain⟨t,rfl⟩:=n;obtain⟨l,rfl⟩:=m;exact d i j t l s _ _ ⟨.int (g i j),H,I.tok _,⟨_,rfl⟩,q⟩
def zZ{f:KM->KM->Sem KM}{g:Int->Int->Bool}(d:∀(i j:Int)(t u:Tok)(s:GM)(Q:Z1)(E:Z1),Q (.bool (g i j)) s->On (IR X.prog X.w) X.A (f (.int i t) (.int j u)) Q E s) :
  OpR X f (Jk λi j=>.bl (g i j)):=by
 intro e s J H x y v u Q I n m h;obtain⟨i,j,rfl,rfl,q⟩:=h;obtain⟨t,rfl⟩:=n;obtain⟨l,rfl⟩:=m;exact d i j t l s _ _ ⟨.bl (g i j),H,I,rfl,q⟩
noncomputable def DS(i j:Int):Prop:=0<j/\j<1073741824
noncomputable def AQ(i j:Int):Prop:=(-(2 ^ 64)<i/\i<2 ^ 64)\/(-(2 ^ 64)<j/\j<2 ^ 64)
def AQ.ok{i j:Int}(h:AQ i j):IntMulOk i j:=by
 rcases h with⟨e,d⟩ | ⟨e,d⟩
 ·exact .of_left (intBits_le_64 e d)
 ·exact .of_right (intBits_le_64 e d)
def Dj:OpR X (binaryOp .Add) (Jk λi j=>.int (i+j)):=EH λ_ _ _ _ _ _ _ q=>add_int q
def sG:OpR X (binaryOp .Sub) (Jk λi j=>.int (i-j)):=EH λ_ _ _ _ _ _ _ q=>sub_int q
def lX:OpR X (binaryOp .Mult) (rI AQ λi j=>.int (i*j)):=PZ λ_ _ _ _ _ _ _ d q=>mul_int q d.ok
def Aw:OpR X (binaryOp .FloorDiv) (rI DS λi j=>.int (i/j)):=PZ λi j _ _ _ _ _ d q=>by
 have f:(0:Int)<j:=d.1;have e:j<1073741824:=d.2;exact floordiv_int (by lia) (by rw[Int.fdiv_eq_ediv_of_nonneg i (by lia)];exact q) (.inl (PyProof.noPylong_small (by omega)))
def Dy:OpR X (binaryOp .Mod) (rI (λ_ j=>0<j) λi j=>.int (i%j)):=PZ λi j _ _ _ _ _ d q=>by
 have e:(0:Int)<j:=d;exact mod_int' (by lia) (by rw[Int.fmod_eq_emod_of_nonneg i (by lia)];exact q)
end
section
variable{X:Cx}
def Ct(I:Inv X d J H s)(q:Q (.bl k) H)(e:k=f):EP X d J Q (.bool f) s:=by
 subst e;exact⟨.bl k,H,I,rfl,q⟩
def D6:OpR X (SC .Lt) (Jk λi j=>.bl (decide (i<j))):=zZ λ_ _ _ _ _ _ _ q=>lt_int q
def Eb:OpR X (SC .LtE) (Jk λi j=>.bl (decide (i<=j))):=zZ λ_ _ _ _ _ _ _ q=>le_int q
def D2:OpR X (SC .Gt) (Jk λi j=>.bl (decide (j<i))):=zZ λ_ _ _ _ _ _ _ q=>gt_int q
def Ea:OpR X (SC .GtE) (Jk λi j=>.bl (decide (j<=i))):=zZ λ_ _ _ _ _ _ _ q=>ge_int q
def vp:OpR X (SC .Lt) (λx y H Q=>∃i j,x=.str i/\y=.str j/\Q (.bl (decide (i.cps.toList<j.cps.toList))) H):=by
 intro d s J H x y v u Q I f e h;obtain⟨i,j,rfl,rfl,q⟩:=h;obtain⟨t,rfl⟩:=f;obtain⟨g,rfl⟩:=e;exact lt_str (Ct I q L)
def OpR.or(h:OpR X f r)(j:OpR X f i):OpR X f (λx y H Q=>r x y H Q\/i x y H Q):=by
 intro d s J H x y v u Q I g e q;rcases q with q | q
 ·exact h d s J H x y v u Q I g e q
 ·exact j d s J H x y v u Q I g e q
def iL(b:Expr)(h:{`q1,d ≠ .In})(e:{`q1,d ≠ .NotIn}):behindInMarks d b=B:=by
 have e1:(d==CmpOp.In)=B:=by cases d<;>first | rfl | exact absurd L h
 have e2:(d==CmpOp.NotIn)=B:=by cases d<;>first | rfl | exact absurd L e
 cases b<;>simp[behindInMarks,e1,e2]
def AH(j:OpR X (SC e) r)(n:PE X a ta)(m:PE X b tb)(l:behindInMarks e b=B):PE X (.Compare a [e] [b] pos) (Np r ta tb):=by
 intro d s J H Q I h;exact wpAny_Compare1 (CZ n m I h λv u f x y p o i g q=>j d f J p x y v u Q o i g q) l
noncomputable def yF(t:TE):TT:=λJ H Q=>t J H λx d=>∃k,x=.bl k/\Q k d
def ze(n:OpR X (SC f) r)(q:PE X a ta)(p:PE X b tb)(o:behindInMarks f b=B):PT X (.Compare a [f] [b] pos) (yF (Np r ta tb)):=by
 intro d s J H Q I h;refine wpAny_isTrue_Compare1 (thn (q d s J H _ I h) λv s1 ⟨x,E,A,r1,m⟩=>thn (p d s1 J E _ A m) λu g ⟨y,D,w,r2,l⟩ =>
  thn (n d g J D x y v u _ w r1 r2 l) λc F ⟨z,C,t,i,k,e,j⟩=>?_) o
 subst e;cases i;exact Xy ⟨C,t,j⟩
noncomputable def vV(r h:R2)(ta g f:TE):TE:=λJ H Q=>ta J H λx l=>g J l λy j=>r x y j λz d=>∃k,z=.bl k ∧
 (if k=M then f J d λe i=>h y e i Q else Q (.bl B) d)
def wu(O:OpR X (SC g) r)(JC:OpR X (SC i) j)(U:PE X a ta)(S:PE X b tb)(R:PE X c tc)(P:{`q4,lastMarks [g,i] [b,c]=B}):PT X (.Compare a [g,i] [b,c] pos) (yF (vV r j ta tb tc)):=by
 intro f s J H Q I h;refine isTrue_chain (thn (U f s J H _ I h) λv s1 ⟨x,H1,I1,r1,L⟩=>test_link (thn (S f s1 J H1 _ I1 L) λu w ⟨y,H2,I2,r2,G⟩ =>
  thn (O f w J H2 x y v u _ I2 r1 r2 G) λd t ⟨z,n,m,D,k,e,l⟩=>?_)) P
 subst e;cases D;refine Xy ?_;cases k with
 |false =>
  obtain⟨k',e',N⟩:=l;cases e';exact ite_ff ⟨n,m,N⟩
 |true =>
  refine ite_tt (test_last (thn (R f t J n _ m l) λp q ⟨o,H4,I4,C,F⟩=>thn (JC f q J H4 y o u p _ I4 r2 C F) λd' s5 ⟨z2,H5,I5,A,k2,e2,E⟩=>?_));subst e2;cases A;exact Xy ⟨H5,I5,E⟩
def BV(K:X3)(x:V)(H:Hp)(k:Bool):Prop :=
 match x with
 |.non=>k=B
 |.bl b=>k=b
 |.int i=>k=(i != 0)
 |.str y=>y.length<=KB/\k=((y.length:Int) != 0)
 |.byt y=>y.size<=KB/\k=((y.size:Int) != 0)
 |.ref p=>(∃d,Gw K H p d/\k=!d.isEmpty)\/(∃d,GV K H p d/\k=!d.isEmpty)\/∃e,H p=Z (.dK e)/\k=!e.isEmpty
 |_=>False
def r9{κ:Type}{e:List (κ×V)}{d:List (κ×KM)}(r:KV e d):(!d.isEmpty)=!e.isEmpty:=by
 cases r<;>rfl
def lN(r:aO d e):(!e.toArray.isEmpty)=!d.isEmpty:=by
 cases r<;>simp
def kb:(KB:Nat)<2 ^ 63:=by rw[Xe];decide
def C4:FO X (λx H Q=>∃k,BV X.K x H k/\Q k H):=by
 intro o s J H x v Q I g h;obtain⟨k,e,q⟩:=h;have E:=kb;have D:KB=16777216:=Xe;cases x with
 |non =>
  cases g;have d:k=B:=e;subst d;exact truthy_none ⟨H,I,q⟩
 |bl b =>
  cases g;have d:k=b:=e;subst d;exact Xy ⟨H,I,q⟩
 |int i =>
  obtain⟨t,rfl⟩:=g;have d:k=(i != 0):=e;subst d;exact PySem.P.truthy_int ⟨H,I,q⟩
 |str y =>
  obtain⟨t,rfl⟩:=g;obtain⟨A,d⟩:y.length<=KB/\k=((y.length:Int) != 0):=e;subst d;exact PySem.P.truthy_str (by lia) ⟨H,I.tok _,q⟩
 |byt y =>
  obtain⟨t,rfl⟩:=g;obtain⟨A,d⟩:y.size<=KB/\k=((y.size:Int) != 0):=e;subst d;exact PySem.W.truthy_bytes (by lia) ⟨H,I.tok _,q⟩
 |ref p =>
  cases g;have d:(∃f,Gw X.K H p f/\k=!f.isEmpty)\/(∃f,GV X.K H p f/\k=!f.isEmpty)\/∃j,H p=Z (.dK j)/\k=!j.isEmpty:=e;rcases d with⟨f,l,d⟩ | ⟨f,l,d⟩ | ⟨j,l,d⟩
  ·subst d;obtain⟨z,r,pl,u⟩:=I.list l;have hlen:=r.length;exact wpAny_truthy_list pl.isList (by simp only[Zb];lia) ⟨H,I.tok _,by rw[lN r];exact q⟩
  ·subst d;obtain⟨z,r,pl,u⟩:=I.tuple l;have hlen:=r.length;exact truthy_tuple pl (by simp only[Zb];lia) ⟨H,I.tok _,by rw[lN r];exact q⟩
  ·subst d;obtain⟨u,C,n,r,m⟩:j.length<=KB/\(p==sysModules)=B/\∃n,KV j n/\s.heap.DictOf (aw X.prog X.w) p n:=I.xt p _ l;have hlen:j.length=n.length:=XF r;exact wpAny_truthy_dict C m (by lia) ⟨H,I.tok _,by rw[r9 r];exact q⟩
 |_=>exact(show False from e).elim
def yM(g:PE X a ta)(he:∀whole,isTrue a X.env whole=(do let v ← whole;standAt a.pos;holding [v] (truthy v))) :
  PT X a (λJ H Q=>ta J H λx e=>∃k,BV X.K x e k/\Q k e):=by
 intro d s J H Q I h;exact isTrue_plain (thn (g d s J H _ I h) λv s1 ⟨x,j,i,r1,f⟩=>C4 d s1 J j x v Q i r1 f) (he _)
def sO:OpR X (binaryOp .Add) (λx y H Q=>∃i j,x=.str i/\y=.str j/\i.length+j.length<=KB/\Q (.str (i++j)) H):=by
 intro d s J H x y v u Q I g f h;obtain⟨i,j,rfl,rfl,l,q⟩:=h;obtain⟨t,rfl⟩:=g;obtain⟨e,rfl⟩:=f;exact add_str (λe m=>⟨.str (i++j),H,I.tok _,⟨_,rfl⟩,q⟩) l
def vals1(r:aO [x] d):∃u,d=[u]/\RelV x u:=by
 cases r with
 |cons r1 r2=>cases r2;exact⟨_,rfl,r1⟩
def vals2(r:aO [x,y] e):∃u d,e=[u,d]/\RelV x u/\RelV y d:=by
 cases r with
 |cons r1 r2 =>
  cases r2 with
  |cons g f=>cases f;exact⟨_,_,rfl,r1,g⟩
def vf(g:X.calm=M):cB X (.builtin "max") (λe H Q=>∃i j,e=[.int i,.int j]/\Q (.int (if j > i then j else i)) H):=by
 intro f s J H e m Q I r h;obtain⟨i,j,rfl,q⟩:=h;obtain⟨u,l,rfl,⟨t,rfl⟩,⟨o,rfl⟩⟩:=vals2 r;refine max_two_ints (I.ok.hd g) λp n k=>⟨_,H,I.kept k,?_,q⟩
 by_cases d:j > i
 ·rw[Zn d,Zn d];exact⟨_,rfl⟩
 ·rw[Zm d,Zm d];exact⟨_,rfl⟩
def vC(g:X.calm=M):cB X (.builtin "min") (λe H Q=>∃i j,e=[.int i,.int j]/\Q (.int (if j<i then j else i)) H):=by
 intro f s J H e m Q I r h;obtain⟨i,j,rfl,q⟩:=h;obtain⟨u,l,rfl,⟨t,rfl⟩,⟨o,rfl⟩⟩:=vals2 r;refine min_two_ints (I.ok.hd g) λp n k=>⟨_,H,I.kept k,?_,q⟩
 by_cases d:j<i
 ·rw[Zn d,Zn d];exact⟨_,rfl⟩
 ·rw[Zm d,Zm d];exact⟨_,rfl⟩
def DV(K:X3)(x:V)(H:Hp)(n:Nat):Prop :=
 match x with
 |.str y=>y.length<=KB/\n=y.length
 |.byt y=>y.size<=KB/\n=y.size
 |.ref p=>(∃d,Gw K H p d/\n=d.length)\/∃d,GV K H p d/\n=d.length
 |_=>False
def wR:cB X (.builtin "len") (λd H Q=>∃x n,d=[x]/\DV X.K x H n/\Q (.int n) H):=by
 intro l s J H d w Q I r h;obtain⟨x,n,rfl,e,q⟩:=h;obtain⟨u,rfl,g⟩:=vals1 r;have A:=kb;have z:KB=16777216:=Xe;cases x with
 |str y =>
  obtain⟨t,rfl⟩:=g;obtain⟨v,f⟩:y.length<=KB/\n=y.length:=e;subst f;exact len_str (by lia) ⟨.int _,H,I.tok _,⟨_,rfl⟩,q⟩
 |byt y =>
  obtain⟨t,rfl⟩:=g;obtain⟨v,f⟩:y.size<=KB/\n=y.size:=e;subst f;exact PySem.W.len_bytes (by lia) ⟨.int _,H,I.tok _,⟨_,rfl⟩,q⟩
 |ref p =>
  cases g;have f:(∃d,Gw X.K H p d/\n=d.length)\/∃d,GV X.K H p d/\n=d.length:=e;rcases f with⟨d,j,f⟩ | ⟨d,j,f⟩
  ·subst f;obtain⟨m,i,pl,o⟩:=I.list j;have hlen:=i.length;exact Calls.call_len_list pl.isList (by simp only[Zb];lia) ⟨.int d.length,H,I.tok _,⟨_,by simp only[Zb];rw[hlen]⟩,q⟩
  ·subst f;obtain⟨m,i,pl,o⟩:=I.tuple j;have hlen:=i.length;exact len_tuple pl (by simp only[Zb];lia) ⟨.int d.length,H,I.tok _,⟨_,by simp only[Zb];rw[hlen]⟩,q⟩
 |_=>exact(show False from e).elim
end
structure Jg(h:SL)(x dx C:KF)(mA:Wu):Prop where
 obj:h.get? x=some (PySem.W.instObj C dx)
 ns:h.Ns1 dx mA
 ne:dx≠x
def u9{h:SL}(n:h.Ns1 g d):∃b,h.get? g=Z b/\∀name,PySem.W.lookIn name b=Z (d name):=by
 obtain⟨o,f,s,j,hd,m,_,l⟩:=n;refine⟨o,j,λname=>?_⟩;have e:=l name;unfold nsFind findBy at e;rw[← Array.find?_toList]at e;unfold PySem.W.lookIn;rw[hd];dsimp only;split
 ·rename_i y q;rw[q]at e;exact congrArg Z e
 ·rename_i q;rw[q]at e;have a:f.toList.any (·.refKey)=B:=by
   rw[List.any_eq_false];intro y i;obtain⟨z,t,r⟩:=m y (Array.mem_toList_iff.mp i);simp[DictEntry.refKey,r]
  have p:¬f.toList.any (·.refKey)=M:=by rw[a];exact ZY
  rw[Zm p];exact congrArg Z e
def Jg.look(I:Jg h x d C b):∃a,PySem.W.InstAt h x (PySem.W.instObj C d) C (Z a)/\∀name,PySem.W.lookIn name a=Z (b name) :=
 let ⟨a,e,f⟩:=u9 I.ns
 ⟨a,⟨I.obj,rfl,rfl,e⟩,f⟩
section
variable{K:X3}
def get_map{s:GM}(X:K.In s.heap)(I:Jg s.heap x dx C mA)(g:PySem.W.plainGet K C name=M)(e:PySem.W.hasDictIn K C=M)(i:PySem.W.findIn K (.ref C) name=Z Y)(b:mA name=Z v)(j:PySem.W.handedIn v=M)(h:Q v { s with toks:=s.toks+1 }) :
  On (IR prog w) A (getAttr (.ref x) name a) Q E s:=by
 obtain⟨m,l,d⟩:=I.look;exact PySem.W.get_value X l (WO g).1 (PySem.W.findObj_own e i L (by rw[d,b])) j h
def yN{s:GM}(X:K.In s.heap)(I:Jg s.heap x dx C mA)(a:PySem.W.plainGet K C name=M)(j:PySem.W.findIn K (.ref C) name=Z (Z (.ref f)))(g:PySem.W.isFn K (.ref f)=M)(e:mA name=Y)(h:Q (.ref f,[.ref x]) s) :
  On (IR prog w) A (getMethod (.ref x) name b) Q E s:=by
 obtain⟨d,l,i⟩:=I.look;exact PySem.W.method_fn X l (WO a).1 (WO a).2 j (beq_iff_eq.mp g) (by show (PySem.W.lookIn name d).map (·.isSome)=Z B;rw[i,e];rfl) h
def A5{s:GM}(X:K.In s.heap)(I:Jg s.heap x dx C mA)(o:PySem.W.findIn K (.ref C) "__setattr__" = Z (Z (.builtin "object.__setattr__")))(p:PySem.W.plainOver K C=M)(n:PySem.W.takerIn K C name=Z Y)(q:PySem.W.hasDictIn K C=M)(hw:PySem.Within mA g)(e:g.length<=KB)(h:∀d,Jg d x dx C (λy=>if y=name then Z v else mA y)->Heap.SameBut dx s.heap d->Q () { s with heap:=d,toks:=s.toks+2 }) :
  On (IR prog w) A (setAttr (.ref x) name v) Q E s:=by
 obtain⟨J,l,N⟩:=I.look;refine PySem.W.set_plain X l o (PySem.W.osa_open (s:={ s with toks:=s.toks+1 }) (r:=none) X l p n λb=>?_);obtain⟨cd,t,H⟩:=PySem.W.any_some q;have m:s.heap.get? x=Z ⟨.ref C,Z dx,.plain,#[]⟩:=I.obj;refine Zy (Zr (Zy (Zy (wpAny_loadPart m (Zy (PySem.W.Looks.here (s:={ s with toks:=s.toks+1 }) (PySem.W.looks_clsIn X t) ?_))))));rw[H];refine Zr (a:=Z dx) (Zy (Zr (Zy ?_)));refine wpAny_nsSet1 (s:={ s with toks:=s.toks+1 }) I.ns λd i j=>?_;obtain⟨L,u,z,D,G,F⟩:=i.count (PySem.Within.cons name v hw);refine Zy (wpAny_lookBehind D (by rw[G];exact pastItsLine_dict (Z2 F (by rw[ZX];exact X4 e))) ?_);exact Zr (h _ ⟨(j.2 _ (YR I.ne)).trans I.obj,i,I.ne⟩ j)
def v8{A:Re}{s:GM}(X:K.In s.heap)(e:PySem.W.makesIn K C=M)(i:PySem.W.findIn K (.ref C) "__init__" = Z (Z (.ref f)))(j:PySem.W.typeIn K (.ref f)=Z (.type "function"))(h:codeAny (IR prog w) (A.under (.builtin "type.__call__" ⟨.ref C :: a,b⟩)) (.call (.ref f) ⟨.ref (s.heap.objs.size+1) :: a,b⟩) (PySem.W.InitBack (s.heap.objs.size+1) R)
   { s with heap:=(s.heap.push PySem.W.emptyDict).push (PySem.W.instObj C s.heap.objs.size) }) :
  codeAny (IR prog w) A (.call (.ref C) ⟨a,b⟩) R s:=by
 obtain⟨l,g,d,t,os⟩:=s;exact PySem.W.make_core (PySem.W.makes_of X e) (PySem.W.looks_findIn X i) (λself=>PySem.W.bind_fn X self j) (.inl L) h
end
noncomputable def hV(f:Str)(v:V):List (Str×V)->List (Str×V)
 |[]=>[(f,v)]
 | (g,x) :: r=>if g=f then (g,v) :: r else (g,x) :: hV f v r
theorem kF(f g:Str)(v:V):∀fs:List (Str×V),(hV f v fs).lookup g=if g=f then Z v else fs.lookup g
 |[]=>by
  show List.lookup g [(f,v)]=_;by_cases h:g=f
  ·have hb:(g==f)=M:=beq_iff_eq.mpr h;simp only[List.lookup,hb,Zn h]
  ·have hb:(g==f)=B:=ZJ.mpr h;simp only[List.lookup,hb,Zm h]
 | (k,x) :: r=>by
  have b:=kF f g v r;rw[show hV f v ((k,x) :: r)=(if k=f then (k,v) :: r else (k,x) :: hV f v r) from rfl];by_cases a:k=f
  ·rw[Zn a];by_cases h:g=k
   ·have hb:(g==k)=M:=beq_iff_eq.mpr h;simp only[List.lookup,hb,Zn (h.trans a)]
   ·have hb:(g==k)=B:=ZJ.mpr h;simp only[List.lookup,hb,Zm (λe:g=f=>h (e.trans a.symm))]
  ·rw[Zm a];by_cases h:g=k
   ·have hb:(g==k)=M:=beq_iff_eq.mpr h;simp only[List.lookup,hb,Zm (λe:g=f=>a (h.symm.trans e))]
   ·have hb:(g==k)=B:=ZJ.mpr h;simp only[List.lookup,hb];exact b
theorem kc(f:Str)(v:V):∀fs:List (Str×V),f∈(hV f v fs).map (·.1)/\∀g,g∈fs.map (·.1)->g∈(hV f v fs).map (·.1)
 |[]=>⟨by simp[hV],λg h=>by simp at h⟩
 | (k,x) :: r=>by
  obtain⟨d,b⟩:=kc f v r;rw[show hV f v ((k,x) :: r)=(if k=f then (k,v) :: r else (k,x) :: hV f v r) from rfl];by_cases a:k=f
  ·rw[Zn a];subst a;exact⟨by simp,λg h=>by simpa using h⟩
  ·rw[Zm a];refine⟨?_,λg h=>?_⟩
   ·rw[Zi];exact Zt _ d
   ·rw[Zi]at h ⊢;rcases Zj.mp h with e | e
    ·exact Zj.mpr (.inl e)
    ·exact Zt _ (b g e)
theorem kR(f:Str)(v:V):∀fs:List (Str×V),(hV f v fs).length<=fs.length+1
 |[]=>by simp[hV]
 | (k,x) :: r=>by
  have b:=kR f v r;rw[show hV f v ((k,x) :: r)=(if k=f then (k,v) :: r else (k,x) :: hV f v r) from rfl];by_cases a:k=f
  ·rw[Zn a,ZX,ZX];exact YS _ _
  ·rw[Zm a,ZX,ZX];exact X4 b
def hZ.some_of{v:V}{o:Vw}(r:hZ (Z v) o):∃u,o=Z u/\RelV v u:=by
 cases o with
 |none=>exact(show False from r).elim
 |some u=>exact⟨u,rfl,r⟩
def hZ.none_of(r:hZ Y o):o=Y:=by
 cases o with
 |none=>rfl
 |some u=>exact(show False from r).elim
def uQ(r:RelV v u):PySem.W.handedIn u=M:=by
 cases v with
 |non=>cases (show u=Value.none from r);rfl
 |bl b=>cases (show u=Value.bool b from r);rfl
 |int i=>obtain⟨t,e⟩:=(show ∃t,u=Value.int i t from r);cases e;rfl
 |str x=>obtain⟨t,e⟩:=(show ∃t,u=Value.str x t from r);cases e;rfl
 |byt b=>obtain⟨t,e⟩:=(show ∃t,u=Value.bytes b t from r);cases e;rfl
 |flt b=>obtain⟨t,e⟩:=(show ∃t,u=Value.float b t from r);cases e;rfl
 |ref a=>cases (show u=Value.ref a from r);rfl
 |ty n=>cases (show u=Value.type n from r);rfl
section
def lh(g:Hf P w H h)(e:H a=Z (.ins C dx fs)):∃b,Jg h a dx C b/\(∀f,hZ (fs.lookup f) (b f))/\PySem.Within b (fs.map (·.1))/\fs.length<=1000/\H dx=Z (.own a):=by
 obtain⟨d,z,ne,i,b,n,r,q⟩:=(show bF P w H h a (.ins C dx fs) from g a _ e)
 exact⟨b,⟨i,n,ne⟩,r,q,z,d⟩
end
structure Hs(K:X3)(C:KF):Prop where
 pg:PySem.W.plainGet K C Str.empty=true
 hd:PySem.W.hasDictIn K C=true
 po:PySem.W.plainOver K C=true
 sa:PySem.W.findIn K (.ref C) "__setattr__" = some (some (.builtin "object.__setattr__"))
def Hs.get{K:X3}(c:Hs K C)(f:Str):PySem.W.plainGet K C f=M:=c.pg
def aU(K:X3)(C:KF)(f:Str):Prop:=PySem.W.findIn K (.ref C) f=Z Y
def aU.Nn{K:X3}(n:aU K C f):PySem.W.takerIn K C f=Z Y:=by
 unfold PySem.W.takerIn;rw[show PySem.W.findIn K (.ref C) f=Z Y from n];rfl
structure Meth(K:X3)(C:KF)(m:Str)(f:KF):Prop where
 at_:PySem.W.findIn K (.ref C) m=some (some (.ref f))
 fn:PySem.W.isFn K (.ref f)=true
 kp:PySem.W.keepIn K (.ref f)=true
section
variable{X:Cx}
def sR(I:Inv X pins J H s)(e:H a=Z (.ins C dx fs))(c:Hs X.K C)(n:aU X.K C f)(l:fs.lookup f=Z v)(h:∀u d,Inv X pins J H d->RelV v u->Q u d):On (IR X.prog X.w) A (getAttr (.ref a) f b) Q E s:=by
 obtain⟨i,m,r,_,_,_⟩:=lh I.xt e;obtain⟨u,j,g⟩:=hZ.some_of (v:=v) (o:=i f) (by rw[← l];exact r f);exact get_map I.Ht m (c.get f) c.hd n j (uQ g) (h u _ (I.tok _) g)
def lJ(I:Inv X pins J H s)(e:H a=Z (.ins C dx fs))(c:Hs X.K C)(k:Meth X.K C m g)(l:fs.lookup m=Y)(h:Q (.ref g,[.ref a]) s):On (IR X.prog X.w) A (getMethod (.ref a) m b) Q E s:=by
 obtain⟨d,j,r,_,_,_⟩:=lh I.xt e;have i:d m=Y:=hZ.none_of (by rw[← l];exact r m);exact yN I.Ht j (c.get m) k.at_ k.fn i h
def rM(I:Inv X pins J H s)(e:H a=Z (.ins C dx fs))(c:Hs X.K C)(n:aU X.K C f)(N:fs.length<1000)(D:RelV y u)(h:∀l,Inv X pins J (upd H a (.ins C dx (hV f y fs))) l->Q () l):On (IR X.prog X.w) A (setAttr (.ref a) f u) Q E s:=by
 obtain⟨m,i,r,j,_,p⟩:=lh I.xt e;have F:(fs.map (·.1)).length<=sizeLine:=by rw[Zx,Xe];lia
 refine A5 I.Ht i c.sa c.po n.Nn c.hd j F λG d t=>h _ ?_;have hd:∃o,G.get? dx=Z o:=let ⟨o,_,_,L,_⟩:=d.ns;⟨o,L⟩
 refine I.write (x:=a) (e:=dx) (by rw[e];exact True.intro) (.inr p) (λb q hb z=>(t.2 b hb).trans z) hd ?_;refine⟨by rw[aE i.ne];exact p,?_,i.ne,d.obj,_,d.ns,λg=>?_,λg hg=>?_⟩
 ·have:=kR f y fs;lia
 ·show hZ ((hV f y fs).lookup g) (if g=f then Z u else m g);rw[kF];by_cases q:g=f
  ·rw[Zn q,Zn q];exact D
  ·rw[Zm q,Zm q];exact r g
 ·by_cases q:g=f
  ·rw[q];exact(kc f y fs).1
  ·refine(kc f y fs).2 g (j g λz=>hg ?_);show (if g=f then Z u else m g)=Y;rw[Zm q];exact z
def Inv.made(I:Inv X pins J H s):Inv X pins J (upd (upd H s.heap.objs.size (.own (s.heap.objs.size+1))) (s.heap.objs.size+1) (.ins C s.heap.objs.size []))
  { s with heap:=(s.heap.push PySem.W.emptyDict).push (PySem.W.instObj C s.heap.objs.size) }:=by
 have e1:(s.heap.push PySem.W.emptyDict).get? s.heap.objs.size=Z PySem.W.emptyDict:=Zh s.heap L;have e2:((s.heap.push PySem.W.emptyDict).push (PySem.W.instObj C s.heap.objs.size)).get? (s.heap.objs.size+1)=Z (PySem.W.instObj C s.heap.objs.size):=by
  have:=Zh (s.heap.push PySem.W.emptyDict) (o:=PySem.W.instObj C s.heap.objs.size) L
  rwa [Z9]at this
 have e3:(s.heap.push PySem.W.emptyDict).Ns s.heap.objs.size (λ_=>Y):=⟨PySem.W.emptyDict,#[],_,e1,rfl,(λe he=>absurd he (by simp)),λ_=>rfl⟩
 have g:=I.laid (a:=s.heap.objs.size) (o:=.own (s.heap.objs.size+1)) (h':=s.heap.push PySem.W.emptyDict) (t':=s.toks) (λb u q=>Zw _ q) (Zl _) ⟨_,e1⟩;refine g.laid (a:=s.heap.objs.size+1) (o:=.ins C s.heap.objs.size []) (t':=s.toks) (λb u q=>Zw _ q) (XT (Z9 _ _)) ?_;have ne:s.heap.objs.size≠s.heap.objs.size+1:=Zg (Yz _);refine⟨by rw[aE ne,ay],YT _,ne,e2,λ_=>Y,(Heap.Ns1.of_empty e3).at λo q=>Zw _ q,λ_=>True.intro,λy d=>absurd L d⟩
def zz{f:Str}{s:GM}(j:UF e f d (eval e d)=eval e d)(h:On (IR b w) A (eval e d) (λo i=>On (IR b w) A (getAttr o f M) Q E i) E s):On (IR b w) A (eval (.Attribute e f g) d) Q E s :=
 Attribute_any_ h (by rw[arm_eval_Attribute,j])
end
def FP(K:X3)(ta:TE)(f:Str):TE:=λJ H Q=>ta J H λx b=>∃a C d fs v,x=.ref a/\b a=Z (.ins C d fs)/\Hs K C/\aU K C f/\fs.lookup f=Z v/\Q v b
def Fq(K:X3)(ta e:TE)(f:Str):TS:=λD J H=>e J H λy g=>ta J g λx d=>∃a C b fs,x=.ref a/\d a=Z (.ins C b fs)/\Hs K C/\aU K C f/\fs.length<1000 ∧
 D.nx J (upd d a (.ins C b (hV f y fs)))
section
variable{X:Cx}
def yS(he:PE X e ta)(i:UF e f X.env (eval e X.env)=eval e X.env):PE X (.Attribute e f pos) (FP X.K ta f):=by
 intro b s J H Q I h;refine zz i (thn (he b s J H _ I h) λu s1 ⟨x,r,p,d,a,C,y,fs,v,ex,j,c,n,l,q⟩=>?_);subst ex;obtain rfl:u=Value.ref a:=d;exact sR p j c n l λt w m g=>⟨v,r,m,g,q⟩
def Ca{pos:Pos}(r:PE X o ta)(m:PE X value tv)(p:swapsWith value (Z (.Attribute o f pos')) pos.line X.env=pure B):PS X (.Assign [.Attribute o f pos'] value pos) (Fq X.K ta tv f):=by
 intro b s J H D I h;refine plainObj_wpAny_Assign_Attribute (thn (m b s J H _ I h) λu s1 ⟨y,A,z,d,q⟩=>thn (r b s1 J A _ z q) λj F ⟨x,L,w,g,a,C,G,fs,ex,t,c,n,l,i⟩=>?_) p;subst ex;obtain rfl:j=Value.ref a:=g;exact rM w t c n l d λE v=>⟨J,_,v,i⟩
end
section
variable{X:Cx}
inductive Hm(K:X3)(H:Hp):V->KM->Prop where
 |non:Hm K H .non (.type "NoneType")
 |bl (x:Bool):Hm K H (.bl x) (.type "bool")
 |int (i:Int):Hm K H (.int i) (.type "int")
 |str (x:Str):Hm K H (.str x) (.type "str")
 |flt (x:UInt64):Hm K H (.flt x) (.type "float")
 |lst {a:KF} {xs:List V} (e:H a=some (.lst xs)):Hm K H (.ref a) (.type "list")
 |frz {a:KF} {o:Obj} {xs:List V} (e:H a=some (.frz o (.lst xs))):Hm K H (.ref a) (.type "list")
 |tup {a:KF} {xs:List V} (e:H a=some (.tup xs)):Hm K H (.ref a) (.type "tuple")
 |dK {a:KF} {bt:List (Key×V)} (e:H a=some (.dK bt)):Hm K H (.ref a) (.type "dict")
 |dT {a:KF} {bt:List (List Key×V)} (e:H a=some (.dT bt)):Hm K H (.ref a) (.type "dict")
 |ins {a C dx:KF} {fs:List (Str×V)} (e:H a=some (.ins C dx fs)) (cl:Hs K C) (ha:PySem.W.findIn K (.ref C) "__class__" = some (some (.builtin "object.__class__")))
   (hn:PySem.W.specialIn K (.builtin "object.__class__") "__get__" = some (some (.builtin "getset_descriptor.__get__"))) (SA:PySem.W.takesIn K (.builtin "object.__class__")=some true)
   (hm:PySem.W.mroIn K C (.type "object")=some true):Hm K H (.ref a) (.ref C)
def u0(I:Inv X pins J H s)(d:RelV x u)(r:Hm X.K H x t)(e:PySem.W.kitOne X.K t c=Z b)(h:∀v,Q (.bool b) { s with toks:=v }) :
  On (IR X.prog X.w) A (call (.builtin "isinstance") [u,c]) Q E s:=by
 cases r with
 |non=>cases (show u=Value.none from d);exact YV PySem.W.kitx_none I.Ht True.intro e (λz=>nomatch z) h
 |bl y=>cases (show u=Value.bool y from d);exact YV PySem.W.kitx_bool I.Ht True.intro e (λz=>nomatch z) h
 |int i=>obtain⟨t,q⟩:=(show ∃t,u=Value.int i t from d);cases q;exact YV PySem.W.kitx_int I.Ht True.intro e (λz=>nomatch z) h
 |str y=>obtain⟨t,q⟩:=(show ∃t,u=Value.str y t from d);cases q;exact YV PySem.W.kitx_str I.Ht True.intro e (λz=>nomatch z) h
 |flt y=>obtain⟨t,q⟩:=(show ∃t,u=Value.float y t from d);cases q;exact YV PySem.W.kitx_float I.Ht True.intro e (λz=>nomatch z) h
 |@lst a j f =>
  cases (show u=Value.ref a from d);obtain⟨_,_,n,_,g⟩:=(show bF X.prog X.w H s.heap a (.lst j) from I.xt a _ f)
  exact YV PySem.W.kitx_list I.Ht ⟨_,g,rfl⟩ e (λz=>nomatch z) h
 |@frz a D j f =>
  cases (show u=Value.ref a from d);obtain⟨_,_,_,n,_,g⟩:=(show bF X.prog X.w H s.heap a (.frz D (.lst j)) from I.xt a _ f)
  exact YV PySem.W.kitx_list I.Ht ⟨_,g,rfl⟩ e (λz=>nomatch z) h
 |@tup a j f =>
  cases (show u=Value.ref a from d);obtain⟨_,_,_,_,p⟩:=(show bF X.prog X.w H s.heap a (.tup j) from I.xt a _ f)
  obtain⟨o,g,l,_⟩:=p;exact YV PySem.W.kitx_tuple I.Ht ⟨o,g,l⟩ e (λz=>nomatch z) h
 |@dK a m f =>
  cases (show u=Value.ref a from d);obtain⟨_,_,U,_,p⟩:=(show bF X.prog X.w H s.heap a (.dK m) from I.xt a _ f)
  obtain⟨o,N,O,g,l,_⟩:=p;exact YV PySem.W.kitx_dict I.Ht ⟨o,g,l.1⟩ e (λz=>nomatch z) h
 |@dT a m f =>
  cases (show u=Value.ref a from d);obtain⟨_,_,j,_,o,N,O,g,l,_⟩:=(show bF X.prog X.w H s.heap a (.dT m) from I.xt a _ f)
  exact YV PySem.W.kitx_dict I.Ht ⟨o,g,l.1⟩ e (λz=>nomatch z) h
 |@ins a C dx fs f cl L F P G =>
  cases (show u=Value.ref a from d);obtain⟨mA,R,_⟩:=lh I.xt f;obtain⟨od,S,_⟩:=R.look;exact YV (PySem.W.kitx_own (cl.get _) cl.hd L F P G) I.Ht S e (λz=>nomatch z) h
end
structure pe(k:Nat)(A:Re):Prop where
 hd:A.handled=none
 dp:A.depth+3*k+5<recursionLimit
 un:A.units+16*k+200<cLine
def pe.mono{k:Nat}(r:pe k A)(h:j<=k):pe j A:=⟨r.hd,by have:=r.dp;lia,by have:=r.un;lia⟩
theorem pe.deeper(r:pe (k+1) A)(a:Env):pe k (A.deeper a) :=
 ⟨r.hd,by have:=r.dp;show A.depth+1+3*k+5<_;lia,by have:=r.un;show A.units+3+16*k+200<_;lia⟩
def sU{A:Re}:(A.under (.builtin "type.__call__" ⟨.ref C :: a,b⟩)).depth=A.depth+1:=by
 first | rfl | simp[Around.under,Code.weight,Code.isCreation,Code.isGuard,Code.isCaller,Code.frames,Code.isFrame,guardIds]
def su{A:Re}:(A.under (.builtin "type.__call__" ⟨.ref C :: a,b⟩)).units=A.units+1:=by
 first | rfl | simp[Around.under,Code.cUnits,Code.frames,Code.isFrame]
def pe.make(r:pe (k+1) A)(C:KF)(a:Vx)(b:List (Str×KM)):pe k (A.under (.builtin "type.__call__" ⟨.ref C :: a,b⟩)) :=
 ⟨r.hd,by have:=r.dp;rw[sU];lia,by have:=r.un;rw[su];lia⟩
theorem pe.depth(r:pe k A):A.depth<recursionLimit:=by have:=r.dp;lia
theorem pe.units(r:pe k A):A.units+64<cLine:=by have:=r.un;lia
noncomputable def uW:TA:=λ_ H Q=>Q [] H
noncomputable def DZ(ta:TE)(b:TA):TA:=λJ H Q=>ta J H λx e=>b J e λa d=>Q (x :: a) d
section
variable{X:Cx}
def jh:PA X [] uW:=λ_ _ _ _ H Q I h=>WW ⟨[],H,I,.nil,h⟩
def d7(j:PE X e te)(i:PA X es t)(g:{`q2,K1 e es X}):PA X (e :: es) (DZ te t):=by
 intro pos a s J H Q I h;rw[g];show On _ _ (spliced ((B,eval e X.env) :: backTo pos (Pi es X.env))) _ _ s;refine X1 (thn (j a s J H _ I h) λu s1 ⟨x,o,m,r1,f⟩=>?_);exact thn (i pos a s1 J o _ m f) λp q ⟨b,n,l,r2,d⟩=>⟨x :: b,n,l,.cons r1 r2,d⟩
def FV(t:TA):TE:=λJ H Q=>t J H λa b=>a.length<=KB/\∀p,b p=Y->Q (.ref p) (upd b p (.tup a))
def FH(t:TA):TE:=λJ H Q=>t J H λa b=>a.length<=KB/\∀p,b p=Y->Q (.ref p) (upd b p (.lst a))
def BL{x1}(h:PA X es t):PE X (.Tuple es x1 pos) (FV t):=by
 intro a s J H Q I j;refine wpAny_Tuple_spliced (thn (h pos a s J H _ I j) λi s1 ⟨g,f,d,r,z,q⟩=>⟨by rw[← r.length];exact z,?_⟩);have l:f s1.heap.objs.size=Y:=d.xt.fresh (Zl _);refine⟨.ref s1.heap.objs.size,upd f s1.heap.objs.size (.tup g),d.laid (t':=s1.toks) (λb u e=>Zw _ e) (Zl _) ?_,rfl,q _ l⟩;exact⟨z,i,r,KU.of (Zh _ L) L,⟨_,Zh _ L,rfl,_,rfl⟩⟩
def C7(h:PA X es t):PE X (.List es pos) (FH t):=by
 intro a s J H Q I j;refine wpAny_List_spliced (thn (h pos a s J H _ I j) λi s1 ⟨g,f,d,r,z,q⟩=>⟨by rw[← r.length];exact z,?_⟩);have l:f s1.heap.objs.size=Y:=d.xt.fresh (Zl _);refine⟨.ref s1.heap.objs.size,upd f s1.heap.objs.size (.lst g),d.laid (t':=s1.toks) (λb u e=>Zw _ e) (Zl _) ?_,rfl,q _ l⟩;exact⟨z,i,0,r,Zh _ L⟩
end
abbrev Sp:=List V->Hp->VK->XK->Prop
abbrev JS:=List Env->Hp->GM->XK->Z1
structure Env0(P:P3)(w:SZ)(K:X3)(mg:Wu)(base:SL)(A:Re)(outer:List Env)(s:GM)(H:Hp):Prop where
 frames:A.frames=some outer
 mod:Mod K mg base
 tb:∀b q,Tb base b q->H b=some (.tbl q)
 bs:∀b o,base.get? b=some o->s.heap.get? b=some o/\H b=none
 Lm:base.objs.size<=s.heap.objs.size
 Hx:s.heap.FunFrames base outer
 MJ:∀b∈Ha outer,H b=none
 xt:Hf P w H s.heap
 bare:AllBare s.gens
def CE(a:List Env)(P:P3)(w:SZ)(H:Hp)(s:GM)(Q:VK)(u:KM)(b:GM):Prop :=
 ∃v d,b.os=s.os/\AllBare b.gens/\Un (Ha a) [] H d s.heap b.heap/\Hf P w d b.heap/\RelV v u/\Q v d
def CR(d:JS)(a:List Env)(P:P3)(w:SZ)(H:Hp)(s:GM)(Q:VK)(E:XK)(r:Result)(b:GM):Prop :=
 match r with
 |.ok (.ret u)=>CE a P w H s Q u b
 |.ok _=>False
 |.error e=>d a H s E e b
structure FnOk(P:P3)(w:SZ)(K:X3)(mg:Wu)(base:SL)(CX:JS)(k:Nat)(f:KF)(fd:Pv)(ps:List Str)(sp:Sp):Prop where
 len:∀vs H Q E,sp vs H Q E->vs.length=ps.length
 run:∀(A:Re)(outer:List Env)(s:GM)(H:Hp)(args:Args)(us:Vx)(vs:List V)(Q:VK)(E:XK),pe k A->Env0 P w K mg base A outer s H->BindsTo s fd args (ps.zip us)->aO vs us->sp vs H Q E →
  codeAny (IR P w) A (.call (.ref f) args) (CR CX outer P w H s Q E) s
def FnOk.imp{K:X3}(F:FnOk P w K g a l k f i e d)(h:∀b H Q E,j b H Q E->d b H Q E):FnOk P w K g a l k f i e j :=
 ⟨λb H Q E q=>F.len b H Q E (h _ _ _ _ q),λA outer s H args m b Q E p he hb n o=>F.run A outer s H args m b Q E p he hb n (h _ _ _ _ o)⟩
def Env0.make{K:X3}(e:Env0 P w K d b A a s H)(C:KF)(f:Vx)(g:List (Str×KM)) :
  Env0 P w K d b (A.under (.builtin "type.__call__" ⟨.ref C :: f,g⟩)) a s H:=⟨by first | exact e.frames | (simpa[Around.under,Code.envs,Code.isFrame,pushEnvs] using e.frames),e.mod,e.tb,e.bs,e.Lm,e.Hx,e.MJ,e.xt,e.bare⟩
section
variable{X:Cx}
def Inv.Of(I:Inv X pins J H s):Env0 X.prog X.w X.K X.mg X.base X.A X.stack s H :=
 ⟨I.ok.frames,I.ok.mod,I.tb,I.bs,Z2 I.ok.Lm I.sz,I.stack,I.Jj,I.xt,I.bare⟩
def Inv.after(I:Inv X pins J H s)(h:CE X.stack X.prog X.w H s Q u s'):EP X pins J Q u s':=by
 obtain⟨v,f,os,bare,un,xt,r,q⟩:=h;obtain⟨a,g,d,t,e⟩:=s';obtain rfl:e=s.os:=os;exact⟨v,f,I.call (h':=a) (g':=g) (d':=d) (t':=t) (ch:=[]) un xt bare (λb z=>absurd z (by simp)),r,q⟩
end
noncomputable def Bb(b:Sp)(d:List V)(E:XK)(t:TA):TE:=λJ H Q=>t J H λa e=>b (a++d) e Q E
def ub(C:KF)(m:Str)(e:Sp)(g:List V)(E:XK)(ta:TE)(t:TA):TE:=λJ H Q=>ta J H λx b=>∃a f fs,x=.ref a/\b a=Z (.ins C f fs)/\fs.lookup m=Y ∧
 t J b λd h=>e (x :: (d++g)) h Q E
def wb(C:KF)(e:Sp)(f:List V)(E:XK)(t:TA):TE:=λJ H Q=>t J H λd b=>∀x a,b x=Y->b a=Y->a≠x →
 e (.ref x :: (d++f)) (upd (upd b a (.own x)) x (.ins C a [])) (λv g=>v=.non/\Q (.ref x) g) E
noncomputable def Binds(K:X3)(d:Pv)(b:List Str)(ds:Vx):Prop :=
 ∀(s:GM)(a:Vx),K.In s.heap->(a++ds).length=b.length->BindsTo s d ⟨a,[]⟩ (b.zip (a++ds))
def Binds.all{K:X3}{b:List Str}(h:∀a:Vx,a.length=b.length->bindArgs e ⟨a,[]⟩=pure (b.zip a)):Binds K e b []:=λs a _ d=>by
 rw[ZE]at d ⊢;exact .of_eq (h a d)
def iu(d:JS)(X:Cx)(E:XK):Prop:=∀(a:Yx)(J:St)(H:Hp)(s:GM)(e:KM)(b:GM),Inv X a J H s->d X.stack H s E e b->X.xe e b
section
variable{X:Cx}
def sg{us:Vx}{vs:List V}(F:FnOk X.prog X.w X.K X.mg X.base CX k f fd ps sp)(i:pe k X.A)(n:Binds X.K fd ps ds)(l:aO HF ds)(g:iu CX X E)(I:Inv X a J H s)(r:aO vs us)(h:sp (vs++HF) H Q E):On (IR X.prog X.w) X.A (call (.ref f) us) (EP X a J Q) X.xe s:=by
 have r2:aO (vs++HF) (us++ds):=r.append l;have j:(us++ds).length=ps.length:=by rw[← r2.length];exact F.len _ _ _ _ h
 refine wpAny_call (X9 (F.run X.A X.stack s H ⟨us,[]⟩ (us++ds) (vs++HF) Q E i I.Of (n s us I.Ht j) r2 h) λr d b=>?_);cases r with
 |error e=>exact g a J H s e d I b
 |ok q =>
  cases q with
  |ret u=>exact I.after b
  |next=>exact False.elim b
  |brk=>exact False.elim b
  |cont=>exact False.elim b
def zj(F:FnOk X.prog X.w X.K X.mg X.base CX k f fd ps sp)(i:pe k X.A)(n:Gl X x)(j:X.mg x=Z (.ref f))(l:PySem.W.keepIn X.K (.ref f)=M)(v:Binds X.K fd ps ds)(u:aO HF ds)(g:iu CX X E)(y:PA X (e :: es) t)(z:{`q1,K3 x})(he:{`q2,K1 e es X})(b:{`q2,K2 pos es X}) :
  PE X (.Call (.Name x p) (e :: es) [] pos) (Bb sp HF E t):=by
 intro a s J H Q I h;refine Y4 (lq I n j ?_ z);refine WH (h₀:=X.base) I.ok.mod.NL l (thn (y pos a s J H _ I h) λG s1 ⟨D,L,d,r,q⟩=>⟨d.Ht,?_⟩) he b;exact sg F i v u g d r q
def pz(he:PE X o ta)(c:Hs X.K C)(i:Meth X.K C m f)(F:FnOk X.prog X.w X.K X.mg X.base CX k f fd ps sp)(G:pe k X.A)(O:Binds X.K fd ps ds)(N:aO HF ds)(z:iu CX X E)(P:PA X (e :: es) t)(U:{`q2,K1 e es X})(d:{`q2,K2 pos es X})(D:{`q2,eval (.Call (.Attribute o m apos) (e :: es) [] pos) X.env=(do
   let g ← eval o X.env
   standAt apos.atName
   let (f,first) ← holding [g] (getMethod g m pl)
   callWith pos f first (backTo pos (Pi (e :: es) X.env)) (backToKw pos (SB [] X.env)))}) :
  PE X (.Call (.Attribute o m apos) (e :: es) [] pos) (ub C m sp HF E ta t):=by
 intro b s J H Q I h;refine PySem.W.methodCall_KW (pl:=pl) (thn (he b s J H _ I h) λu s1 ⟨x,S,n,v,a,dx,fs,ex,R,l,q⟩=>?_) D;subst ex;obtain rfl:u=Value.ref a:=v;refine lJ n R c i l ?_;refine WH (first:=[.ref a]) (h₀:=X.base) I.ok.mod.NL i.kp (thn (P pos b s1 J S _ n q) λus s2 ⟨vs,H2,j,r,y⟩=>⟨j.Ht,?_⟩) U d;exact sg (us:=.ref a :: us) (vs:=.ref a :: vs) F G O N z j (.cons L r) y
def qf(he:PE X o ta)(c:Hs X.K C)(i:Meth X.K C m f)(F:FnOk X.prog X.w X.K X.mg X.base CX k f fd ps sp)(v:pe k X.A)(z:Binds X.K fd ps ds)(y:aO HF ds)(n:iu CX X E)(r:{`q2,eval (.Call (.Attribute o m apos) [] [] pos) X.env=(do
   let g ← eval o X.env
   standAt apos.atName
   let (f,first) ← holding [g] (getMethod g m pl)
   callWith pos f first (backTo pos (Pi [] X.env)) (backToKw pos (SB [] X.env)))}) :
  PE X (.Call (.Attribute o m apos) [] [] pos) (ub C m sp HF E ta uW):=by
 intro b s J H Q I h;refine PySem.W.methodCall_KW (pl:=pl) (thn (he b s J H _ I h) λu s1 ⟨x,N,d,j,a,G,fs,ex,D,l,q⟩=>?_) r;subst ex;obtain rfl:u=Value.ref a:=j;refine lJ d D c i l ?_;exact PySem.W.callWith_K0 (first:=[.ref a]) d.Ht i.kp (sg (us:=[.ref a]) (vs:=[.ref a]) F v z y n d (.cons L .nil) q)
structure Mk(K:X3)(C f:KF):Prop where
 makes:PySem.W.makesIn K C=true
 init:PySem.W.findIn K (.ref C) "__init__" = some (some (.ref f))
 fn:PySem.W.isFn K (.ref f)=true
 kp:PySem.W.keepIn K (.ref C)=true
def rH{us:Vx}(M:Mk X.K C f)(F:FnOk X.prog X.w X.K X.mg X.base CX k f fd ps sp)(z:pe (k+1) X.A)(N:Binds X.K fd ps ds)(G:aO HF ds)(y:iu CX X E)(I:Inv X a J H s)(r:aO i us)(h:∀x d,H x=Y->H d=Y->d≠x->sp (.ref x :: (i++HF)) (upd (upd H d (.own x)) x (.ins C d [])) (λv R=>v=.non/\Q (.ref x) R) E) :
  On (IR X.prog X.w) X.A (call (.ref C) us) (EP X a J Q) X.xe s:=by
 have j:=h (s.heap.objs.size+1) s.heap.objs.size (I.xt.fresh (Y5 _)) (I.xt.fresh (Zl _)) (Zg (Yz _));have g:=Inv.made (C:=C) I;have r2:aO (V.ref (s.heap.objs.size+1) :: (i++HF)) (Value.ref (s.heap.objs.size+1) :: (us++ds)):=.cons L (r.append G);have D:(Value.ref (s.heap.objs.size+1) :: us++ds).length=ps.length:=by
  have e:=r2.length;rw[F.len _ _ _ _ j]at e;exact e.symm
 refine wpAny_call (v8 (f:=f) I.Ht M.makes M.init (beq_iff_eq.mp M.fn) (X9 (F.run _ X.stack _ _ ⟨Value.ref (s.heap.objs.size+1) :: us,[]⟩ (Value.ref (s.heap.objs.size+1) :: (us++ds)) _ _ E (z.make C us [])
  (g.Of.make C us []) (N _ (Value.ref (s.heap.objs.size+1) :: us) g.Ht D) r2 j) λr l b=>?_))
 cases r with
 |error e=>exact y a J _ _ e l g b
 |ok O =>
  cases O with
  |ret u =>
   obtain⟨v,S,P,n,ev,q⟩:=g.after b;subst ev;exact⟨n,⟨V.ref (s.heap.objs.size+1),S,P,rfl,q⟩⟩
  |next=>exact False.elim b
  |brk=>exact False.elim b
  |cont=>exact False.elim b
def zH(M:Mk X.K C f)(F:FnOk X.prog X.w X.K X.mg X.base CX k f fd ps sp)(i:pe (k+1) X.A)(l:Gl X x)(j:X.mg x=Z (.ref C))(u:Binds X.K fd ps ds)(n:aO HF ds)(g:iu CX X E)(v:PA X (e :: es) t)(y:{`q1,K3 x})(he:{`q2,K1 e es X})(b:{`q2,K2 pos es X}) :
  PE X (.Call (.Name x p) (e :: es) [] pos) (wb C sp HF E t):=by
 intro a s J H Q I h;refine Y4 (lq I l j ?_ y);refine WH (h₀:=X.base) I.ok.mod.NL M.kp (thn (v pos a s J H _ I h) λD s1 ⟨z,G,d,r,q⟩=>⟨d.Ht,?_⟩) he b;exact rH M F i u n g d r q
def vW(M:Mk X.K C f)(F:FnOk X.prog X.w X.K X.mg X.base CX k f fd ps sp)(d:pe (k+1) X.A)(i:Gl X x)(g:X.mg x=Z (.ref C))(l:Binds X.K fd ps ds)(j:aO HF ds)(b:iu CX X E)(n:{`q1,K3 x}):PE X (.Call (.Name x p) [] [] pos) (wb C sp HF E uW):=by
 intro a s J H Q I h;refine Y4 (lq I i g ?_ n);exact PySem.W.callWith_K0 I.Ht M.kp (rH (us:=[]) M F d l j b I .nil h)
end
structure gV(N P:List Str)(sc:Scope):Prop where
 kind:sc.kind=.function
 co:sc.isCoroutine=false
 gen:sc.isGenerator=false
 nd:N.Nodup
 pre:N.take P.length=P
 par:∀x∈P,sc.names.lookup x=some .local\/sc.names.lookup x=some .cell
 L9:∀y∈sc.names,y.2 ≠ .free
theorem nQ:∀{binds:List (Str×KM)}{m:Wu},(∀v,(x,v)∉binds)->bindL a binds m x=m x
 |[],_,_=>rfl
 | (n,v) :: r,m,h=>by
  unfold bindL;rw[nQ λw hw=>h w (Zt _ hw)];split
  ·have:x≠n:=by rintro rfl;exact h v Zu
   simp[this]
  ·rfl
theorem og:∀{binds:List (Str×KM)}{m:Wu},(∀v,(x,v)∉binds)->bindC a binds m x=m x
 |[],_,_=>rfl
 | (n,v) :: r,m,h=>by
  unfold bindC;rw[og λw hw=>h w (Zt _ hw)];split
  ·rfl
  ·have:x≠n:=by rintro rfl;exact h v Zu
   simp[this]
theorem nU:∀{P:List Str}{b:Vx}{i:Nat}{m:Wu},P.Nodup->P[i]?=Z x->b[i]?=Z v->a x=Z .local →
  bindL a (P.zip b) m x=Z v
 |[],_,_,_,_,h,_,_=>by simp at h
 |_ :: _,[],_,_,_,_,h,_=>by simp at h
 |p :: P,w :: b,0,m,nd,e,d,f=>by
  simp at e d;subst e;subst d;show bindL a ((p,w) :: P.zip b) m p=_;unfold bindL;rw[nQ λv g=>(Zd.mp nd).1 (WZ g).1,Zn f];simp
 |p :: P,w :: b,i+1,m,nd,e,d,f=>by
  show bindL a ((p,w) :: P.zip b) m x=_;unfold bindL;exact nU (i:=i) (Zd.mp nd).2 (by simpa using e) (by simpa using d) f
theorem oi:∀{P:List Str}{b:Vx}{i:Nat}{m:Wu},P.Nodup->P[i]?=Z x->b[i]?=Z v->a x≠Z .local →
  bindC a (P.zip b) m x=Z v
 |[],_,_,_,_,h,_,_=>by simp at h
 |_ :: _,[],_,_,_,_,h,_=>by simp at h
 |p :: P,w :: b,0,m,nd,e,d,f=>by
  simp at e d;subst e;subst d;show bindC a ((p,w) :: P.zip b) m p=_;unfold bindC;rw[og λv g=>(Zd.mp nd).1 (WZ g).1,Zm f];simp
 |p :: P,w :: b,i+1,m,nd,e,d,f=>by
  show bindC a ((p,w) :: P.zip b) m x=_;unfold bindC;exact oi (i:=i) (Zd.mp nd).2 (by simpa using e) (by simpa using d) f
noncomputable def start(N:List Str)(a:List V):St:=a.map Z++List.replicate (N.length-a.length) Y
def i7(j:JS)(P:P3)(w:SZ)(K:X3)(m:Wu)(h:SL)(N:List Str)(d:Str)(a:Scope)(f:KF)(g:KM)(A:Re)(b:List Env)(s:GM)(H:Hp)(E:XK):Cx where
 prog:=P
 w:=w
 K:=K
 mg:=m
 base:=h
 A:=A.deeper (envOfC d a s.heap.objs.size f g)
 N:=N
 s₀:=s
 H₀:=H
 env:=envOfC d a s.heap.objs.size f g
 outer:=b
 stack:=envOfC d a s.heap.objs.size f g :: b
 ex:=[]
 calm:=M
 fn:=λ_=>M
 pn:=[]
 xe:=λe l=>On (IR P w) (A.deeper (envOfC d a s.heap.objs.size f g)) (leaving (envOfC d a s.heap.objs.size f g) e) (λ_ i=>j b H s E e i) (λn i=>j b H s E n i) l
def p8{a:Scope}{n:Nat}(h:a.names.lookup x=Z .cell):∃c,(cellsFrom n a.names []).lookup x=Z c:=by
 have q:=PySem.W.cellsFrom_some a.names n [] (.inl h);exact Yk.mp q
def ve{K:X3}{A:Re}{t:List V}(S:gV N C d)(hd:A.handled=Y)(m:Env0 P w K R o A g s H)(hl:t.length=C.length)(r:aO t Q)(x:InCallC s s.heap.objs.size (bindL (envOfC j d s.heap.objs.size f O).kindOf (C.zip Q) λ_=>Y) (cellsFrom (s.heap.objs.size+1) d.names []) (bindC (envOfC j d s.heap.objs.size f O).kindOf (C.zip Q) λ_=>Y) X) :
  Inv (i7 CX P w K R o N j d f O A g s H E) [] (start N t) H X:=by
 have hpl:C.length<=N.length:=by have:=congrArg List.length S.pre;rw[XS]at this;lia
 obtain⟨J,tk,rfl,hk⟩:=x.done;have U:∀b:KF,b∉(i7 CX P w K R o N j d f O A g s H E).ex:=λb z=>absurd (show b∈([]:W6) from z) (by simp);refine⟨⟨m.mod,S.kind,rfl,rfl,Zl _,λy z c J l=>?_,λy D=>?_,λy c _ h=>?_,λ_=>hd,Around.frames_deeper m.frames,.inr ⟨rfl,rfl⟩,λb z=>absurd z (U b),m.tb,m.bs,m.Lm,λb _ _=>U b,λb z=>absurd z (U b),m.Hx,m.MJ⟩,
  rfl,m.bare,Un.kept hk,⟨_,x.toInCall.ns,λi y v J l h3=>?_⟩,λy c h=>⟨_,x.cell y c h⟩,m.xt.fresh (Zl _),λy c h=>?_,λp F=>absurd (show p∈([]:Yx) from F) (by simp),m.xt.kept hk,?_⟩
 ·exact name_of_addr x.apart (XQ J) (XQ l)
 ·have D:d.names.lookup y=Z .cell\/d.names.lookup y=Z .free:=D;rcases D with D | D
  ·exact p8 D
  ·exact absurd L (S.L9 _ (XQ D))
 ·exact XD (x.above y c (XQ h))
 ·have G:i<t.length:=by
   unfold start at l;by_cases G:i<t.length
   ·exact G
   ·rw[Ys (by simpa using G)]at l;rw[YI]at l;split at l<;>cases l
  have ha:t[i]?=Z v:=by
   unfold start at l;rw[ZA (by simpa using G),ZZ]at l;cases e:t[i]? with
   |none=>rw[e]at l;cases l
   |some a=>rw[e]at l;cases l;rfl
  obtain⟨u,hu,rv⟩:=r.get ha;have F:C[i]?=Z y:=by
   rw[← S.pre,List.getElem?_take_of_lt (by lia)];exact J
  have Sn:C.Nodup:=by rw[← S.pre];exact S.nd.sublist (WA _ _)
  refine⟨u,rv,?_⟩;rcases S.par y (YK F) with k | k
  ·exact .inl ⟨k,nU Sn F hu k⟩
  ·obtain⟨c,e⟩:=p8 (n:=s.heap.objs.size+1) k;refine .inr ⟨.inl k,c,e,?_⟩;have q:=x.cell y c e;rw[oi Sn F hu (by show d.names.lookup y≠_;rw[k];decide)]at q;exact q
 ·exact m.xt.fresh (XD (x.above y c (XQ h)))
 ·unfold start;show _=N.length;rw[Zo,Zx,Xg];lia
def Bl{U:JS}{P:P3}{w:SZ}{K:X3}{O:Wu}{h:SL}{k:Nat}{f:KF}{l d:Str}{g:Arguments}{i:List Stmt}{a:Scope}{dV kV G pm z ct oc:KM}{an od:Option KF}{ID:Array (Vw)}{N J:List Str}{X:Sp}(lk:K.lookup f=Z ⟨oc,od,.func (PySem.W.fnOf l d g i a dV kV G pm an z ct),ID⟩)(hcd:PySem.W.codeIn K z d=M)(S:gV N J a)(D:∀j H Q E,X j H Q E->j.length=J.length)(IG:∀(A:Re)(outer:List Env)(s:GM)(H:Hp)(j:List V)(Q:VK)(E:XK),pe k (A.deeper (envOfC d a s.heap.objs.size f z))->X j H Q E →
   ∃t,HJ (i7 U P w K O h N d a f z A outer s H E) i t/\t { nx:=λ_ p=>Q .non p,rt:=Q } (start N j) H) :
  FnOk P w K O h U (k+1) f (PySem.W.fnOf l d g i a dV kV G pm an z ct) J X:=by
 refine⟨D,λA outer s H args us j Q E hr F hb r KG=>?_⟩;have hl:=D _ _ _ _ KG;have KX:K.In s.heap:=F.mod.NL.keeps λb o e=>(F.bs b o e).1;have lim:s.heap.NoLimit:=F.mod.nolimit.keeps λb o e=>(F.bs b o e).1;have HV:∀y∈J.zip us,a.names.lookup y.1=Z .local\/(a.names.lookup y.1=Z .cell/\((cellsFrom (s.heap.objs.size+1) a.names []).lookup y.1).isSome=M):=λ⟨n,v⟩ hy=>by
  rcases S.par n (WZ hy).1 with q | q
  ·exact .inl q
  ·exact .inr ⟨q,PySem.W.cellsFrom_some _ _ _ (.inl q)⟩
 refine codeAny_call_function hr.depth (KX _ _ lk) L S.co S.gen L (PySem.W.codeRec_of KX hcd) (hb _ _ _ _ ?_);refine wpAny_newFunctionEnv_cells S.kind HV λenv he s1 x=>?_;subst he;refine⟨lim.keeps x.toInCall.keep,codeAny_func ?_⟩;obtain⟨t,ht,hq⟩:=IG A outer s H j Q E (hr.deeper _) KG;have I:Inv (i7 U P w K O h N d a f z A outer s H E) [] (start N j) H s1:=ve S hr.hd F hl r x;refine Y3 (ht [] s1 (start N j) H _ I hq) (λfl s' C=>?_) λe s' C=>C;have fin:∀{R:St}{p:Hp}{v:V}{u:KM},Inv (i7 U P w K O h N d a f z A outer s H E) [] R p s'->RelV v u->Q v p->CE outer P w H s Q u s' :=
  λ{R p v u} m rv q=>⟨v,p,m.os,m.bare,m.base,m.xt,rv,q⟩
 cases fl with
 |ret u =>
  obtain⟨v,R,p,m,rv,q⟩:=C;exact fin m rv q
 |next =>
  obtain⟨R,p,m,q⟩:=C;exact fin (v:=V.non) (u:=Value.none) m L q
 |brk =>
  obtain⟨_,_,_,q⟩:=C;exact False.elim q
 |cont =>
  obtain⟨_,_,_,q⟩:=C;exact False.elim q
section
variable{X:Cx}
noncomputable def PF(r:List V->Hp->VK->Prop)(t:TA):TE:=λJ H Q=>t J H λa b=>r a b Q
def md{x:Str}{p pos:Pos}{es:List Expr}{t:TA}{id:String}{r:List V->Hp->VK->Prop}(m:cB X (.builtin id) r)(l:Gl X x)(j:X.mg x=Y)(g:bootBuiltins x=Z (.builtin id))(n:PA X (e :: es) t)(i:{`q1,x ≠ "__name__"})(q:{`q1,K3 x})(he:{`q2,K1 e es X})(hpl:{`q2,K2 pos es X}):PE X (.Call (.Name x p) (e :: es) [] pos) (PF r t):=by
 intro a s J H Q I h;refine Y4 (jt I l j g ?_ i q);exact PyProof.Rows.callWith_builtin1 (thn (n pos a s J H _ I h) λd s1 ⟨b,u,o,r1,f⟩=>m a s1 J u b d Q o r1 f) he hpl
def n9(m:cB X (.type T) r)(l:Gl X x)(j:X.mg x=Y)(g:bootBuiltins x=Z (.type T))(n:PA X (e :: es) t)(i:{`q1,x ≠ "__name__"})(q:{`q1,K3 x})(he:{`q2,K1 e es X})(hpl:{`q2,K2 pos es X}):PE X (.Call (.Name x p) (e :: es) [] pos) (PF r t):=by
 intro a s J H Q I h;refine Y4 (jt I l j g ?_ i q);exact YH (thn (n pos a s J H _ I h) λd s1 ⟨b,u,o,r1,f⟩=>m a s1 J u b d Q o r1 f) he hpl
end
end L2
namespace HT
open PySem PyProof.Rows
section
def AE{s:GM}{d a:Vx}(u:IsTup s.heap t d.toArray)(v:IsTup s.heap b a.toArray)(l:d≠[])(z:a=[]->Q (.ref t) s)(y:a≠[]->Q (.ref s.heap.objs.size) { s with heap:=s.heap.push { cls:=.type "tuple",data:=.seq (d++a).toArray } })(h:d.length+a.length<=KB):On (IR prog w) A (binaryOp .Add (.ref t) (.ref b)) Q E s:=by
 obtain⟨⟨cls,o,data,i⟩,f,m,n,hd⟩:=id u;obtain⟨⟨p,q,data2,Nt⟩,g,r,j,hd2⟩:=id v;simp only at m hd r hd2;subst m hd r hd2;have e:d.toArray++a.toArray=(d++a).toArray:=by simp
 by_cases hw:a=[]
 ·exact concat_meets ⟨_,f,rfl⟩ ⟨_,g,rfl⟩ noFill_tuple_add seq_tuple_add PySem.F.slot_tuple_add PySem.F.entry_tuple_add (PySem.F.args_tuple_add_2 _ _)
   (tuple_addW1 t b d.toArray a.toArray n j o q i Nt (by simpa using l) (by simp[hw])) ⟨f,g,z hw⟩
 ·refine concat_meets ⟨_,f,rfl⟩ ⟨_,g,rfl⟩ noFill_tuple_add seq_tuple_add PySem.F.slot_tuple_add PySem.F.entry_tuple_add (PySem.F.args_tuple_add_2 _ _)
   (tuple_addW2 t b d.toArray a.toArray n j o q i Nt (by simpa using l) (by simpa using hw) (by rw[Zb,Zb];exact h)) ⟨f,g,?_⟩
  rw[e];exact y hw
noncomputable def Gc(n d:Nat):Option Int->Nat
 |none=>d
 |some v=>if v<0 then (v+(n:Int)).toNat else min v.toNat n
def ux(n d k:Nat):Gc n d (Z (k:Int))=min k n:=by
 show (if (k:Int)<0 then ((k:Int)+(n:Int)).toNat else min (k:Int).toNat n)=min k n;rw[Zm (by lia),YX]
def DA(n d:Nat)(b:d<=n)(o:Option Int):Gc n d o<=n:=by
 cases o with
 |none=>exact b
 |some v =>
  show (if v<0 then (v+(n:Int)).toNat else min v.toNat n)<=n;by_cases a:v<0
  ·rw[Zn a];lia
  ·rw[Zm a];exact W8 _ _
def ue(v:Int)(n d:Nat):(if v<0 then max (v+(n:Int)) 0 else min v (n:Int))=((Gc n d (Z v):Nat):Int):=by
 show (if v<0 then max (v+(n:Int)) 0 else min v (n:Int))=(((if v<0 then (v+(n:Int)).toNat else min v.toNat n):Nat):Int);by_cases a:v<0
 ·simp only[Zn a];lia
 ·simp only[Zm a];lia
def sV(a b:Option Int)(n:Nat):Builtin.Slice.sliceAdjust a b 1 (n:Int)=(((Gc n 0 a:Nat):Int),((Gc n n b:Nat):Int)):=by
 have d:¬((1:Int)<0):=by lia
 unfold Builtin.Slice.sliceAdjust;simp only[d,if_false];refine Prod.ext ?_ ?_
 ·cases a with
  |none=>rfl
  |some v=>exact ue v n 0
 ·cases b with
  |none=>rfl
  |some v=>exact ue v n n
def si(i j:Nat):Builtin.Slice.slicePlaces (i:Int) (j:Int) 1=j-i:=by
 unfold Builtin.Slice.slicePlaces;have a:(1:Int) > 0:=by lia
 simp only[a,if_true,Int.ediv_one];split<;>lia
def mR(p:IsPart v o)(h:Q o s):On (IR prog w) A (Builtin.Slice.slicePartIndex v) Q E s:=by
 cases p with
 |none=>exact slicePart_none h
 |int i t=>exact slicePart_int h
def km{prog:P3}{w:SZ}{A:Re}{E:Z1}{s:GM}{i:KF}{e d:KM}{a b:Option Int}{n:Nat}{Q:Int×Int×Nat->GM->Prop}(m:s.heap.IsSliceOf i e d .none)(l:IsPart e a)(j:IsPart d b)(h:Q (((Gc n 0 a:Nat):Int),1,Gc n n b-Gc n 0 a) s):On (IR prog w) A (Builtin.Slice.sliceApplied (.ref i) (pure (n:Int))) Q E s:=by
 obtain⟨os,g,o,f⟩:=id m;unfold Builtin.Slice.sliceApplied Builtin.Slice.sliceFields;refine Zy (Zy (Xv g f (x:=e) L (Zy (Xv g f (x:=d) L (Zy (Xv g f (x:=.none) L (Zr ?_)))))));refine Zy (slicePart_none ?_);show On _ _ (if ((1:Int)==0)=M then _ else _) _ _ s;rw[Zm (by decide)];refine Zy (mR l (Zy (mR j (Zy (Zr ?_)))));show On _ _ (match Builtin.Slice.sliceAdjust a b 1 (n:Int) with | (a,b)=>pure (a,(1:Int),Builtin.Slice.slicePlaces a b 1)) _ _ s;rw[sV a b n];show On _ _ (pure (((Gc n 0 a:Nat):Int),(1:Int),Builtin.Slice.slicePlaces ((Gc n 0 a:Nat):Int) ((Gc n n b:Nat):Int) 1)) _ _ s;rw[si];exact Zr h
def wM(a:Array KM)(i k:Nat):((List.range k).filterMap λ(m:Nat)=>a[((i:Int)+(m:Int)*1).toNat]?).toArray=((a.toList.drop i).take k).toArray:=by
 have e:(λ(m:Nat)=>a[((i:Int)+(m:Int)*1).toNat]?)=λm=>a[i+m]?:=by
  funext m;have:((i:Int)+(m:Int)*1).toNat=i+m:=by lia
  rw[this]
 rw[e];have:=pick_run a i k;rw[List.filterMap_map]at this;have e2:((λx=>a[x]?) ∘ λx=>i+x)=λm=>a[i+m]?:=rfl;rw[e2]at this;rw[this]
def jG{s:GM}(e:IsTup s.heap t a)(l:s.heap.IsSliceOf g j i .none)(o:IsPart j b)(n:IsPart i d)(hw:¬(Gc a.size 0 b=0/\Gc a.size a.size d=a.size))(h:Q (.ref s.heap.objs.size) { s with heap:=s.heap.push { cls:=.type "tuple",data:=.seq ((a.toList.drop (Gc a.size 0 b)).take (Gc a.size a.size d-Gc a.size 0 b)).toArray } })(p:a.size<=KB):On (IR prog w) A (getItem (.ref t) (.ref g)) Q E s:=by
 have f:sizeOk (.seq ((a.toList.drop (Gc a.size 0 b)).take (Gc a.size a.size d-Gc a.size 0 b)).toArray):=by
  show ((a.toList.drop (Gc a.size 0 b)).take (Gc a.size a.size d-Gc a.size 0 b)).toArray.size<=KB;rw[Zb,XS,XR,ZC];omega
 have D:Gc a.size a.size d<=a.size:=DA _ _ (Zl _) d;obtain⟨os,v,u,F⟩:=id l;have r:s.TypeIs (.ref g) "slice" := ⟨os,v,u⟩
 unfold getItem
 try with_reducible refine Yp ?_
 first | refine Zy (Zr ?_) | skip
 refine Zy (wpAny_sequenceKey e.typeIs (by decide) ?_);refine Zy (Xj (name:=Str.ofString "__getitem__") e.typeIs X0
  (YO X0 e.typeIs entry_tuple_getitem ?_ (args_tuple_getitem _ _)))
 show On _ _ (Builtin.Tuple.tupleItemsOf (.ref t)>>=_) _ _ s;refine Zy (tupleItemsOf_ e ?_);refine Zy (wpAny_typeOf r ?_);rw[Zn (by decide)];refine Zy (km l o n ?_);have y:¬((((Gc a.size 0 b:Nat):Int)==0&&(1:Int)==1&&(Gc a.size a.size d-Gc a.size 0 b)==a.size)=M):=by
  intro q;rw[Yg,Yg]at q;have C:((Gc a.size 0 b:Nat):Int)=0:=eq_of_beq q.1.1;have z:Gc a.size a.size d-Gc a.size 0 b=a.size:=eq_of_beq q.2;exact hw ⟨by lia,by omega⟩
 show On _ _ (if (((Gc a.size 0 b:Nat):Int)==0&&(1:Int)==1&&(Gc a.size a.size d-Gc a.size 0 b)==a.size)=M then _ else _) _ _ s;rw[Zm y,wM]
 first
  |exact Zy (m:=Builtin.Tuple.tupleExact _) (Yd (Zr ⟨_,rfl,Zr h⟩) f)
  |exact Zy (m:=Builtin.Tuple.tupleExact _) (Yd (Zy (Zr (Zr ⟨_,rfl,Zr h⟩))) f)
  |exact Zy (Zy (m:=Builtin.Tuple.tupleExact _) (Yd (Zr (Zr ⟨_,rfl,Zr h⟩)) f))
  |exact Zy (Zy (m:=Builtin.Tuple.tupleExact _) (Yd (Zr ⟨_,rfl,Zr h⟩) f))
end
end HT
namespace L2
open PySem PySem.Spec PyProof.Rows
abbrev TO:=St->Hp->(Option Int->Hp->Prop)->Prop
def PO(X:Cx)(e:Option Expr)(t:TO):Prop :=
 ∀(a:Yx)(s:GM)(J:St)(H:Hp)(Q:Option Int->Hp->Prop),Inv X a J H s->t J H Q →
  On (IR X.prog X.w) X.A (evalPart e X.env) (λu d=>∃o b,Inv X a J b d/\IsPart u o/\Q o b) X.xe s
noncomputable def A4:TO:=λ_ H Q=>Q Y H
noncomputable def DM(t:TE):TO:=λJ H Q=>t J H λx a=>∃i,x=.int i/\Q (Z i) a
section
variable{X:Cx}{lo:Option Expr}
def y0:PO X Y A4:=by
 intro a s J H Q I h;rw[evalPart_none];exact Zr ⟨Y,H,I,.none,h⟩
def zI(h:PE X e te):PO X (Z e) (DM te):=by
 intro a s J H Q I hw;rw[evalPart_some];refine thn (h a s J H _ I hw) λu s1 ⟨x,f,d,r1,b⟩=>?_;obtain⟨i,rfl,q⟩:=b;obtain⟨t,rfl⟩:=r1;exact⟨Z i,f,d,.int i t,q⟩
def Lo(X:Cx)(r:V->Option Int->Option Int->Hp->VK->Prop):Prop :=
 ∀(a:Yx)(s:GM)(J:St)(H:Hp)(x:V)(v d b:KM)(lo hi:Option Int)(f:KF)(Q:VK),Inv X a J H s->RelV x v->s.heap.IsSliceOf f d b .none->IsPart d lo->IsPart b hi->r x lo hi H Q →
  ∃T id,typeLookup (.type T) "__getitem__" = pure (Z (.builtin id))/\s.TypeIs v T/\On (IR X.prog X.w) X.A (getItem v (.ref f)) (EP X a J Q) X.xe s
def Lo.or(h:Lo X r)(l:Lo X i):Lo X (λx lo hi H Q=>r x lo hi H Q\/i x lo hi H Q):=by
 intro a s J H x v d b lo hi f Q I g j pl pu q;rcases q with q | q
 ·exact h a s J H x v d b lo hi f Q I g j pl pu q
 ·exact l a s J H x v d b lo hi f Q I g j pl pu q
noncomputable def Ub(r:V->Option Int->Option Int->Hp->VK->Prop)(d:TE)(a b:TO):TE:=λJ H Q=>d J H λx h=>a J h λl g=>b J g λu f=>r x l u f Q
def qL(y:Lo X r)(he:PE X e te)(z:PO X lo tl)(p:PO X hi th):PE X (.Subscript e (.Slice lo hi Y p2) pos) (Ub r te tl th):=by
 intro a s J H Q I h;refine Subscript_ (thn (he a s J H _ I h) λv s1 ⟨x,N,G,r1,o⟩=>?_);refine wpAny_Slice (thn (z a s1 J N _ G o) λg j ⟨l,L,F,pl,n⟩=>thn (p a j J L _ F n) λf d ⟨u,i,E,pu,m⟩=>?_);rw[evalPart_none];refine Zr ?_;have D:Inv X a J i { d with heap:=d.heap.push { cls:=.type "slice",data:=.fields #[g,f,.none] } }:=E.kept (t':=d.toks) λb O q=>Zw _ q;obtain⟨T,id,C,t,hg⟩:=y a { d with heap:=d.heap.push { cls:=.type "slice",data:=.fields #[g,f,.none] } } J i x v g f l u d.heap.objs.size Q D r1 (Heap.IsSliceOf.new ..) pl pu m;show On (IR X.prog X.w) X.A (subscriptTail e (.Slice lo hi Y p2) v (.ref d.heap.objs.size)) (EP X a J Q) X.xe { d with heap:=d.heap.push { cls:=.type "slice",data:=.fields #[g,f,.none] } };exact tail_any (ops:=[.ref d.heap.objs.size,v]) t C hg (by with_unfolding_all rfl)
def nB(a:List V)(b d:Option Int):List V:=(a.drop (HT.Gc a.length 0 b)).take (HT.Gc a.length a.length d-HT.Gc a.length 0 b)
def kH(a:List V)(b d:Option Int):(nB a b d).length<=a.length:=by
 unfold nB;rw[XS,XR];lia
def FR(K:X3):V->Option Int->Option Int->Hp->VK->Prop:=λx lo hi H Q=>∃a b,x=.ref a/\GV K H a b ∧
 ¬(HT.Gc b.length 0 lo=0/\HT.Gc b.length b.length hi=b.length)/\∀p,H p=Y->Q (.ref p) (upd H p (.tup (nB b lo hi)))
def CG:Lo X (FR X.K):=by
 intro f s J H x v t p lo hi u Q I j n pl pu h;obtain⟨a,d,rfl,m,hw,q⟩:=h;cases j;obtain⟨l,r,i,g⟩:=I.tuple m;have hlen:l.toArray.size=d.length:=by rw[Zb];exact r.length.symm
 refine⟨"tuple",_,X0.lookup,i.typeIs,?_⟩;refine HT.jG i n pl pu (by rw[hlen];exact hw) ?_ (by rw[hlen];exact g);rw[hlen];refine⟨.ref s.heap.objs.size,_,I.laid (t':=s.toks) (o:=.tup (nB d lo hi)) (λb w q=>Zw _ q) (Zl _) ?_,rfl,q _ (I.xt.fresh (Zl _))⟩;exact⟨Z2 (kH d lo hi) g,_,(r.drop (HT.Gc d.length 0 lo)).take (HT.Gc d.length d.length hi-HT.Gc d.length 0 lo),KU.new _ _,IsTup.new _ _⟩
def yi(K:X3):R2:=λx y H Q=>∃a b f d,x=.ref a/\y=.ref b/\GV K H a f/\GV K H b d/\f≠[]/\f.length+d.length<=KB ∧
 (d=[]->Q (.ref a) H)/\(d≠[]->∀p,H p=Y->Q (.ref p) (upd H p (.tup (f++d))))
def aO.Ii(r:aO a b):b=[]↔a=[]:=by
 cases r with
 |nil=>simp
 |cons _ _=>simp
def Ab:OpR X (binaryOp .Add) (yi X.K):=by
 intro d s J H x y v u Q I l j h;obtain⟨a,b,i,g,rfl,rfl,t,hb,r,f,n,m⟩:=h;cases l;cases j;obtain⟨C,r1,p,_⟩:=I.tuple t;obtain⟨D,r2,p2,_⟩:=I.tuple hb;refine HT.AE p p2 (λz=>r (r1.Ii.mp z)) (λz=>⟨.ref a,H,I,rfl,n (r2.Ii.mp z)⟩) (λz=>?_) (by rw[← r1.length,← r2.length];exact f);refine⟨.ref s.heap.objs.size,_,I.laid (t':=s.toks) (o:=.tup (i++g)) (λb A q=>Zw _ q) (Zl _) ?_,rfl,m (λw=>z (r2.Ii.mpr w)) _ (I.xt.fresh (Zl _))⟩;exact⟨by rw[Zo];exact f,_,r1.append r2,KU.new _ _,IsTup.new _ _⟩
end
noncomputable def Mh(n:Nat)(i:Int):Option Nat:=if 0<=i then (if i<n then Z i.toNat else Y) else if -(n:Int)<=i then Z (i+n).toNat else Y
def MS{α:Type}(a:List α)(i:Int):Option α:=(Mh a.length i).bind λj=>a[j]?
def tJ{i:Int}(h:Mh n i=Z j):seqIndex? i n=Z j/\j<n/\-(n:Int)<=i/\i<n:=by
 unfold Mh at h;by_cases b:0<=i
 ·rw[Zn b]at h;by_cases a:i<n
  ·rw[Zn a]at h;have e:i.toNat=j:=Zk h;exact⟨by rw[seqIndex_of b a,e],by lia,by lia,a⟩
  ·rw[Zm a]at h;cases h
 ·rw[Zm b]at h;by_cases a:-(n:Int)<=i
  ·rw[Zn a]at h;have e:(i+n).toNat=j:=Zk h;exact⟨by rw[seqIndex_neg (by lia) a,e],by lia,a,by lia⟩
  ·rw[Zm a]at h;cases h
def oV{α:Type}{a:List α}{i:Int}{v:α}(h:MS a i=Z v):∃j,seqIndex? i a.length=Z j/\a[j]?=Z v/\j<a.length/\-(a.length:Int)<=i/\i<a.length:=by
 unfold MS at h;cases e:Mh a.length i with
 |none=>rw[e]at h;cases h
 |some j =>
  rw[e]at h;obtain⟨g,f,d,b⟩:=tJ e;exact⟨j,g,h,f,d,b⟩
noncomputable def jQ(b:Expr):Prop:=∀o i,subscripted b B o i=operate [o,i] (getItem o i)
def JI(X:Cx)(r:R2):Prop :=
 ∀(value slice:Expr)(a:Yx)(s:GM)(J:St)(H:Hp)(x y:V)(v u:KM)(Q:VK),Inv X a J H s->RelV x v->RelV y u->r x y H Q →
  subscripted slice B v u=operate [v,u] (getItem v u)->On (IR X.prog X.w) X.A (subscriptTail value slice v u) (EP X a J Q) X.xe s
def OG(X:Cx)(e:String)(r:V->List V->Hp->VK->Prop):Prop :=
 ∀(a:Yx)(s:GM)(J:St)(H:Hp)(x:V)(b:List V)(v:KM)(d:Vx)(Q:VK),Inv X a J H s->RelV x v->aO b d->r x b H Q →
  On (IR X.prog X.w) X.A (call (.builtin e) (v :: d)) (EP X a J Q) X.xe s
section
variable{X:Cx}
def JI.or(h:JI X r)(j:JI X g):JI X (λx y H Q=>r x y H Q\/g x y H Q):=by
 intro value slice d s J H x y v u Q I f e q i;rcases q with q | q
 ·exact h value slice d s J H x y v u Q I f e q i
 ·exact j value slice d s J H x y v u Q I f e q i
def uv(j:JI X r)(m:PE X a ta)(l:PE X b tb)(i:jQ b):PE X (.Subscript a b pos) (Np r ta tb):=by
 intro d s J H Q I h;exact Subscript_ (CZ m l I h λv u e x y o n g f q=>j a b d e J o x y v u Q n g f q (i _ _))
def Fc(K:X3):R2:=λx y H Q=>∃p d i v,x=.ref p/\y=.int i/\Gw K H p d/\MS d i=Z v/\Q v H
def EF(K:X3):R2:=λx y H Q=>∃p d i v,x=.ref p/\y=.int i/\GV K H p d/\MS d i=Z v/\Q v H
def DK:R2:=λx y H Q=>∃z i c,x=.str z/\y=.int i/\z.length<=KB/\MS z.cps.toList i=Z c/\Q (.str ⟨#[c]⟩) H
def zQ:JI X (Fc X.K):=by
 intro value slice d s J H x y v u Q I A o h g;obtain⟨p,O,i,z,rfl,rfl,D,he,q⟩:=h;cases A;obtain⟨t,rfl⟩:=o;obtain⟨C,r,pl,P⟩:=I.list D;obtain⟨j,e,L,S,G,F⟩:=oV he;obtain⟨w,m,N⟩:=r.get L;have E:=r.length;have R:=kb;have fin:EP X d J Q w s:=⟨z,H,I,N,q⟩
 by_cases l:0<=i
 ·have f:i.toNat=j:=by
   rw[seqIndex_of l F]at e;exact Zk e
  exact item_listR pl.isList l (by lia) (by rw[f];simpa using m) fin g
 ·have f:(i+(C.toArray.size:Int)).toNat=j:=by
   rw[seqIndex_neg (by lia) G]at e;rw[Zb,← E];exact Zk e
  exact subscriptTail_builtinR (x:=w) pl.isList.typeIs slot_list_getitem.lookup
   (wpAny_getItem_list_neg (Q:=λr n=>r=w/\EP X d J Q r n) pl.isList (by lia) (by rw[Zb]<;>lia) (by lia) (by rw[f];simpa using m) ⟨rfl,fin⟩) g
def B2:JI X (EF X.K):=by
 intro value slice d s J H x y v u Q I g f h l;obtain⟨p,E,i,z,rfl,rfl,m,he,q⟩:=h;cases g;obtain⟨t,rfl⟩:=f;obtain⟨F,r,pl,G⟩:=I.tuple m;obtain⟨j,A,o,P,O,N⟩:=oV he;obtain⟨w,C,D⟩:=r.get o;have n:=r.length;have L:=kb;have fin:EP X d J Q w s:=⟨z,H,I,D,q⟩
 exact subscriptTail_builtinR (x:=w) pl.typeIs slot_tuple_getitem.lookup
  (getItem_tuple (j:=j) (Q:=λr e=>r=w/\EP X d J Q r e) pl (by lia) (by lia) (by rw[Zb,← n];exact A) (by simpa using C) ⟨rfl,fin⟩) l
def Dg:JI X DK:=by
 intro value slice d s J H x y v u Q I g f h l;obtain⟨z,i,c,rfl,rfl,w,he,q⟩:=h;obtain⟨t,rfl⟩:=g;obtain⟨r,rfl⟩:=f;obtain⟨j,e,p,C,o,n⟩:=oV he;have m:z.cps.toList.length=z.length:=by simp[Str.length]
 rw[m]at e o n;have A:=kb;exact tail_any (typeIs_str s z t) slot_str_getitem.lookup (getItem_str (c:=c) (by
  have e1:decide (i < -(2 ^ 63:Int))=B:=ZG (by lia);have e2:decide (i ≥ 2 ^ 63)=B:=ZG (by lia);rw[e1,e2,Bool.or_false]) (by rw[e];simpa using p) ⟨.str ⟨#[c]⟩,H,I.tok _,⟨_,rfl⟩,q⟩) l
def PM(K:X3):R2:=λx y H Q=>Fc K x y H Q\/EF K x y H Q\/DK x y H Q
def pR:JI X (PM X.K):=zQ.or (B2.or Dg)
def so(d:Vx)(n j:Nat)(u:KM):Obj.mapSeq (·.setIfInBounds j u) { cls:=.type "list",data:=.seq d.toArray n }={ cls:=.type "list",data:=.seq (d.set j u).toArray n }:=by
 simp[Obj.mapSeq]
theorem Inv.lst{H:Hp}(I:Inv X d J H s)(h:H p=Z (.lst g)) :
  ∃(f:Vx)(n:Nat),aO g f/\s.heap.get? p=Z { cls:=.type "list",data:=.seq f.toArray n }/\g.length<=sizeLine:=by
 obtain⟨z,f,n,r,e⟩:=I.xt p _ h;exact⟨f,n,r,e,z⟩
def Inv.Mc{l d:Vx}(I:Inv X g J H s)(h:H p=Z (.lst o))(w:s.heap.get? p=Z { cls:=.type "list",data:=.seq l.toArray n })(m:f { cls:=.type "list",data:=.seq l.toArray n }={ cls:=.type "list",data:=.seq d.toArray j })(r:aO i d)(v:i.length<=KB)(t:Nat) :
  Inv X g J (upd H p (.lst i)) { s with heap:=s.heap.update p f,toks:=t }:=by
 have e:(s.heap.update p f).get? p=Z { cls:=.type "list",data:=.seq d.toArray j }:=by
  rw[Yr f w (by rw[m]<;>rfl),m]
 refine I.write (x:=p) (e:=p) (by rw[h];trivial) (.inl L) (λb u hb q=>(YW _ _ (YR hb)).trans q) ⟨_,e⟩ ?_;exact⟨v,d,j,r,e⟩
def Bc:V->V->V->Hp->(Hp->Prop)->Prop:=λo i v H Q=>∃p d k j,o=.ref p/\i=.int k/\H p=Z (.lst d)/\Mh d.length k=Z j/\Q (upd H p (.lst (d.set j v)))
def set_list:Cp X Bc:=by
 intro d s J H o i v O iv u Q I F G E h;obtain⟨p,D,k,j,rfl,rfl,w,N,q⟩:=h;cases F;obtain⟨t,rfl⟩:=G;obtain⟨m,n,r,f,L⟩:=I.lst w;obtain⟨e,R,z,y⟩:=tJ N;have g:=r.length;have P:=kb;have C:Inv X d J (upd H p (.lst (D.set j v))) { s with heap:=s.heap.update p (Obj.mapSeq (·.setIfInBounds j u)) } :=
  I.Mc w f (so m n j u) (r.set E j) (by rw[Yn];exact L) s.toks
 by_cases A:0<=k
 ·have l:k.toNat=j:=by
   rw[seqIndex_of A y]at e;exact Zk e
  exact PySem.W.ki_setAt f A (by lia) (by rw[Zb,← g];exact y) (by rw[l];exact⟨_,C,q⟩)
 ·have l:(k+(m.toArray.size:Int)).toNat=j:=by
   rw[seqIndex_neg (by lia) z]at e;rw[Zb,← g];exact Zk e
  exact PySem.W.ki_setBack f (by lia) (by rw[Zb,← g];exact z) (by lia) (by rw[l];exact⟨_,C,q⟩)
def oG(d e:Option Int)(n:Nat):(sliceBounds d e Y n).1=((HT.Gc n 0 d:Nat):Int)/\(sliceBounds d e Y n).2.1=((HT.Gc n n e:Nat):Int)/\(sliceBounds d e Y n).2.2=1:=by
 refine⟨?_,?_,rfl⟩
 ·cases d with
  |none=>simp[sliceBounds,HT.Gc]
  |some i =>
   simp only[sliceBounds,HT.Gc,Option.getD_none,show (1:Int) > 0 by decide,if_true];by_cases h:i<0
   ·simp only[h,if_true]<;>lia
   ·simp only[h,if_false]<;>lia
 ·cases e with
  |none=>simp[sliceBounds,HT.Gc]
  |some i =>
   simp only[sliceBounds,HT.Gc,Option.getD_none,show (1:Int) > 0 by decide,if_true];by_cases h:i<0
   ·simp only[h,if_true]<;>lia
   ·simp only[h,if_false]<;>lia
def nM(d:Vx)(e f:Option Int):slicePick d.toArray e f Y=((d.drop (HT.Gc d.length 0 e)).take (HT.Gc d.length d.length f-HT.Gc d.length 0 e)).toArray:=by
 obtain⟨i,h,g⟩:=oG e f d.toArray.size;unfold slicePick;rw[i,h,g];simp only[sliceRange_one,pick_run,Zb]<;>rfl
def Ed(K:X3):V->Option Int->Option Int->Hp->VK->Prop:=λx lo e H Q=>∃a d,x=.ref a/\Gw K H a d/\∀p,H p=Y->Q (.ref p) (upd H p (.lst (nB d lo e)))
def zk:Lo X (Ed X.K):=by
 intro f s J H x v p n lo e t Q I i m pl pu h;obtain⟨a,d,rfl,l,q⟩:=h;cases i;obtain⟨w,r,g,j⟩:=I.list l;have hlen:=r.length;refine⟨"list",_,slot_list_getitem.lookup,g.isList.typeIs,?_⟩;refine wpAny_getItem_list_slice g.isList m pl pu .none (by simp) ?_ (by rw[Zb]<;>lia);rw[nM,← hlen];refine⟨.ref s.heap.objs.size,_,I.laid (t':=s.toks) (o:=.lst (nB d lo e)) (λb u q=>Zw _ q) (Zl _) ?_,rfl,q _ (I.xt.fresh (Zl _))⟩;exact⟨Z2 (kH d lo e) j,_,0,(r.drop (HT.Gc d.length 0 lo)).take (HT.Gc d.length d.length e-HT.Gc d.length 0 lo),Zh _ L⟩
noncomputable def fi:V->Bool
 |.non=>M
 |.bl _=>M
 |.int _=>M
 |.str _=>M
 |_=>B
noncomputable def KP:V->V->Bool
 |.non,.non=>M
 |.bl a,.bl b=>a==b
 |.bl a,.int b=>(if a then 1 else 0)==b
 |.int a,.bl b=>a==(if b then 1 else 0)
 |.int a,.int b=>a==b
 |.str a,.str b=>a==b
 |_,_=>B
def CO(f:RelV y u)(d:RelV x v)(h:fi y=M)(g:fi x=M):SeqAt.EqAt A s u v (KP y x):=by
 cases y with
 |non =>
  cases f;cases x with
  |non=>cases d;exact SeqAt.EqAt.same _
  |bl b=>cases d;exact SeqAt.EqAt.none_bool b
  |int b=>obtain⟨t,rfl⟩:=d;exact SeqAt.EqAt.none_int b t
  |str b=>obtain⟨t,rfl⟩:=d;exact SeqAt.EqAt.none_str b t
  |_=>exact absurd (show B=M from g) ZY
 |bl a =>
  cases f;cases x with
  |non=>cases d;exact SeqAt.EqAt.bool_none a
  |bl b=>cases d;exact SeqAt.EqAt.bool_bool a b
  |int b=>obtain⟨t,rfl⟩:=d;exact SeqAt.EqAt.bool_int a b t
  |str b=>obtain⟨t,rfl⟩:=d;exact SeqAt.EqAt.bool_str a b t
  |_=>exact absurd (show B=M from g) ZY
 |int a =>
  obtain⟨e,rfl⟩:=f;cases x with
  |non=>cases d;exact SeqAt.EqAt.int_none a e
  |bl b=>cases d;exact SeqAt.EqAt.int_bool a e b
  |int b=>obtain⟨t,rfl⟩:=d;exact SeqAt.EqAt.int_int a e b t
  |str b=>obtain⟨t,rfl⟩:=d;exact SeqAt.EqAt.int_str a e b t
  |_=>exact absurd (show B=M from g) ZY
 |str a =>
  obtain⟨e,rfl⟩:=f;cases x with
  |non=>cases d;exact SeqAt.EqAt.str_none a e
  |bl b=>cases d;exact SeqAt.EqAt.str_bool a e b
  |int b=>obtain⟨t,rfl⟩:=d;exact SeqAt.EqAt.str_int a e b t
  |str b=>obtain⟨t,rfl⟩:=d;exact SeqAt.EqAt.str_str a e b t
  |_=>exact absurd (show B=M from g) ZY
 |_=>exact absurd (show B=M from h) ZY
def Jd(x:V)(u:KM):Bool:=match u with
 |.none=>KP .non x
 |.bool b=>KP (.bl b) x
 |.int i _=>KP (.int i) x
 |.str z _=>KP (.str z) x
 |_=>B
def yR(r:RelV y u)(f:fi y=M):Jd x u=KP y x:=by
 cases y with
 |non=>cases r;rfl
 |bl b=>cases r;rfl
 |int i=>obtain⟨t,rfl⟩:=r;rfl
 |str z=>obtain⟨t,rfl⟩:=r;rfl
 |_=>exact absurd (show B=M from f) ZY
theorem jW:∀{d:List V}{e:Vx},aO d e->d.all fi=M->e.any (Jd x)=d.any λy=>KP y x
 |_,_,.nil,_=>rfl
 |y :: d,u :: e,.cons r t,f=>by
  rw[X7,Yg]at f;rw[YG,YG,yR r f.1,jW t f.2]
theorem iN(h:RelV x v)(i:fi x=M):∀{e:List V}{g:Vx},aO e g->e.all fi=M->∀u∈g,SeqAt.EqAt A s u v (Jd x u)
 |_,_,.nil,_=>λu d=>by cases d
 |y :: e,u :: g,.cons r t,f=>λj d=>by
  rw[X7,Yg]at f;rcases Zj.mp d with rfl | d
  ·rw[yR r f.1];exact CO r h f.1 i
  ·exact iN h i t f.2 j d
def NP(x:V)(d:List V):Bool:=d.any λy=>KP y x
def OX(K:X3)(e:Bool):R2:=λx y H Q=>∃p d,y=.ref p/\(Gw K H p d\/GV K H p d)/\fi x=M/\d.all fi=M/\Q (.bl (if e then !NP x d else NP x d)) H
def vD:OpR X (SC .In) (OX X.K B):=by
 intro g s J H x y v u Q I f j h;obtain⟨p,m,rfl,e,i,fs,q⟩:=h;cases j;rcases e with e | e
 ·obtain⟨d,r,pl,l⟩:=I.list e;refine SeqAt.in_listAt (Jd x) pl.isList (λw hw=>iN f i r fs w (by simpa using hw)) ⟨.bl _,H,I,rfl,?_⟩;rw[show d.toArray.any (Jd x)=d.any (Jd x) by simp,jW r fs];exact q
 ·obtain⟨d,r,pl,l⟩:=I.tuple e;refine SeqAt.in_tupleAt (Jd x) pl (λw hw=>iN f i r fs w (by simpa using hw)) ⟨.bl _,H,I,rfl,?_⟩;rw[show d.toArray.any (Jd x)=d.any (Jd x) by simp,jW r fs];exact q
def pH:OpR X (SC .NotIn) (OX X.K M):=by
 intro g s J H x y v u Q I f j h;obtain⟨p,m,rfl,e,i,fs,q⟩:=h;cases j;rcases e with e | e
 ·obtain⟨d,r,pl,l⟩:=I.list e;refine SeqAt.notIn_listAt (Jd x) pl.isList (λw hw=>iN f i r fs w (by simpa using hw)) ⟨.bl _,H,I,rfl,?_⟩;rw[show d.toArray.any (Jd x)=d.any (Jd x) by simp,jW r fs];exact q
 ·obtain⟨d,r,pl,l⟩:=I.tuple e;refine SeqAt.notIn_tupleAt (Jd x) pl (λw hw=>iN f i r fs w (by simpa using hw)) ⟨.bl _,H,I,rfl,?_⟩;rw[show d.toArray.any (Jd x)=d.any (Jd x) by simp,jW r fs];exact q
def cB.or(h:cB X f r)(l:cB X f j):cB X f (λe H Q=>r e H Q\/j e H Q):=by
 intro d s J H e g Q I i q;rcases q with q | q
 ·exact h d s J H e g Q I i q
 ·exact l d s J H e g Q I i q
def oN:cB X (.type "list") (λA H Q=>∃p g,A=[.ref p]/\(Gw X.K H p g\/GV X.K H p g)/\∀l,H l=Y->Q (.ref l) (upd H l (.lst g))):=by
 intro m s J H A E Q I r h;obtain⟨p,g,rfl,v,q⟩:=h;obtain⟨u,rfl,D⟩:=vals1 r;cases D;have fin:∀(f:Vx),aO g f->g.length<=KB->∀(d:SL)(j:Nat),(∀b C,s.heap.get? b=Z C->d.get? b=Z C) →
   d.get? s.heap.objs.size=Z { cls:=.type "list",dict:=Y,data:=.seq f.toArray j,slots:=#[] }->EP X m J Q (.ref s.heap.objs.size) { s with heap:=d }:=λf i t d j kp e =>
  ⟨.ref s.heap.objs.size,_,I.laid (t':=s.toks) kp (Zl _) (show bF X.prog X.w _ d _ (.lst g) from⟨t,f,j,i,e⟩),rfl,q _ (I.xt.fresh (Zl _))⟩
 rcases v with v | v
 ·obtain⟨f,i,pl,t⟩:=I.list v;have hlen:=i.length;obtain⟨o,y,z,n,hd⟩:=pl.isList;exact call_list_seq p (.inl L) y z hd (λd j kp e=>fin f i t d j kp e) (by simp only[Zb]<;>lia)
 ·obtain⟨f,i,pl,t⟩:=I.tuple v;have hlen:=i.length;obtain⟨o,y,z,n,hd⟩:=pl;exact call_list_seq p (.inr L) y z hd (λd j kp e=>fin f i t d j kp e) (by simp only[Zb]<;>lia)
def nq:cB X (.type "tuple") (λn H Q=>∃p f,n=[.ref p]/\((Gw X.K H p f/\∀l,H l=Y->Q (.ref l) (upd H l (.tup f)))\/(GV X.K H p f/\Q (.ref p) H))):=by
 intro d s J H n A Q I r h;obtain⟨p,f,rfl,h⟩:=h;obtain⟨u,rfl,y⟩:=vals1 r;cases y;rcases h with⟨m,q⟩ | ⟨m,q⟩
 ·obtain⟨j,i,pl,t⟩:=I.list m;have hlen:=i.length;refine call_tuple_list pl.isList (λg kp=>?_) (by simp only[Zb]<;>lia);have v:Inv X d J H { s with heap:=g }:=I.kept (t':=s.toks) kp;have z:Inv X d J (upd H g.objs.size (.tup f)) { s with heap:=g.push { cls:=.type "tuple",data:=.seq j.toArray } } :=
   v.laid (t':=s.toks) (λb o e=>Zw _ e) (Zl _) (show bF X.prog X.w _ _ _ (.tup f) from⟨t,j,i,KU.new _ _,IsTup.new _ _⟩)
  exact⟨.ref g.objs.size,_,z,rfl,q _ (v.xt.fresh (Zl _))⟩
 ·obtain⟨j,i,pl,t⟩:=I.tuple m;exact call_tuple_same pl ⟨.ref p,H,I,rfl,q⟩
def Ls(K:X3)(T:String)(x:V)(H:Hp):Prop:=match x with
 |.str _=>T = "str"
 |.int _=>T = "int"
 |.ref p=>(T = "list" ∧ ∃e,Gw K H p e)\/(T = "tuple" ∧ ∃o,K.lookup p=Z o/\o.cls=.type "tuple" ∧ o.dict=Y) ∨
   (T = "dict" ∧ ((∃d,H p=Z (.dK d))\/∃d,H p=Z (.dT d)))\/(T = "set" ∧ ∃S n,H p=Z (.set S n))
 |_=>False
def Cr(I:Inv X f J H s)(r:RelV x v)(g:Ls X.K T x H) :
  s.TypeIs v T/\∀a,v=.ref a->∃h,s.heap.get? a=Z h/\h.dict=Y:=by
 cases x with
 |str z =>
  obtain⟨t,rfl⟩:=r;cases (show T = "str" from g);exact⟨typeIs_str s z t,λ_ e=>nomatch e⟩
 |int i =>
  obtain⟨t,rfl⟩:=r;cases (show T = "int" from g);exact⟨typeIs_int s i t,λ_ e=>nomatch e⟩
 |ref p =>
  cases r;rcases g with⟨rfl,q,j⟩ | ⟨rfl,o,d,l,hd⟩ | ⟨rfl,d⟩ | ⟨rfl,S,n,d⟩
  ·obtain⟨u,_,pl,_⟩:=I.list j;refine⟨pl.isList.typeIs,λa e=>?_⟩;cases e;obtain⟨o,n,e,c,hd,_⟩:=pl;exact⟨o,e,hd⟩
  ·refine⟨⟨o,I.Ht p o d,l⟩,λa e=>?_⟩;cases e;exact⟨o,I.Ht _ o d,hd⟩
  ·have z:∃o,s.heap.get? p=Z o/\o.ExactDict:=by
    rcases d with⟨m,d⟩ | ⟨m,d⟩
    ·obtain⟨_,_,_,_,o,_,_,e,ex,_⟩:=I.xt p _ d;exact⟨o,e,ex⟩
    ·obtain⟨_,_,_,_,o,_,_,e,ex,_⟩:=I.xt p _ d;exact⟨o,e,ex⟩
   obtain⟨o,e,ex⟩:=z;refine⟨⟨o,e,ex.1⟩,λa e2=>?_⟩;cases e2;exact⟨o,e,ex.2.1⟩
  ·obtain⟨o,_,_,_,e,ex,_⟩:=I.xt p _ d;refine⟨⟨o,e,ex.1⟩,λa e2=>?_⟩;cases e2;exact⟨o,e,ex.2.1⟩
 |_=>exact False.elim g
def Ue(K:X3)(T:String)(r:V->List V->Hp->VK->Prop)(f:TE)(t:TA):TE:=λJ H Q=>f J H λx d=>Ls K T x d/\t J d λe g=>r x e g Q
def nX{o:Expr}{es:List Expr}{to:TE}{t:TA}{name:Str}{apos cg:Pos}{T id:String}{r:V->List V->Hp->VK->Prop}(q:PlainAttrs T)(f:Slot T name id)(D:typeOf (.builtin id)=pure (.type "method_descriptor"))(y:OG X id r)(w:PE X o to)(z:PA X (e :: es) t)(N:{`q2,UF o name X.env (eval o X.env)=eval o X.env})(R:{`q2,((backTo cg (Pi (e :: es) X.env)).all (λx=>!x.1)&&(backToKw cg (SB [] X.env)).all (λx=>x.1.isSome)
   && decide ((e :: es).length+([]:List Keyword).length+(if ([]:List Keyword).isEmpty then 0 else 1)<30))=M})(P:{`q2,(apos.endLine==cg.line)=M})(u:{`q2,K1 e es X})(O:{`q2,K2 cg es X}) :
  PE X (.Call (.Attribute o name apos) (e :: es) [] cg) (Ue X.K T r to t):=by
 intro d s J H Q I h;refine wpAny_Call_method_late N R P L (thn (w d s J H _ I h) λv s1 ⟨x,G,i,r1,ty,p⟩=>?_);obtain⟨C,A⟩:=Cr i r1 ty;refine⟨T,id,q,f,D,C,A,?_⟩;have g:=z cg d s1 J G _ i p;rw[u]at g ⊢;refine WM (by show (B||(backTo cg (Pi es X.env)).any (·.1))=B;rw[O]<;>rfl) (W4 ?_);exact thn g λl m ⟨j,F,E,r2,n⟩=>y d m J F x j v l Q E r1 r2 n
end
def TJ(X:Cx)(e:String)(r:V->List V->Hp->VK->Prop):Prop :=
 ∀(a:Yx)(s:GM)(J:St)(H:Hp)(x:V)(b:List V)(v:KM)(d:Vx)(Q:VK),Inv X a J H s->RelV x v->aO b d->r x b H Q →
  On (IR X.prog X.w) X.A (call (.builtin e) (v :: d)) (EP X a J Q) X.xe s
def aO.nil_inv(h:aO [] a):a=[]:=by
 cases h;rfl
def aO.cons_inv(h:aO (x :: a) d):∃u b,d=u :: b/\RelV x u/\aO a b:=by
 cases h with
 |cons r t=>exact⟨_,_,rfl,r,t⟩
def aO.one{x:V}(h:aO [x] a):∃u,a=[u]/\RelV x u:=by
 obtain⟨u,vs,rfl,r,t⟩:=h.cons_inv;rw[t.nil_inv];exact⟨_,rfl,r⟩
theorem aO.eraseIdx:∀{a:List V}{b:Vx}(i:Nat),aO a b->aO (a.eraseIdx i) (b.eraseIdx i)
 |_,_,_,.nil=>.nil
 |_,_,0,.cons _ t=>t
 |_,_,i+1,.cons r t=>.cons r (aO.eraseIdx i t)
theorem n5{α:Type}:∀(l:List α)(i:Nat),(l.eraseIdx i).length<=l.length
 |[],_=>Zl _
 |_ :: _,0=>Y5 _
 |_ :: r,i+1=>X4 (n5 r i)
section
variable{X:Cx}
def Inv.NK{a its':Vx}(I:Inv X pins J H s)(m:H l=Z (.lst xs))(e:s.heap.get? l=Z { cls:=.type "list",data:=.seq a.toArray n })(j:f a.toArray=its'.toArray)(h:aO ys its')(g:ys.length<=KB) :
  Inv X pins J (upd H l (.lst ys)) { s with heap:=s.heap.update l (Obj.mapSeq f),toks:=d }:=by
 have q:=PySem.IsL.update e f;rw[j]at q;refine I.write (x:=l) (e:=l) (by rw[m];exact trivial) (.inl L) (λo u hb i=>(YW s.heap (Obj.mapSeq f) (YR hb)).trans i) ⟨_,q⟩ ?_;exact⟨g,its',_,h,q⟩
def Inv.Qu{t':Nat}(I:Inv X pins J H s)(e:aO ys a)(d:ys.length<=KB) :
  Inv X pins J (upd H s.heap.objs.size (.lst ys)) { s with heap:=s.heap.push { cls:=.type "list",data:=.seq a.toArray },toks:=t' } :=
 I.laid (λ_ _ q=>Zw _ q) (Zl _) ⟨d,a,0,e,Zh _ L⟩
theorem Inv.fresh(I:Inv X pins J H s):H s.heap.objs.size=Y:=I.xt.fresh (Zl _)
def Inv.La(I:Inv X pins J H s)(d:H l=Z (.lst xs)):xs.length<=KB/\∃(a:Vx)(n:Nat),aO xs a/\xs.length=a.length/\s.heap.get? l=Z { cls:=.type "list",data:=.seq a.toArray n }:=by
 obtain⟨z,a,n,r,e⟩:=I.xt l _ d;exact⟨z,a,n,r,r.length,e⟩
end
section
variable{X:Cx}
def pP:V->List V->Hp->VK->Prop:=λx b H Q=>∃l a y,x=.ref l/\b=[y]/\H l=Z (.lst a)/\a.length<KB/\Q .non (upd H l (.lst (a++[y])))
def gF:TJ X "list.append" pP:=by
 intro a s J H x o v p Q I f g h;obtain⟨l,m,y,rfl,rfl,d,j,q⟩:=h;cases f;obtain⟨u,rfl,i⟩:=g.one;obtain⟨z,b,n,r,t,e⟩:=I.La d;refine call_meets F.slot_list_append ⟨_,e,rfl⟩ F.entry_list_append (F.args_list_append_2 _ _) (PySem.list_append l b.toArray n u (by rw[Zb];lia)) ⟨e,?_⟩;refine⟨.non,_,I.NK (its':=b++[u]) d e (by simp) (r.append (.cons i .nil)) ?_,rfl,q⟩;rw[Zo,Z7];exact Nat.succ_le_of_lt j
def CL:V->List V->Hp->VK->Prop:=λx b H Q=>∃l a i k y,x=.ref l/\b=[.int i]/\H l=Z (.lst a)/\-(2 ^ 63)<=i/\i<2 ^ 63/\seqIndex? i a.length=Z k/\a[k]?=Z y/\Q y (upd H l (.lst (a.eraseIdx k)))
def we:TJ X "list.pop" CL:=by
 intro b s J H x G v L Q I g j h;obtain⟨l,f,i,k,y,rfl,rfl,d,D,C,A,o,q⟩:=h;cases g;obtain⟨u,rfl,m⟩:=j.one;obtain⟨t,rfl⟩:=m;obtain⟨z,a,n,r,p,e⟩:=I.La d;obtain⟨w,hw,E⟩:=r.get o;refine call_meets F.slot_list_pop ⟨_,e,rfl⟩ F.entry_list_pop (F.args_list_pop_2 _ _)
  (MeetsSeq.list_pop_at l a.toArray n i t k w (fitsIndex_both D C) (by rw[Zb,← p];exact A) (by rw[← Z5];exact hw) (by rw[Zb];lia)) ⟨e,?_⟩
 refine⟨y,_,I.NK (its':=a.eraseIdx k) d e ?_ (r.eraseIdx k) ?_,E,q⟩
 ·show a.toArray.eraseIdxIfInBounds k=(a.eraseIdx k).toArray;rw[List.eraseIdxIfInBounds_toArray]
 ·have:=n5 f k;exact Z2 this z
def EY:R2:=λx y H Q=>∃l b d a,x=.ref l/\y=.ref b/\H l=Z (.lst d)/\H b=Z (.lst a)/\d.length+a.length<=KB/\∀p,H p=Y->Q (.ref p) (upd H p (.lst (d++a)))
def Dp:OpR X (binaryOp .Add) EY:=by
 intro a s J H x y v u Q I i g h;obtain⟨l,b,w,p,rfl,rfl,j,m,C,q⟩:=h;cases i;cases g;obtain⟨z,d,n,r,D,e⟩:=I.La j;obtain⟨t,f,A,r2,E,e2⟩:=I.La m;refine PySem.P.add_list e e2 ?_ (by rw[Zb,Zb];lia);have o:d.toArray++f.toArray=(d++f).toArray:=by simp
 rw[o];exact⟨.ref _,_,I.Qu (t':=s.toks) (r.append r2) (by rw[Zo];omega),rfl,q _ I.fresh⟩
end
section
set_option maxRecDepth 100000 in
end
section
variable{κ:Type}[DecidableEq κ]
noncomputable def fX(b:List (κ×V))(k:κ):Option V:=(b.find? λa=>decide (a.1=k)).map (·.2)
noncomputable def putK(b:List (κ×V))(k:κ)(v:V):List (κ×V) :=
 if (b.any λa=>decide (a.1=k))=M then b.map (λa=>if a.1=k then (a.1,v) else a) else b++[(k,v)]
def iA{p:κ×V}(e:p.1=k):fX (p :: r) k=Z p.2:=by simp[fX,Z0,e]
def lZ{p:κ×V}(e:¬p.1=k):fX (p :: r) k=fX r k:=by simp[fX,Z0,e]
theorem p9(k:κ):∀a:List (κ×V),(a.any λb=>decide (b.1=k))=(fX a k).isSome
 |[]=>rfl
 |p :: r=>by
  rw[YG];by_cases e:p.1=k
  ·simp only[iA e,decide_eq_true e,Bool.true_or,Option.isSome_some]
  ·rw[lZ e,ZG e,Bool.false_or];exact p9 k r
def eK(a:List (κ×V))(k:κ)(v:V):(putK a k v).length<=a.length+1:=by
 unfold putK;split
 ·rw[Zx];exact YS _ _
 ·rw[Zo,ZX,List.length_nil];exact Zl _
def hZ.GP(r:hZ o u):o.isSome=u.isSome:=by
 cases o with
 |none=>cases u with
  |none=>rfl
  |some _=>exact(show False from r).elim
 |some _=>cases u with
  |none=>exact(show False from r).elim
  |some _=>rfl
theorem hZ.getD{o:Option V}{d:V}(r:hZ o u)(b:RelV d a):RelV (o.getD d) (u.getD a):=by
 cases o with
 |none=>cases u with
  |none=>exact b
  |some _=>exact(show False from r).elim
 |some _=>cases u with
  |none=>exact(show False from r).elim
  |some _=>exact r
def KV.val(r:KV i f)(k:κ):hZ (fX i k) (valueAt f k):=by
 unfold KV at r
 induction r with
 |nil=>exact True.intro
 |@cons p q m a h t j =>
  obtain⟨g,l⟩:=h;by_cases e:p.1=k
  ·have d:q.1=k:=g.symm.trans e;have b:valueAt (q :: a) k=Z q.2:=by simp[valueAt,Z0,d]
   rw[iA e,b];exact l
  ·have d:¬q.1=k:=λz=>e (g.trans z);have b:valueAt (q :: a) k=valueAt a k:=by simp[valueAt,Z0,d]
   rw[lZ e,b];exact j
theorem KV.any(r:KV d b)(k:κ):(d.any λa=>decide (a.1=k))=b.any λa=>decide (a.1=k):=by
 unfold KV at r
 induction r with
 |nil=>rfl
 |cons h t e=>rw[YG,YG,e,h.1]
def KV.L7(r:KV f d)(k:κ)(g:RelV y u) :
  KV (f.map λa=>if a.1=k then (a.1,y) else a) (d.map λa=>if a.1=k then (a.1,u) else a):=by
 unfold KV at r ⊢
 induction r with
 |nil=>exact .nil
 |@cons p q m l h t i =>
  rw[Zi,Zi];refine .cons ?_ i;obtain⟨b,j⟩:=h;by_cases e:p.1=k
  ·rw[Zn e,Zn (b.symm.trans e)];exact⟨b,g⟩
  ·rw[Zm e,Zm (λz=>e (b.trans z))];exact⟨b,j⟩
def KV.put(r:KV d a)(k:κ)(b:RelV y u):KV (putK d k y) (stored a k u):=by
 unfold putK stored;rw[r.any k];by_cases e:(a.any λf=>decide (f.1=k))=M
 ·rw[Zn e,Zn e];exact r.L7 k b
 ·rw[Zm e,Zm e];exact Paired.snoc r ⟨rfl,b⟩
def KV.keys{b:List (κ×V)}{a:List (κ×KM)}(r:KV b a):b.map (·.1)=a.map (·.1):=by
 unfold KV at r
 induction r with
 |nil=>rfl
 |cons h t d=>rw[Zi,Zi,d,h.1]
theorem KV.length{b:List (κ×V)}{a:List (κ×KM)}(r:KV b a):b.length=a.length:=XF r
end
def jc(r:RelV (kV k) u):(aw P w).is k u=M:=by
 cases k with
 |inl i=>obtain⟨t,e⟩:=(show ∃t,u=Value.int i t from r);subst e;exact qK P w i t
 |inr x=>obtain⟨t,e⟩:=(show ∃t,u=Value.str x t from r);subst e;exact kG P w x t
theorem om:∀{a:List Key}{b:Vx},aO (a.map kV) b->ItemsAre (aw P w) a b
 |[],_,r=>by rw[List.map_nil]at r;cases r;exact .nil
 |k :: a,_,r=>by
  rw[Zi]at r;cases r with
  |cons h t=>exact .cons (jc h) (om t)
abbrev KT(H:Hp):List (List Key×V)->List (List Key×KF×KM)->Prop:=Paired λp q=>p.1=q.1/\H q.2.1=Z (.tup (p.1.map kV))/\RelV p.2 q.2.2
def KT.val(r:KT H i f)(k:List Key):hZ (fX i k) ((atKey f k).map (·.2)):=by
 induction r with
 |nil=>exact True.intro
 |@cons p q m a h t j =>
  obtain⟨g,_,l⟩:=h;by_cases e:p.1=k
  ·have d:q.1=k:=g.symm.trans e;have b:atKey (q :: a) k=Z q.2:=by simp[atKey,Z0,d]
   rw[iA e,b];exact l
  ·have d:¬q.1=k:=λz=>e (g.trans z);have b:atKey (q :: a) k=atKey a k:=by simp[atKey,Z0,d]
   rw[lZ e,b];exact j
def KT.L7(r:KT H g d)(k:List Key)(i:RelV y u) :
  KT H (g.map λb=>if b.1=k then (b.1,y) else b) (d.map (putAt k u)):=by
 induction r with
 |nil=>exact .nil
 |@cons p q n m h t j =>
  rw[Zi,Zi];refine .cons ?_ j;obtain⟨a,f,l⟩:=h;unfold putAt;by_cases e:p.1=k
  ·rw[Zn e,Zn (a.symm.trans e)];exact⟨a,f,i⟩
  ·rw[Zm e,Zm (λz=>e (a.trans z))];exact⟨a,f,l⟩
def KT.put(r:KT H d a)(k:List Key)(h:H b=Z (.tup (k.map kV)))(f:RelV y u) :
  KT H (putK d k y) (storedH a k b u):=by
 have e:(d.any λg=>decide (g.1=k))=(atKey a k).isSome:=by
  rw[p9,(r.val k).GP,YJ]
 unfold putK storedH;rw[e];by_cases q:(atKey a k).isSome=M
 ·rw[Zn q,Zn q];exact r.L7 k f
 ·rw[Zm q,Zm q];exact Paired.snoc r ⟨rfl,h,f⟩
def KT.keeps(r:KT H e d)(g:∀b a,H b=Z (.tup a)->f b=Z (.tup a)):KT f e d :=
 Paired.K9 r λ_ _ z=>⟨z.1,g _ _ z.2.1,z.2.2⟩
section
def Bi(b:Hf P w H h)(e:Rd H a u):bF P w H h a u:=e.ok b
def jT(f:Hf P w H h)(e:Rd H a (.dK b)):b.length<=KB/\(a==sysModules)=B/\∃d,KV b d/\h.DictOf (aw P w) a d :=
 show bF P w H h a (.dK b) from Bi f e
def rj(f:Hf P w H h)(e:H a=Z (.dK b)):b.length<=KB/\(a==sysModules)=B/\∃d,KV b d/\h.DictOf (aw P w) a d:=jT f (.inl e)
def cP{b:List Key}(d:Hf P w H h)(e:H a=Z (.tup (b.map kV))):(tupleKind (aw P w)).is h b a:=by
 obtain⟨_,f,r,_,o,j,i,n,g⟩:=(show bF P w H h a (.tup (b.map kV)) from d a _ e)
 exact⟨o,f.toArray,n,j,i,g,by simpa using om r⟩
def kK(g:Hf P w H h)(e:Rd H a (.dT f)):f.length<=KB/\(a==sysModules)=B ∧
  ∃d,KT H f d/\h.DictOfH (tupleKind (aw P w)) a d:=by
 obtain⟨z,y,d,r,o,C,D,A,v,u,s,n⟩:=(show bF P w H h a (.dT f) from Bi g e)
 refine⟨z,y,d,r,o,C,D,A,v,u,s,λx b=>?_,n⟩;have all:∀{l:List (List Key×V)}{m:List (List Key×KF×KM)},KT H l m->∀x∈m,(tupleKind (aw P w)).is h x.1 x.2.1:=by
  intro l m q
  induction q with
  |nil=>intro x b;exact nomatch b
  |@cons p q F E i t j =>
   intro x b;rcases Zj.mp b with e | b
   ·subst e;exact cP g (by rw[← i.1];exact i.2.1)
   ·exact j x b
 exact all r x b
def EK(f:Hf P w H h)(e:H a=Z (.dT b)):b.length<=KB/\(a==sysModules)=B ∧
  ∃d,KT H b d/\h.DictOfH (tupleKind (aw P w)) a d:=kK f (.inl e)
end
def fB(H:Hp)(a:KF)(y:V)(r:Option V):Prop :=
 (∃d k,Rd H a (.dK d)/\y=kV k/\r=fX d k)\/∃d k b,Rd H a (.dT d)/\y=.ref b/\H b=Z (.tup (k.map kV))/\r=fX d k
def rP(H:Hp)(a:KF)(y v:V)(e:Hp):Prop :=
 (∃d k,H a=Z (.dK d)/\y=kV k/\d.length<KB/\e=upd H a (.dK (putK d k v))) ∨
 ∃d k b,H a=Z (.dT d)/\y=.ref b/\H b=Z (.tup (k.map kV))/\d.length<KB/\e=upd H a (.dT (putK d k v))
theorem fB.k{a:KF}{b:List (Key×V)}{k:Key}(e:H a=Z (.dK b)):fB H a (kV k) (fX b k):=.inl ⟨b,k,.inl e,rfl,rfl⟩
theorem rP.k{a:KF}{b:List (Key×V)}{k:Key}{v:V}(e:H a=Z (.dK b))(d:b.length<KB):rP H a (kV k) v (upd H a (.dK (putK b k v))):=.inl ⟨b,k,e,rfl,d,rfl⟩
section
variable{X:Cx}
def Inv.big(I:Inv X pins J H s):sysModules<s.heap.objs.size:=by
 have h:mainGlobals<s.heap.objs.size:=(I.mod.glob.keeps I.bk).lt;exact Wt (by decide) h
def u5{A:Re}(C:A.units+1<cLine)(I:Inv X pins J H s)(g:fB H a y (Z v))(n:RelV y u)(h:∀d m,Inv X pins J H m->RelV v d->Q d m) :
  On (IR X.prog X.w) A (getItem (.ref a) u) Q E s:=by
 rcases g with⟨G,k,e,f,l⟩ | ⟨G,k,b,e,f,F,l⟩
 ·subst f;obtain⟨z,hd,t,rel,i⟩:=jT I.xt e;obtain⟨d,hw,j⟩:=hZ.some_of (v:=v) (o:=valueAt t k) (by rw[l];exact rel.val k);exact wpAny_getItem_of (jc n) i.mapOf hw (h d _ (I.tok _) j)
 ·subst f;cases (show u=Value.ref b from n);obtain⟨z,hd,q,rel,i⟩:=kK I.xt e;obtain⟨d,hw,j⟩:=hZ.some_of (v:=v) (o:=(atKey q k).map (·.2)) (by rw[l];exact rel.val k);obtain⟨p,D,L⟩:=Zs.mp hw;refine wpAny_getItem_heap (Xa C) (cP I.xt F) i D ?_;rw[L];exact h d _ (I.tok _) j
def FA{A:Re}(m:A.units+1<cLine)(I:Inv X pins J H s)(g:fB H a y o)(j:RelV y u)(h:∀i,Inv X pins J H i->Q (.bool o.isSome) i) :
  On (IR X.prog X.w) A (SC .In u (.ref a)) Q E s:=by
 rcases g with⟨p,k,e,d,l⟩ | ⟨p,k,b,e,d,n,l⟩
 ·subst d;obtain⟨z,hd,C,rel,f⟩:=jT I.xt e;refine wpAny_in_of (jc j) hd f.mapOf ?_;rw[← (rel.val k).GP,← l];exact h _ (I.tok _)
 ·subst d;cases (show u=Value.ref b from j);obtain⟨z,hd,t,rel,f⟩:=kK I.xt e;refine wpAny_in_heap (Xa m) (cP I.xt n) hd f ?_;have q:=(rel.val k).GP;rw[YJ]at q;rw[← q,← l];exact h _ (I.tok _)
def Au{A:Re}(m:A.units+1<cLine)(I:Inv X pins J H s)(g:fB H a y o)(j:RelV y u)(h:∀i,Inv X pins J H i->Q (.bool (!o.isSome)) i) :
  On (IR X.prog X.w) A (SC .NotIn u (.ref a)) Q E s:=by
 rcases g with⟨p,k,e,d,l⟩ | ⟨p,k,b,e,d,n,l⟩
 ·subst d;obtain⟨z,hd,C,rel,f⟩:=jT I.xt e;refine wpAny_notIn_of (jc j) hd f.mapOf ?_;rw[← (rel.val k).GP,← l];exact h _ (I.tok _)
 ·subst d;cases (show u=Value.ref b from j);obtain⟨z,hd,t,rel,f⟩:=kK I.xt e;refine wpAny_notIn_heap (Xa m) (cP I.xt n) hd f ?_;have q:=(rel.val k).GP;rw[YJ]at q;rw[← q,← l];exact h _ (I.tok _)
def lC{t':Nat}(I:Inv X pins J H s)(h:Gk (H a))(i:Heap.SameBut a s.heap d)(he:∃q,d.get? a=Z q)(g:bF X.prog X.w (upd H a f) d a f) :
  Inv X pins J (upd H a f) { s with heap:=d,toks:=t' } :=
 I.write (x:=a) (e:=a) h (.inl L) (λb q hb z=>(i.2 b hb).trans z) he g
def mJ{f:SL}{e:List (Key×V)}(z:e.length<=KB)(g:(a==sysModules)=B)(d:KV e b)(h:f.DictOf (aw P w) a b) :
  bF P w i f a (.dK e):=⟨z,g,b,d,h⟩
def vw{A:Re}(U:A.units+1<cLine)(I:Inv X pins J H s)(g:rP H a y v P)(F:RelV y u)(G:RelV v r)(h:∀D,Inv X pins J P D->Q () D) :
  On (IR X.prog X.w) A (setItem (.ref a) u r) Q E s:=by
 rcases g with⟨d,k,e,p,l,t⟩ | ⟨d,k,b,e,p,O,l,t⟩
 ·subst p t;obtain⟨z,hd,S,rel,C⟩:=rj I.xt e;have j:S.length<=sizeLine:=by rw[← rel.length];exact z
  have n:(putK d k v).length<=sizeLine:=by have:=eK d k v;lia
  refine wpAny_setItem_pairs (hsz:=j) (jc F) C λL i m=>h _ ?_;have he:∃q,L.get? a=Z q:=let ⟨q,_,_,f,_⟩:=i;⟨q,f⟩
  exact lC I (by rw[e];exact True.intro) m he (mJ n hd (rel.put k G) i)
 ·subst p t;cases (show u=Value.ref b from F);obtain⟨z,hd,R,rel,C⟩:=EK I.xt e;have j:R.length<=sizeLine:=by rw[← XF rel];exact z
  have n:(putK d k v).length<=sizeLine:=by have:=eK d k v;lia
  refine wpAny_setItem_heap (hsz:=j) (Xa U) (cP I.xt O) C λL i m=>h _ ?_;obtain⟨q,es,ep,f,h2,h3,h4,_,h5⟩:=i;refine lC I (by rw[e];exact True.intro) m ⟨q,f⟩ ⟨n,hd,_,(rel.put k O G).keeps λc ys N=>?_,q,es,ep,f,h2,h3,h4,h5⟩;rw[aE (DQ N e (λz=>nomatch z))];exact N
end
section
variable{X:Cx}
def Et(I:Inv X pins J H s)(e:Rd H a (.dK bt))(h:∀t b,Inv X pins J H b->Q (.int bt.length t) b):On (IR X.prog X.w) A (call (.builtin "len") [.ref a]) Q E s:=by
 obtain⟨z,hd,f,rel,d⟩:=jT I.xt e;refine call_len_dict hd d (by rw[← rel.length];rw[Xe]at z;lia) ?_;rw[← rel.length];exact h _ _ (I.tok _)
end
def qT(I:Inv X d J H s)(g:fB H a y o):s.TypeIs (.ref a) "dict" := by
 rcases g with⟨h,k,e,_,_⟩ | ⟨h,k,b,e,_,_,_⟩
 ·obtain⟨_,_,j,_,f⟩:=jT I.xt e;exact f.typeIs
 ·obtain⟨_,_,i,_,f⟩:=kK I.xt e;exact f.typeIs
def qC{P:P3}{w:SZ}(h:SL)(a:sysModules<h.objs.size):bF P w H (h.push { cls:=.type "dict",data:=.dict #[] }) h.objs.size (.dK []) :=
 ⟨YT _,ZJ.mpr (YR (Zg a)),[],.nil,Heap.DictOf.new h⟩
def CK:TE:=λ_ H Q=>∀p,H p=Y->Q (.ref p) (upd H p (.dK []))
section
variable{X:Cx}
def xO:PE X (.Dict [] [] pos) CK:=λb s J H Q I h =>
 wpAny_Dict_empty ⟨.ref s.heap.objs.size,_,I.laid (a:=s.heap.objs.size) (o:=.dK []) (t':=s.toks) (λ_ _ q=>Zw _ q) (Zl _) (qC s.heap I.big),rfl,h _ (I.xt.fresh (Zl _))⟩
end
noncomputable def rT:List (TE×TE)->St->Hp->(List (V×V)->Hp->Prop)->Prop
 |[],_,H,Q=>Q [] H
 | (b,a) :: r,J,H,Q=>b J H λx g=>a J g λy f=>rT r J f λd e=>Q ((x,y) :: d) e
abbrev VV:List (V×V)->List (KM×KM)->Prop:=Paired λp q=>RelV p.1 q.1/\RelV p.2 q.2
def PPs(X:Cx)(e:Pos)(d:List (Option Expr))(a:List Expr)(j:List (TE×TE)):Prop :=
 ∀(b:Yx)(s:GM)(J:St)(H:Hp)(Q:List (V×V)->Hp->Prop),Inv X b J H s->rT j J H Q →
  On (IR X.prog X.w) X.A (evalPairs (pairTrees d a X.env e)) (λh i=>∃f g,Inv X b J g i/\VV f h/\Q f g) X.xe s
def Aj:PPs X a [] [] []:=λb s J H Q I h=>pairTrees_nil_walk ⟨[],H,I,.nil,h⟩
def yn(w:PE X k f)(r:PE X v e)(t:PPs X b g d i) :
  PPs X b (Z k :: g) (v :: d) ((f,e) :: i):=λa s J H Q I h =>
 pairTrees_cons_walk (thn (w a s J H _ I h) λu s1 ⟨x,F,C,m,p⟩=>thn (r a s1 J F _ C p) λL j ⟨y,E,A,l,o⟩ =>
  thn (t a j J E _ A o) λG N ⟨q,D,z,rel,n⟩=>⟨(x,y) :: q,D,z,.cons ⟨m,l⟩ rel,n⟩)
def lF(d a:List (Key×V)):List (Key×V):=a.foldl (λacc b=>putK acc b.1 b.2) d
def KV.merge:∀{more:List (Key×V)}{d:List (Key×KM)}{b:List (Key×V)}{a:List (Key×KM)},KV more d->KV b a->KV (lF b more) (merged a d):=by
 intro more d b a r;unfold KV at r
 induction r generalizing b a with
 |nil=>intro q;exact q
 |@cons p q j i h t g =>
  intro f;have e:KV (putK b p.1 p.2) (stored a q.1 q.2):=by
   have:=f.put p.1 h.2;rw[← h.1];exact this
  exact g e
theorem ja:∀(more a:List (Key×V)),(lF a more).length<=a.length+more.length
 |[],a=>by show a.length<=a.length+0;exact YS _ _
 |p :: r,a=>by
  have d:=ja r (putK a p.1 p.2);have b:=eK a p.1 p.2;show (lF (putK a p.1 p.2) r).length<=_;rw[ZX];lia
theorem mq{P:P3}{w:SZ}:∀{e:List (Key×V)}{f:List (KM×KM)},VV (e.map λg=>(kV g.1,g.2)) f->∃d,Carries (aw P w) f d/\KV e d
 |[],_,r=>by rw[List.map_nil]at r;cases r;exact⟨[],True.intro,.nil⟩
 |p :: e,_,r=>by
  rw[Zi]at r;cases r with
  |@cons a b l bs h t =>
   obtain⟨d,c,q⟩:=mq (P:=P) (w:=w) t;obtain⟨j,i⟩:=b;exact⟨(p.1,i) :: d,⟨jc h.1,rfl,c⟩,.cons ⟨rfl,h.2⟩ q⟩
def DE(f:List (TE×TE)):TE:=λJ H Q=>∀p,H p=Y->rT f J (upd H p (.dK [])) λe d=>d p=Z (.dK [])/\∃a:List (Key×V),e=a.map (λb=>(kV b.1,b.2))/\a.length<=15/\Q (.ref p) (upd d p (.dK (lF [] a)))
def zo(h:PPs X f b d j)(R:b.all (·.isSome)=M)(D:b.length=d.length)(F:b≠[])(N:b.length<=15):PE X (.Dict b d f) (DE j):=by
 intro g s J H Q I q;have C:=I.xt.fresh (Zl s.heap.objs.size);have O:=I.laid (a:=s.heap.objs.size) (o:=.dK []) (h':=s.heap.push { cls:=.type "dict",data:=.dict #[] }) (t':=s.toks) (λ_ _ q=>Zw _ q) (Zl _) (qC s.heap I.big);refine wpAny_Dict_walk (knd:=aw X.prog X.w) R D F N (thn (h g _ J _ _ O (q _ C)) λS U ⟨ps,H2,m,rel,e,i,G,lk,u⟩=>?_);subst G;obtain⟨p,c,r⟩:=mq (P:=X.prog) (w:=X.w) rel;obtain⟨z,hd,n,t,L⟩:=rj m.xt e;cases t;refine⟨p,c,L,λh' l y=>⟨.ref s.heap.objs.size,_,?_,rfl,u⟩⟩;have v:(lF [] i).length<=sizeLine:=by
  have E:=ja i [];rw[List.length_nil]at E;rw[Xe];lia
 have he:∃q,h'.get? s.heap.objs.size=Z q:=let ⟨q,_,_,A,_⟩:=l;⟨q,A⟩
 exact lC m (by rw[e];exact True.intro) y he (mJ v hd (r.merge .nil) l)
structure M1(X:Cx)(o:Expr)(m:Str)(apos:Pos)(e:Expr)(cg:Pos):Prop where
 base:UF o m X.env (eval o X.env)=eval o X.env
 Jc:((backTo cg (Pi [e] X.env)).all (λx=>!x.1)&&(backToKw cg (SB [] X.env)).all (λx=>x.1.isSome)
  && decide (([e]:List Expr).length+([]:List Keyword).length+(if ([]:List Keyword).isEmpty then 0 else 1)<30))=true
 line:(apos.endLine==cg.line)=true
 trees:backTo cg (Pi [e] X.env)=[(false,eval e X.env)]
structure M2(X:Cx)(o:Expr)(m:Str)(apos:Pos)(e f:Expr)(cg:Pos):Prop where
 base:UF o m X.env (eval o X.env)=eval o X.env
 Jc:((backTo cg (Pi [e,f] X.env)).all (λx=>!x.1)&&(backToKw cg (SB [] X.env)).all (λx=>x.1.isSome)
  && decide (([e,f]:List Expr).length+([]:List Keyword).length+(if ([]:List Keyword).isEmpty then 0 else 1)<30))=true
 line:(apos.endLine==cg.line)=true
 trees:backTo cg (Pi [e,f] X.env)=[(false,eval e X.env),(false,eval f X.env)]
def RV(H:Hp)(a:KF):Prop:=(∃b,Rd H a (.dK b))\/∃b,Rd H a (.dT b)
def wK(I:Inv X g J H s)(d:RV H a) :
  s.TypeIs (.ref a) "dict" ∧ (∀b,Value.ref a=.ref b->∃f,s.heap.get? b=Z f/\f.dict=Y)/\(a==sysModules)=B:=by
 rcases d with⟨l,e⟩ | ⟨l,e⟩
 ·obtain⟨_,hd,n,_,h⟩:=jT I.xt e;refine⟨h.typeIs,λb q=>?_,hd⟩;cases q;obtain⟨f,_,_,j,i,_⟩:=h;exact⟨f,j,i.2.1⟩
 ·obtain⟨_,hd,m,_,h⟩:=kK I.xt e;refine⟨h.typeIs,λb q=>?_,hd⟩;cases q;obtain⟨f,_,_,j,i,_⟩:=h;exact⟨f,j,i.2.1⟩
section
variable{X:Cx}
def C2{A:Re}(q:A.units+1<cLine)(I:Inv X pins J H s)(g:fB H a y o)(n:RelV y u)(h:∀j m,Inv X pins J H m->RelV (o.getD .non) j->Q j m) :
  On (IR X.prog X.w) A (call (.builtin "dict.get") [.ref a,u]) Q E s:=by
 rcases g with⟨v,k,e,i,l⟩ | ⟨v,k,b,e,i,t,l⟩
 ·subst i;obtain⟨z,hd,C,rel,f⟩:=jT I.xt e;refine call_meetsIn YB f.typeIs XG (PySem.F.args_dict_get_2 _ _) (meets_dict_get (aw X.prog X.w) a (jc n) hd) ⟨_,f.mapOf,h _ _ (I.tok _) ?_⟩;rw[l];exact(rel.val k).getD L
 ·subst i;cases (show u=Value.ref b from n);obtain⟨z,hd,p,rel,f⟩:=kK I.xt e;refine call_meetsIn YB f.typeIs XG (PySem.F.args_dict_get_2 _ _) (meetsH_dict_get (tupleKind (aw X.prog X.w)) a b hd) ⟨Xa q,k,p,cP I.xt t,f,h _ _ (I.tok _) ?_⟩;rw[l];exact(rel.val k).getD L
def Du{A:Re}(t:A.units+1<cLine)(I:Inv X pins J H s)(g:fB H a y o)(n:RelV y u)(p:RelV d r)(h:∀j m,Inv X pins J H m->RelV (o.getD d) j->Q j m) :
  On (IR X.prog X.w) A (call (.builtin "dict.get") [.ref a,u,r]) Q E s:=by
 rcases g with⟨C,k,e,i,l⟩ | ⟨C,k,b,e,i,v,l⟩
 ·subst i;obtain⟨z,hd,D,rel,f⟩:=jT I.xt e;refine call_meetsIn YB f.typeIs XG (PySem.F.args_dict_get_3 _ _ _) (meets_dict_get_default (aw X.prog X.w) a (jc n) hd r) ⟨_,f.mapOf,h _ _ (I.tok _) ?_⟩;rw[l];exact(rel.val k).getD p
 ·subst i;cases (show u=Value.ref b from n);obtain⟨z,hd,q,rel,f⟩:=kK I.xt e;refine call_meetsIn YB f.typeIs XG (PySem.F.args_dict_get_3 _ _ _) (meetsH_dict_get_default (tupleKind (aw X.prog X.w)) a b hd r) ⟨Xa t,k,q,cP I.xt v,f,h _ _ (I.tok _) ?_⟩;rw[l];exact(rel.val k).getD p
end
def B3(f e:TE):TE:=λJ H Q=>f J H λx d=>∃a,x=.ref a/\RV d a/\e J d λy b=>∃o,fB b a y o/\Q (o.getD .non) b
def DD(g e f:TE):TE:=λJ H Q=>g J H λx d=>∃a,x=.ref a/\RV d a/\e J d λy h=>f J h λz b=>∃o,fB b a y o/\Q (o.getD z) b
section
variable{X:Cx}
def vN(t:X.A.units+1<cLine)(v:PE X o td)(he:PE X e ty)(m:M1 X o "get" apos e cg):PE X (.Call (.Attribute o "get" apos) [e] [] cg) (B3 td ty):=by
 intro b s J H Q I h;refine wpAny_Call_method m.base m.Jc m.line PySem.F.plainAttrs_dict YB PySem.F.type_dict_get (thn (v b s J H _ I h) λu s1 ⟨x,E,i,p,a,ex,d,r⟩=>?_);subst ex;obtain rfl:u=Value.ref a:=p;obtain⟨l,j,_⟩:=wK i d;refine⟨l,j,?_⟩;rw[m.trees];refine WM L (W4 (X1 (thn (he b s1 J E _ i r) λiv O ⟨y,D,C,n,P,g,q⟩=>WW ?_)));exact C2 t C g n λG N z w=>⟨_,D,z,w,q⟩
def xE(C:X.A.units+1<cLine)(D:PE X o td)(he:PE X e ty)(E:PE X f tx)(m:M2 X o "get" apos e f cg):PE X (.Call (.Attribute o "get" apos) [e,f] [] cg) (DD td ty tx):=by
 intro b s J H Q I h;refine wpAny_Call_method m.base m.Jc m.line PySem.F.plainAttrs_dict YB PySem.F.type_dict_get (thn (D b s J H _ I h) λu s1 ⟨x,U,i,r,a,ex,d,w⟩=>?_);subst ex;obtain rfl:u=Value.ref a:=r;obtain⟨l,j,_⟩:=wK i d;refine⟨l,j,?_⟩;rw[m.trees];refine WM L (W4 (X1 (thn (he b s1 J U _ i w) λiv n ⟨y,S,P,q,v⟩ =>
  X1 (thn (E b n J S _ P v) λfv s3 ⟨z,R,O,p,ov,g,t⟩=>WW ?_))))
 exact Du C O g q p λw' s4 N G=>⟨_,R,N,G,t⟩
end
end L2
namespace TQ
open PySem PySem.W PySem.Calls PyProof.Rows
def kW:∀(ns:Vu)(d:Vx),WellAll P h d (ns.map WData.int)->IntsAre d ns:=by
 intro ns
 induction ns with
 |nil =>
  intro d w;rw[List.map_nil]at w;cases w;exact .nil
 |cons n ns e =>
  intro d w;rw[Zi]at w;cases w with
  |cons a b =>
   cases a;exact .cons _ _ (e _ b)
def vd{l:OpenLaw}(v:l.most=Z n)(f:l.row.toRowW.claim.pre b=M)(j:WellAll P h e b) :
  ∃a m ns,e=[Value.ref a]/\b=[WData.list (ns.map WData.int)]/\h.get? a=Z { cls:=.type "list",data:=.seq m.toArray }/\IntsAre m ns/\ns.length<=n:=by
 have A:WShape.hasAll [] b [.list .int]=M:=(pre_splitW f).1;have o:l.pre.holds [] { args:=b }=M:=(pre_splitW f).2;obtain⟨d,r,rfl,z,y⟩:=hasAllW_cons A;obtain rfl:=hasAllW_nil y;obtain⟨D,rfl,w⟩:=hasW_list z;obtain⟨ns,rfl⟩:=items_int w;have hlen:ns.length<=n:=by
  unfold OpenLaw.pre at o;have i:(WTm.not (.lt (.lit (.int (n:Int))) (.len (.arg 0)))).holds [] { args:=[.list (ns.map .int)] }=M:=by
   have i:=(holds_andW o).1;rw[v]at i;exact i
  have g:=condW_of i (w_not (w_lt w_lit (w_len_list (w_arg L))));rw[Zx]at g;refine ZL λq=>?_;have t:(n:Int)<((ns.length:Nat):Int):=by omega
  first
   | (rw[decide_eq_true t]at g;exact absurd g (by decide))
   | (simp at g;omega)
 cases j with
 |cons s p =>
  cases p;cases s with
  |list u C=>exact⟨_,_,ns,rfl,rfl,u,kW ns _ C,hlen⟩
def vF(l:OpenLaw)(a:List WData):l.row.toRowW.claim.post a (.bool M) a=M :=
 postW_of (r:=l.row.toRowW) (X:=(M==M))
  (show WShape.has [] (.bool M) .bool=M by first | rfl | decide | simp[WShape.has,WShape.arms,WShape.armsAll])
  (show (WTm.eq .res (.lit (.bool M))).value [] { args:=a,res:=Z (.bool M),after:=a }=Z (.bool (M==M)) from w_eq_bool (w_res L) w_lit) L
def pX{l:OpenLaw}{d:DefRec}(H:l.most=Z n)(S:d.params.defaults=[])(j:∀(w:SZ)(p b:GM)(mg s:Wu)(i:KF)(o:Obj)(pm cd doc:KM)(a:KF)(g:Vx)(ns:Vu),
   Ground q e [] C w p mg s b.heap->A w b.heap →
   b.heap.get? i=Z o->o.data=.func (docDef d.name d.params d.body d.scope pm cd doc)->b.heap.CodeRec cd d.name->mg d.name=Z (.ref i) →
   b.heap.get? a=Z { cls:=.type "list",data:=.seq g.toArray }->IntsAre g ns->ns.length<=n->b.gens=#[] →
   codeAny (IR l.prog w) callerA (.call (.ref i) ⟨[.ref a],[]⟩) (λr m=>r=.ok (.ret (.bool M))/\OldK b.heap m.heap/\m.os=b.os/\AllBare m.gens) b) :
  WalkO q e C A l.row.toRowW d [] (λf g=>PySem.call f g):=by
 intro w p b mg s G Y i o pm cd doc Q kV F hd v z u hg args vals U h y D t L;obtain rfl:Q=.none:=Dflts.none z S;obtain rfl:kV=.none:=Dflts.noKw z;obtain⟨a,g,ns,rfl,rfl,R,hints,hlen⟩:=vd H h t;refine enter_call (X9 (j w p b mg s i o pm cd doc a g ns G Y F (fd_plain hd) v u R hints hlen hg) λr m E=>?_);obtain⟨rfl,P,O,N⟩:=E;exact⟨.inl ⟨.bool M,.bool M,[],rfl,λ_=>rfl,.bool M,vF l _,λ_=>⟨List.Pairwise.nil,λ_ J=>(nomatch J)⟩⟩,P,O,N⟩
end TQ
namespace L2
open PySem PySem.Spec PyProof.Rows
theorem oy:∀{a:Vx}{ns:Vu},IntsAre a ns->aO (ns.map V.int) a
 |_,_,.nil=>.nil
 |_,_,.cons n t h=>.cons ⟨t,rfl⟩ (oy h)
noncomputable def yj(H:Hp):Prop:=∀b,H b=Y\/∃o a,H b=Z (.frz o (.lst a))
def xV{K:X3}{f:GM}{j:Vx}(KX:K.In f.heap)(Pc:f.heap.Ns mainGlobals t)(g:f.heap.Ns builtinsNs E)(S4:∀x:Str,x ≠ "__name__" → E x=bootBuiltins x)(QM:f.heap.NoLimit)(hg:f.gens=#[])(C:f.heap.get? a=Z { cls:=.type "list",data:=.seq j.toArray })(S:IntsAre j p)(R:p.length<=KB)(hr:pe k callerA)(F:∀base:SL,K.In base->base.Ns mainGlobals t->FnOk P w K t base CX k J fd [x] O)(N3:∀(s:GM)(u:KM),BindsTo s fd ⟨[u],[]⟩ [(x,u)])(KG:∀H:Hp,yj H->Gw K H a (p.map V.int)->O [.ref a] H (λv _=>v=.bl M) λ_ _ _=>False)(Rj:∀H e i,CX [] H f (λ_ _ _=>False) e i->False) :
  codeAny (IR P w) callerA (.call (.ref J) ⟨[.ref a],[]⟩) (λr i=>r=.ok (.ret (.bool M))/\OldK f.heap i.heap/\i.os=f.os/\AllBare i.gens) f:=by
 have Q:=oy S;have Qv:=S.length;have core:∀H:Hp,yj H->Gw K H a (p.map V.int)->Hf P w H f.heap->(∀b,H b≠Y->b=a)->(H a≠Y->K.lookup a=Y) →
   codeAny (IR P w) callerA (.call (.ref J) ⟨[.ref a],[]⟩) (λr i=>r=.ok (.ret (.bool M))/\OldK f.heap i.heap/\i.os=f.os/\AllBare i.gens) f:=by
  intro H U hS xt X hK;have Jt:∀{b:KF}{o:Obj},f.heap.get? b=Z o->H b=Y->(nz f.heap H).get? b=Z o:=λe n=>xZ e n;have NG:∀{b:KF}{o:Obj}{y:Array DictEntry}{A:Nat},f.heap.get? b=Z o->o.data=.dict y A->H b=Y:=λ{b o y A} e d=>by
   cases q:H b with
   |none=>rfl
   |some u =>
    have N:b=a:=X b (by rw[q];simp);subst N;rw[C]at e;cases e;have d':Data.seq j.toArray _=Data.dict y A:=d;cases d'
  have D:∀{b:KF}{m:Wu},f.heap.Ns b m->(nz f.heap H).Ns b m:=λ{b m} ⟨o,y,A,e,d,r⟩=>⟨o,y,A,Jt e (NG e d),d,r⟩
  have S7:K.In (nz f.heap H):=λb o e=>Jt (KX b o e) (by
   cases q:H b with
   |none=>rfl
   |some u =>
    have N:b=a:=X b (by rw[q];simp);subst N;rw[hK (by rw[q];simp)]at e;cases e)
  have hM:Mod K t (nz f.heap H):=⟨S7,D Pc,⟨E,D g,S4⟩,let ⟨mc,h1,h2⟩:=QM;⟨mc,D h1,h2⟩⟩
  have e0:Env0 P w K t (nz f.heap H) callerA [] f H:=⟨rfl,hM,λb q e=>(zg.mp e).1,λb o e=>As e,XT (vk _ _),trivial,λb g=>absurd (show b∈([]:W6) from g) (by simp),xt,.of_eq hg⟩
  refine X9 ((F _ S7 (D Pc)).run callerA [] f H ⟨[.ref a],[]⟩ [.ref a] [.ref a] _ _ hr e0 (N3 f (.ref a)) (.cons L .nil) (KG H U hS)) λr i h=>?_;cases r with
  |error e=>exact(Rj H e i h).elim
  |ok fl =>
   cases fl with
   |next=>exact False.elim h
   |brk=>exact False.elim h
   |cont=>exact False.elim h
   |ret u =>
    obtain⟨v,H',os,bare,un,QH,r',q⟩:=h;have q':v=.bl M:=q;subst q';obtain rfl:u=Value.bool M:=r';refine⟨rfl,OldK.of_keep λb o e=>?_,os,bare⟩;cases q:H b with
    |none=>exact un.keep b o e q (by intro z;exact absurd (show b∈([]:W6) from z) (by simp)) (by simp)
    |some u =>
     rcases U b with z | ⟨ob,xs,z⟩
     ·rw[q]at z;cases z
     ·have z2:=un.Il b ob _ z;obtain⟨e1,_⟩:=xt b _ z;obtain⟨e2,_⟩:=QH b _ z2;rw[e]at e1;cases e1;exact e2
 cases G:K.lookup a with
 |some o =>
  have e:=KX a o G;rw[C]at e;cases e;refine core (λ_=>Y) (λ_=>.inl L) (.inr ⟨_,j.toArray,_,G,rfl,rfl,rfl,by rw[Zb,Qv];exact R,by simpa using Q⟩) (λb u z=>by have l:(Y:Option HO)=Z u:=z;cases l) (λb z=>absurd L z) λz=>absurd L z
 |none =>
  refine core (λb=>if b=a then Z (.frz { cls:=.type "list",data:=.seq j.toArray } (.lst (p.map V.int))) else Y) (λb=>?_) (.inl (.inr ⟨{ cls:=.type "list",data:=.seq j.toArray },Zn L⟩)) (λb u z=>?_) (λb z=>?_) λ_=>G
  ·by_cases g:b=a
   ·exact .inr ⟨_,_,Zn g⟩
   ·exact .inl (Zm g)
  ·by_cases g:b=a
   ·have l:=(Zn g).symm.trans z;cases l;subst g;exact⟨C,by rw[Zx];exact R,j,_,Q,C⟩
   ·have l:=(Zm g).symm.trans z;cases l
  ·by_cases g:b=a
   ·exact g
   ·exact absurd (Zm g) z
def iY{l:PySem.W.OpenLaw}{n k:Nat}{t:SZ->SL->Prop}{d:DefRec}{K:Params->X3}{CX:SZ->JS}{sp:SZ->Sp}{x:Str}(C:l.most=Z n)(Q:n<=KB)(S:d.params.defaults=[])(A:pe k callerA)(E:∀(w:SZ)(h:SL),t w h->(K w.params).In h)(F:∀(w:SZ)(mg:Wu)(j:KF)(h:SL),(K w.params).In h->h.Ns mainGlobals mg->mg d.name=Z (.ref j) →
   ∃fd:Pv,(∀(s:GM)(u:KM),BindsTo s fd ⟨[u],[]⟩ [(x,u)]) ∧
    ∀base:SL,(K w.params).In base->base.Ns mainGlobals mg->FnOk l.prog w (K w.params) mg base (CX w) k j fd [x] (sp w))(U:∀(w:SZ)(H:Hp)(a:KF)(ns:Vu),ns.length<=n->yj H->Gw (K w.params) H a (ns.map V.int)->sp w [.ref a] H (λv _=>v=.bl M) λ_ _ _=>False)(P:∀(w:SZ)(H:Hp)(s:GM)(e:KM)(m:GM),CX w [] H s (λ_ _ _=>False) e m->False) :
  PySem.W.WalkO q i O t l.row.toRowW d [] (λf r=>PySem.call f r):=by
 refine TQ.pX C S λw X z mg mb j o pm cd doc a r ns G Y ho hd D p R hints hlen hg=>?_;have y:=E w _ Y;obtain⟨fd,hb,N⟩:=F w mg j _ y G.T.g p;exact xV y G.T.g G.T.b G.T.builtins G.T.nolimit hg R hints (Z2 hlen Q) A N hb (λH L J=>U w H a ns hlen L J) λH e m=>P w H z e m
noncomputable def inClass(s:Stmt)(j:Nat):Stmt:=match s with
 |.ClassDef _ _ _ body _ _ _ _ _ _ _=>body.getD j (.Pass ⟨0,0,0,0⟩)
 |_=>.Pass ⟨0,0,0,0⟩
noncomputable def cE(s:Stmt):Arguments:=match s with
 |.FunctionDef _ a _ _ _ _ _ _ _ _=>a
 |_=>{ posonlyargs:=[],args:=[],vararg:=Y,kwonlyargs:=[],kw_defaults:=[],kwarg:=Y,defaults:=[] }
noncomputable def aZ(s:Stmt):List Stmt:=match s with
 |.FunctionDef _ _ b _ _ _ _ _ _ _=>b
 |_=>[]
noncomputable def ai(s:Stmt):Scope:=match s with
 |.FunctionDef _ _ _ _ _ _ sc _ _ _=>sc
 |_=>{ kind:=.function,names:=[],isGenerator:=B,isCoroutine:=B }
noncomputable abbrev GX:JS:=λ_ _ _ _ _ _=>False
noncomputable abbrev E0:XK:=λ_ _ _=>False
def kQ{X:Cx}:iu GX X E0:=λ_ _ _ _ _ _ _ h=>h.elim
structure Gv(K:X3)(x qual:Str)(st:Stmt)(f:KF)(fd:Pv):Prop where
 ex:∃(oc:KM)(od:Option KF)(kV doc pm:KM)(an:Option KF)(Ga ct:KM)(ID:Array (Vw)),
  fd=PySem.W.fnOf x qual (cE st) (aZ st) (ai st) .none kV doc pm an Ga ct/\K.lookup f=some ⟨oc,od,.func fd,ID⟩/\PySem.W.codeIn K Ga qual=true
 kp:PySem.W.keepIn K (.ref f)=true
section
variable{K:X3}
def Gv.ok(F:Gv K x a d f m)(S:gV N i (ai d))(j:∀b H Q E,g b H Q E->b.length=i.length)(p:∀(e:KM)(A:Re)(outer:List Env)(s:GM)(H:Hp)(b:List V)(Q:VK)(E:XK),pe k (A.deeper (envOfC a (ai d) s.heap.objs.size f e))->g b H Q E →
   ∃t,HJ (i7 GX P w K mg base N a (ai d) f e A outer s H E).IV (aZ d) t/\t { nx:=λ_ r=>Q .non r,rt:=Q } (start N b) H):FnOk P w K mg base GX (k+1) f m i g:=by
 obtain⟨oc,u,kV,doc,pm,an,e,ct,v,rfl,lk,l⟩:=F.ex;refine Bl lk l S j λA outer s H b Q E n o=>?_;obtain⟨t,h,q⟩:=p e A outer s H b Q E n o;exact⟨t,h.IV,q⟩
def Gv.binds{e:List Str}(F:Gv K x a b f i)(h:∀(kV doc pm:KM)(an:Option KF)(g ct:KM)(d:Vx),d.length=e.length->bindArgs (PySem.W.fnOf x a (cE b) (aZ b) (ai b) .none kV doc pm an g ct) ⟨d,[]⟩=pure (e.zip d)):Binds K i e []:=by
 obtain⟨oc,l,kV,doc,pm,an,g,ct,m,rfl,lk,j⟩:=F.ex;exact .all (h kV doc pm an g ct)
def xH{st:Stmt}(l:K.lookup f=Z ⟨m,j,.func (PySem.W.fnOf x a (cE st) (aZ st) (ai st) .none g b e i d h),n⟩)(c:PySem.W.codeIn K d a=M)(k:PySem.W.keepIn K (.ref f)=M):Gv K x a st f (PySem.W.fnOf x a (cE st) (aZ st) (ai st) .none g b e i d h):=⟨⟨m,j,g,b,e,i,d,h,n,rfl,l,c⟩,k⟩
end
def jd(a:pe k A):A.units+1<cLine:=WG (Nat.add_le_add_left (by decide:1<=64) _) a.units
section
variable{X:Cx}
def pv(i:Nat)(f:{`q2,X.N[i]?=Z x})(d:{`q5,HU X.env.scope x})(e:{`q1,K3 x})(b:{`q1,K4 x}):PE X (.Name x a) (Ej i):=eQ f d e b
end
def Al{A B:Prop}(h:B):if false=M then A else B:=by
 rw[Zm ZY];exact h
def Ah{A B:Prop}(h:A):if M=M then A else B:=by
 rw[Zn L];exact h
noncomputable def aJ(H a:Hp):Prop:=∀b o,H b=Z o->a b=Z o
def aJ.refl(H:Hp):aJ H H:=λ_ _ h=>h
def aJ.trans(a:aJ H e)(b:aJ e d):aJ H d:=λc o h=>b c o (a c o h)
def aJ.free(e:aJ H a)(h:a l=Y):H l=Y:=by
 cases q:H l with
 |none=>rfl
 |some o =>
  rw[e l o q]at h;cases h
end L2
end
section
namespace L2
open PySem PySem.Spec PyProof.Rows
abbrev nH:=List (List Key)
def hN(w:SZ)(k:nH):Int:=reduceHash (Builtin.Tuple.tupleHashOf (k.map λx=>reduceHash (Builtin.Tuple.tupleHashOf (x.map (D1 w)))))
def FK(w:SZ)(x:nH×KF×KM):DictEntry:=⟨hN w x.1,.ref x.2.1,x.2.2⟩
abbrev KN:List (nH×KF×V)->List (nH×KF×KM)->Prop:=Paired λp q=>p.1=q.1/\p.2.1=q.2.1/\RelV p.2.2 q.2.2
def DN(a:KF)(e:List (nH×KF×V)):HO:=.ext λw h=>e.length<=KB/\(a==sysModules)=B/\∃b:List (nH×KF×KM),KN e b ∧
 ∃o d f,h.get? a=Z o/\o.ExactDict/\o.data=.dict d f/\d.toList=b.map (FK w)/\(b.map (·.1)).Nodup
def Pr(H:Hp)(k:nH)(b:KF):Prop:=∃a:W6,H b=Z (.tup (a.map V.ref))/\Paired (λ(x:List Key) (c:KF)=>H c=Z (.tup (x.map kV))) k a
def Pr.mono{k:nH}(x:Pr H k b)(t:∀a d,H a=Z (.tup d)->e a=Z (.tup d)):Pr e k b:=by
 obtain⟨f,h,r⟩:=x;exact⟨f,t _ _ h,Paired.K9 r λ_ _ z=>t _ _ z⟩
end L2
end
section
namespace VS
open PySem PySem.Spec PyProof.Rows L2
noncomputable def sx(s:Tx):Str:=⟨s.toArray⟩
def nI(s:Tx):Prop:=s.length<=dq/\∀c∈s,c<1114112
noncomputable abbrev Me:=Nat->Option V
structure Gx where
 K:X3
 ct:Nat->KF×(Nat->Str)
 me:Me:=λ_=>none
noncomputable def Gx.at(G:Gx)(m:Me):Gx:=⟨G.K,G.ct,m⟩
noncomputable def aQ:Key->T
 |.inl i=>.int i
 |.inr x=>.str x.cps.toList
def UE(k:nH):T:=.tup (k.map λx=>T.tup (x.map aQ))
def kJ(K:X3)(H:Hp)(a:KF)(d:Vu):Prop :=
 (∃o,H a=Z (.frz o (.lst (d.map V.int)))) ∨
  ∃(o:Obj)(b:Array KM)(n:Nat),K.lookup a=Z o/\o.cls=.type "list" ∧ o.dict=Y/\o.data=.seq b n/\b.size<=KB/\aO (d.map V.int) b.toList
mutual
inductive Rp(G:Gx)(H:Hp):V->T->W6->Prop
 |non:Rp G H .non .non []
 |bl (b:Bool):Rp G H (.bl b) (.bl b) []
 |int (i:Int):Rp G H (.int i) (.int i) []
 |str (s:Tx):nI s->Rp G H (.str (sx s)) (.str s) []
 |scr {a:KF} {ns:Vu}:kJ G.K H a ns->Rp G H (.ref a) (.scr ns) []
 |tup {a:KF} {vs:List V} {ts:Vo} {Fs:Xq}:H a=some (.tup vs)->RpL G H vs ts Fs->Rp G H (.ref a) (.tup ts) Fs.flatten
 |lst {a:KF} {vs:List V} {ts:Vo} {Fs:Xq}:H a=some (.lst vs)->RpL G H vs ts Fs->Rp G H (.ref a) (.lst ts) (a :: Fs.flatten)
 |dct {a:KF} {ks:List Key} {vs:List V} {ts:Vo} {Fs:Xq}:H a=some (.dK (ks.zip vs))->ks.length=vs.length->RpL G H vs ts Fs->Rp G H (.ref a) (.dct 0 ((ks.map aQ).zip ts)) (a :: Fs.flatten)
 |dctT {a:KF} {ks:List (List Key)} {vs:List V} {ts:Vo} {Fs:Xq}:H a=some (.dT (ks.zip vs))->ks.length=vs.length->RpL G H vs ts Fs->Rp G H (.ref a) (.dct 1 ((ks.map λk=>T.tup (k.map aQ)).zip ts)) (a :: Fs.flatten)
 |dctN {a:KF} {ks:List (nH×KF)} {vs:List V} {ts:Vo} {Fs:Xq}:H a=some (DN a ((ks.zip vs).map λp=>(p.1.1,p.1.2,p.2)))->ks.length=vs.length->(∀p∈ks,Pr H p.1 p.2)->RpL G H vs ts Fs->Rp G H (.ref a) (.dct 2 ((ks.map λp=>UE p.1).zip ts)) (a :: Fs.flatten)
 |dctZ {a:KF} {o:Obj} {ks:List Key} {vs:List V} {ts:Vo} {Fs:Xq}:H a=some (.frz o (.dK (ks.zip vs)))->ks.length=vs.length->RpL G H vs ts Fs->Rp G H (.ref a) (.dct 3 ((ks.map aQ).zip ts)) Fs.flatten
 |exc {c:Nat} {a:KF} {o:Obj}:H a=some (.frz o (.own a))->(o.cls=.ref (G.ct c).1/\o.dict=none/\∃vs,o.data=.fields vs)->Rp G H (.ref a) (.obj c []) []
 |ins {c:Nat} {a dx:KF} {b:Bool} {ks:Vv} {vs:List V} {ts:Vo} {Fs:Xq}:H a=some (.ins (G.ct (c+1)).1 dx ((ks.map (G.ct (c+1)).2).zip vs))->ks.length=vs.length->(b=true->G.me 0=some (.ref a))->RpL G H vs ts Fs->Rp G H (.ref a) (.obj (c+1) ((0,.bl b) :: ks.zip ts)) (a :: Fs.flatten)
 |mk {m:Nat} {a:KF} {t:T} {F:W6}:G.me m=some (.ref a)->Rp G H (.ref a) t F->Rp G H (.ref a) (.obj 0 [(0,.bl true),(m,t)]) F
inductive RpL(G:Gx)(H:Hp):List V->Vo->Xq->Prop
 |nil:RpL G H [] [] []
 |cons {v:V} {t:T} {F:W6} {vs:List V} {ts:Vo} {Fs:Xq}:Rp G H v t F->RpL G H vs ts Fs->RpL G H (v :: vs) (t :: ts) (F :: Fs)
end
structure Kept(H H':Hp):Prop where
 tup:∀a xs,H a=some (.tup xs)->H' a=some (.tup xs)
 frz:∀a o u,H a=some (.frz o u)->H' a=some (.frz o u)
def Kept.refl(H:Hp):Kept H H:=⟨λ_ _ h=>h,λ_ _ _ h=>h⟩
def Kept.trans(a:Kept H e)(b:Kept e d):Kept H d:=⟨λc x h=>b.tup c x (a.tup c x h),λc o u h=>b.frz c o u (a.frz c o u h)⟩
def Kept.of(e:aJ H b):Kept H b:=⟨λa _ h=>e a _ h,λa _ _ h=>e a _ h⟩
theorem Kept.upd{H:Hp}(d:Gk (H a)\/H a=Y):Kept H (upd H a o):=by
 have ne:∀b u,H b=Z u->¬Gk (Z u)->b≠a:=λb u h nm e=>by
  subst e;rcases d with m | m
  ·rw[h]at m;exact nm m
  ·rw[h]at m;cases m
 exact⟨λb f h=>by rw[aE (ne b _ h λz=>z)];exact h,λb o u h=>by rw[aE (ne b _ h λz=>z)];exact h⟩
def kJ.kept{K:X3}(h:kJ K H a b)(k:Kept H d):kJ K d a b:=by
 rcases h with⟨o,e⟩ | h
 ·exact .inl ⟨o,k.frz _ _ _ e⟩
 ·exact .inr h
def kJ.seq{K:X3}(h:kJ K H a b):Gw K H a (b.map V.int):=by
 rcases h with⟨o,e⟩ | h
 ·exact .inl (.inr ⟨o,e⟩)
 ·exact .inr h
def rB{H d:Hp}{a:KF}{F:W6}(f:∀b∈a :: F,∀o,H b=Z o->d b=Z o):∀b∈F,∀o,H b=Z o->d b=Z o:=λb m=>f b (Zt _ m)
def t7{H a:Hp}{F:W6}{d:Xq}(f:∀b∈(F :: d).flatten,∀o,H b=Z o->a b=Z o):(∀b∈F,∀o,H b=Z o->a b=Z o)/\∀b∈d.flatten,∀o,H b=Z o->a b=Z o:=by
 rw[ZI]at f;exact⟨λb m=>f b (Yq _ m),λb m=>f b (ZP _ m)⟩
def Rp.keep(k:Kept H e)(r:Rp G H v t F):(∀a∈F,∀o,H a=Z o->e a=Z o)->Rp G e v t F :=
 Rp.rec (motive_1:=λv t F _=>(∀a∈F,∀o,H a=Z o->e a=Z o)->Rp G e v t F) (motive_2:=λj q g _=>(∀a∈g.flatten,∀o,H a=Z o->e a=Z o)->RpL G e j q g)
  (λ_=>.non) (λb _=>.bl b) (λi _=>.int i) (λs h _=>.str s h) (λh _=>.scr (h.kept k)) (λh _ d f=>.tup (k.tup _ _ h) (d f)) (λh _ d f=>.lst (f _ Zu _ h) (d (rB f))) (λh l _ d f=>.dct (f _ Zu _ h) l (d (rB f))) (λh l _ d f=>.dctT (f _ Zu _ h) l (d (rB f)))
  (λh l n _ d f=>.dctN (f _ Zu _ h) l (λp m=>(n p m).mono k.tup) (d (rB f))) (λh l _ d f=>.dctZ (k.frz _ _ _ h) l (d f)) (λh y _=>.exc (k.frz _ _ _ h) y) (λh l m _ d f=>.ins (f _ Zu _ h) l m (d (rB f))) (λh _ d f=>.mk h (d f)) (λ_=>.nil) (λ_ _ w u f=>.cons (w (t7 f).1) (u (t7 f).2)) r
theorem RpL.keep(k:Kept H b):∀{e:List V}{g:Vo}{d:Xq},RpL G H e g d->(∀a∈d.flatten,∀o,H a=Z o->b a=Z o)->RpL G b e g d
 |_,_,_,.nil,_=>.nil
 |_,_,_,.cons r q,f=>.cons (r.keep k (t7 f).1) (RpL.keep k q (t7 f).2)
def Rp.same{G:Gx}{H:Hp}(e:aJ H b)(r:Rp G H v t F):Rp G b v t F:=r.keep (Kept.of e) λa _ o h=>e a o h
def RpL.same{G:Gx}{H:Hp}(e:aJ H b)(r:RpL G H v t F):RpL G b v t F:=r.keep (Kept.of e) λa _ o h=>e a o h
def wt{H:Hp}{a:KF}{F:W6}(h:Gk (H a))(d:∀b∈F,Gk (H b)):∀b∈a :: F,Gk (H b):=λb m=>(Zj.mp m).elim (λe=>e ▸ h) (d b)
def xY{H:Hp}{a:KF}{o:HO}(h:H a=Z o)(m:Gk (Z o)):Gk (H a):=by rw[h];exact m
def E4{H:Hp}{F:W6}{a:Xq}(e:∀b∈F,Gk (H b))(d:∀b∈a.flatten,Gk (H b)):∀b∈(F :: a).flatten,Gk (H b):=λb m=>by
 rw[ZI]at m;exact(ZW.mp m).elim (e b) (d b)
def Rp.GF(r:Rp G H v t F):∀a∈F,Gk (H a) :=
 Rp.rec (motive_1:=λv t F _=>∀a∈F,Gk (H a)) (motive_2:=λg i f _=>∀a∈f.flatten,Gk (H a))
  (λ_ m=>nomatch m) (λ_ _ m=>nomatch m) (λ_ _ m=>nomatch m) (λ_ _ _ m=>nomatch m) (λ_ _ m=>nomatch m) (λ_ _ b=>b) (λh _ b=>wt (xY h True.intro) b) (λh _ _ b=>wt (xY h True.intro) b) (λh _ _ b=>wt (xY h True.intro) b)
  (λh _ _ _ b=>wt (xY h True.intro) b) (λ_ _ _ b=>b) (λ_ _ _ m=>nomatch m) (λh _ _ _ b=>wt (xY h True.intro) b) (λ_ _ b=>b) (λ_ m=>nomatch m) (λ_ _ e d=>E4 e d) r
theorem RpL.GF:∀{d:List V}{e:Vo}{b:Xq},RpL G H d e b->∀a∈b.flatten,Gk (H a)
 |_,_,_,.nil=>λ_ m=>nomatch m
 |_,_,_,.cons r q=>E4 r.GF (RpL.GF q)
def Gk.p0(m:Gk o):o≠Y:=λe=>by subst e;exact m
def Fg{b:Xq}(e:VS.FZ t=M->F=[])(d:VS.cL a=M->b.flatten=[])(i:VS.cL (t :: a)=M):(F :: b).flatten=[]:=by
 have i:=Ze.mp i;rw[ZI,e i.1,d i.2];rfl
theorem Rp.FZ(r:Rp G H v t F):VS.FZ t=M->F=[] :=
 Rp.rec (motive_1:=λv t F _=>VS.FZ t=M->F=[]) (motive_2:=λg a f _=>VS.cL a=M->f.flatten=[])
  (λ_=>rfl) (λ_ _=>rfl) (λ_ _=>rfl) (λ_ _ _=>rfl) (λ_ _=>rfl) (λ_ _ b i=>b (by simpa[VS.FZ] using i)) (λ_ _ _ i=>absurd (show B=M from i) ZY) (λ_ _ _ _ i=>absurd (show B=M from i) ZY) (λ_ _ _ _ i=>absurd (show B=M from i) ZY)
  (λ_ _ _ _ _ i=>absurd (show B=M from i) ZY) (λ_ _ _ _ i=>absurd (show B=M from i) ZY) (λ_ _ _=>rfl) (λ_ _ _ _ _ i=>absurd (show B=M from i) ZY) (λ_ _ _ i=>absurd (show B=M from i) ZY) (λ_=>rfl) (λ_ _ e d i=>Fg e d i) r
theorem RpL.FZ:∀{d:List V}{a:Vo}{b:Xq},RpL G H d a b->VS.cL a=M->b.flatten=[]
 |_,_,_,.nil,_=>rfl
 |_,_,_,.cons r q,i=>Fg r.FZ (RpL.FZ q) i
theorem RpL.len:∀{b:List V}{a:Vo}{d:Xq},RpL G H b a d->b.length=a.length/\d.length=a.length
 |_,_,_,.nil=>⟨rfl,rfl⟩
 |_,_,_,.cons _ q=>by
  have:=RpL.len q;simp only[ZX];lia
theorem RpL.get{G:Gx}:∀{a:List V}{b:Vo}{d:Xq}(i:Nat){t:T},RpL G H a b d->b[i]?=Z t->∃v F,a[i]?=Z v/\d[i]?=Z F/\Rp G H v t F
 |_,_,_,_,_,.nil,e=>by simp at e
 |_,_,_,0,_,.cons r _,e=>by
  simp at e;subst e;exact⟨_,_,rfl,rfl,r⟩
 |_,_,_,i+1,_,.cons _ q,e=>by
  obtain⟨v,F,h,g,f⟩:=RpL.get i q (by simpa using e);exact⟨v,F,by simpa using h,by simpa using g,f⟩
theorem RpL.append:∀{a:List V}{d:Vo}{f:Xq}{b:List V}{e:Vo}{Gs:Xq},RpL G H a d f->RpL G H b e Gs->RpL G H (a++b) (d++e) (f++Gs)
 |_,_,_,_,_,_,.nil,s=>s
 |_,_,_,_,_,_,.cons r q,s=>.cons r (RpL.append q s)
theorem RpL.take:∀{a:List V}{b:Vo}{d:Xq}(n:Nat),RpL G H a b d->RpL G H (a.take n) (b.take n) (d.take n)
 |_,_,_,0,_=>by simpa using RpL.nil
 |_,_,_,n+1,.nil=>.nil
 |_,_,_,n+1,.cons r q=>.cons r (RpL.take n q)
theorem RpL.drop:∀{a:List V}{b:Vo}{d:Xq}(n:Nat),RpL G H a b d->RpL G H (a.drop n) (b.drop n) (d.drop n)
 |_,_,_,0,q=>q
 |_,_,_,n+1,.nil=>.nil
 |_,_,_,n+1,.cons r q=>RpL.drop n q
noncomputable def i8:Cell->T
 |.pu t=>t
 |.ow t=>t
noncomputable abbrev Gn:=Nat->W6
structure SR(G:Gx)(O:Gn)(U:VS.Env)(J:L2.St)(H:Hp):Prop where
 len:U.length=J.length
 rp:∀i c,U[i]?=some (some c)->∃v,J[i]?=some (some v)/\Rp G H v (i8 c) (O i)
 nd:∀i t,U[i]?=some (some (.ow t))->(O i).Nodup
 sep:∀i j t c,U[i]?=some (some (.ow t))->U[j]?=some (some c)->i≠j->∀a∈O i,a∉O j
noncomputable def du(O:Gn)(U:VS.Env)(a:KF):Prop:=∃j t,U[j]?=Z (Z (.pu t))/\a∈O j
noncomputable def bW(O:Gn)(U:VS.Env)(a:KF):Prop:=∃j t,U[j]?=Z (Z (.ow t))/\a∈O j
def Fp(O:Gn)(U:VS.Env)(H:Hp):Md->W6->Prop
 |.fr,F=>F.Nodup/\∀a∈F,H a=Y
 |.pu,F=>∀a∈F,H a=Y\/du O U a
 |.bo,F=>∀a∈F,H a=Y\/du O U a\/bW O U a
theorem SR.same{G:Gx}{H:Hp}(s:SR G O U J H)(e:aJ H a):SR G O U J a :=
 ⟨s.len,λi c h=>let ⟨v,d,b⟩:=s.rp i c h;⟨v,d,b.same e⟩,s.nd,s.sep⟩
def SR.J0(s:SR G O U J H)(h:du O U a):Gk (H a):=by
 obtain⟨j,t,d,b⟩:=h;obtain⟨v,_,r⟩:=s.rp j _ d;exact r.GF a b
def SR.Hn(s:SR G O U J H)(h:bW O U a):Gk (H a):=by
 obtain⟨j,t,d,b⟩:=h;obtain⟨v,_,r⟩:=s.rp j _ d;exact r.GF a b
def Fp.nil:Fp O U H m []:=by
 cases m
 ·exact⟨YL,λa h=>by simp at h⟩
 ·exact λa h=>by simp at h
 ·exact λa h=>by simp at h
theorem Fp.bo{U:VS.Env}{H:Hp}:∀{m:Md},Fp O U H m F->Fp O U H .bo F
 |.fr,h=>λa m=>.inl (h.2 a m)
 |.pu,h=>λa m=>(h a m).elim .inl λz=>.inr (.inl z)
 |.bo,h=>h
theorem Fp.pu{U:VS.Env}{H:Hp}{F:W6}:∀{m:Md},m ≠ .bo->Fp O U H m F->Fp O U H .pu F
 |.fr,_,h=>λa m=>.inl (h.2 a m)
 |.pu,_,h=>h
 |.bo,n,_=>absurd L n
theorem Fp.back(e:aJ H b):∀{m:Md},Fp O U b m F->Fp O U H m F
 |.fr,h=>⟨h.1,λa m=>e.free (h.2 a m)⟩
 |.pu,h=>λa m=>(h a m).imp e.free id
 |.bo,h=>λa m=>(h a m).imp e.free id
theorem Fp.up{U:VS.Env}{a:Hp}{m:Md}{v:V}(f:Fp O U H m F)(r:Rp G a v t F):Fp O U H (VS.up m t).1 F:=by
 unfold VS.up;by_cases h:VS.FZ t=M
 ·rw[r.FZ h];exact Fp.nil
 ·simp only[h,if_false,Xm];exact f
def tE(G:Gx)(c:Ex):TE:=λJ H Q=>∃O U m r,SR G O U J H/\c U=Z (m,r)/\∀v a F,aJ H a->Rp G a v r F->Fp O U H m F->Q v a
def PV(G:Gx)(X:Cx)(e:Expr)(c:Ex):Prop:=PE X e (tE G c)
def PE.weak{X:Cx}{t:TE}(h:PE X e t)(w:∀J H Q,b J H Q->t J H Q):PE X e b:=λa s J H Q I q=>h a s J H Q I (w J H Q q)
def PT.weak{X:Cx}{t:TT}(h:PT X e t)(w:∀J H Q,b J H Q->t J H Q):PT X e b:=λa s J H Q I q=>h a s J H Q I (w J H Q q)
def PA.weak{X:Cx}{t:TA}(h:PA X e t)(w:∀J H Q,b J H Q->t J H Q):PA X e b:=λpos a s J H Q I q=>h pos a s J H Q I (w J H Q q)
def tT(G:Gx)(c:Ex):TT:=λJ H Q=>∃O U m r b,SR G O U J H/\c U=Z (m,r)/\Nl r=Z b/\∀a,aJ H a->Q b a
def Iw(G:Gx)(X:Cx)(e:Expr)(c:Ex):Prop:=PT X e (tT G c)
noncomputable def Ha(l:Vq)(a:Xq):W6:=match l,a with
 |v :: l,F :: a=>match v.1 with
  |.fr=>F++Ha l a
  |_=>Ha l a
 |_,_=>[]
structure KW(O:Gn)(U:VS.Env)(H:Hp)(l:Vq)(Fs:Xq):Prop where
 each:∀(i:Nat) v F,l[i]?=some v->Fs[i]?=some F->Fp O U H v.1 F
 nd:(Ha l Fs).Nodup
def MV(G:Gx)(c:GG):TA:=λJ H Q=>∃O U l,SR G O U J H/\c U=Z l/\∀b a d,aJ H a->RpL G a b (trees l) d->KW O U H l d->Q b a
def GY(G:Gx)(X:Cx)(a:List Expr)(c:GG):Prop:=PA X a (MV G c)
section
variable{X:Cx}
def ak{i j pos}:PV G X (.Constant (.int i) j pos) (Q3 i):=PE.weak sC λJ H Q d=>by
 obtain⟨O,U,m,r,s,e,k⟩:=d;cases (show Z (Md.fr,T.int i)=Z (m,r) from e);exact k _ _ _ (aJ.refl _) (.int i) Fp.nil
def n4{i j pos}:PV G X (.Constant (.bool i) j pos) (eC (.bl i)):=PE.weak DH λJ H Q d=>by
 obtain⟨O,U,m,r,s,e,k⟩:=d;cases (show Z (Md.fr,T.bl i)=Z (m,r) from e);exact k _ _ _ (aJ.refl _) (.bl i) Fp.nil
def wH{j pos}:PV G X (.Constant .none j pos) (eC .non):=PE.weak BY λJ H Q d=>by
 obtain⟨O,U,m,r,s,e,k⟩:=d;cases (show Z (Md.fr,T.non)=Z (m,r) from e);exact k _ _ _ (aJ.refl _) .non Fp.nil
def eW{j pos}(h:x=sx t:=by decide +kernel)(f:{`q1,nI t}):PV G X (.Constant (.str x) j pos) (eC (.str t)):=PE.weak Cd λJ H Q d=>by
 obtain⟨O,U,m,r,s,e,k⟩:=d;cases (show Z (Md.fr,T.str t)=Z (m,r) from e);subst h;exact k _ _ _ (aJ.refl _) (.str t f) Fp.nil
def cJ(i:Nat)(w:{`q2,X.N[i]?=Z x})(p:{`q5,HU X.env.scope x})(u:{`q1,K3 x})(j:{`q1,K4 x}):PV G X (.Name x g) (aa i):=PE.weak (eQ w p u j) λJ H Q q=>by
 obtain⟨O,U,m,r,s,e,k⟩:=q;unfold aa at e;split at e
 ·rename_i t h;obtain⟨v,n,d⟩:=s.rp _ _ h;have o:VS.up .pu t=(m,r):=Zk e;have y:t=r:=congrArg Prod.snd o;have em:(VS.up .pu t).1=m:=congrArg Prod.fst o;rw[← y,← em]at k;refine⟨v,n,k v H (O i) (aJ.refl _) d ?_⟩;have f:Fp O U H .pu (O i):=λa l=>.inr ⟨i,_,h,l⟩;exact f.up d
 ·rename_i t h;obtain⟨v,n,d⟩:=s.rp _ _ h;cases e;exact⟨v,n,k v H (O i) (aJ.refl _) d λa l=>.inr (.inr ⟨i,_,h,l⟩)⟩
 ·cases e
def Ay{v:V}(j:Gl X x)(i:X.mg x=Z u)(r:RelV v u)(g:∀H,Rp G H v t [])(l:{`q1,K3 x}):PV G X (.Name x d) (eC t) :=
 PE.weak (Ad j i r l) λJ H Q h=>by
  obtain⟨O,U,m,f,s,e,k⟩:=h;cases (show Z (Md.fr,t)=Z (m,f) from e);exact k _ _ _ (aJ.refl _) (g H) Fp.nil
structure OF(G:Gx)(O:Gn)(U:VS.Env)(H0 H:Hp)(x y:Val)(u w:V)(F1 F2:W6):Prop where
 same:aJ H0 H
 r1:Rp G H u x.2 F1
 r2:Rp G H w y.2 F2
 f1:Fp O U H0 x.1 F1
 f2:Fp O U H0 y.1 F2
 nd:x.1=.fr->y.1=.fr->(F1++F2).Nodup
def fP(G:Gx)(r:R2)(f:Val->Val->Vp):Prop:=∀(O:Gn)(U:VS.Env)(e H:Hp)(x y:Val)(u w:V)(h g:W6)(m:Md)(t:T)(Q:VK),OF G O U e H x y u w h g->f x y=Z (m,t) →
 (∀v d F,aJ H d->Rp G d v t F->Fp O U e m F->Q v d)->r u w H Q
def yk{G:Gx}{ca cb:Ex}{J:L2.St}{H:Hp}{Q:V->V->Hp->Prop}{O:Gn}{U:VS.Env}{x y:Val}(s:SR G O U J H)(m:ca U=Z x)(l:cb U=Z y)(k:∀u w d f e,OF G O U H d x y u w f e->Q u w d):tE G ca J H λu g=>tE G cb J g λw d=>Q u w d:=by
 refine⟨O,U,x.1,x.2,s,m,λu g f e1 r1 f1=>⟨O,U,y.1,y.2,s.same e1,l,λw d e e2 r2 f2=>k u w d f e ⟨e1.trans e2,r1.same e2,r2,f1,f2.back e1,λi h=>?_⟩⟩⟩;rw[i]at f1;rw[h]at f2;refine ZQ.mpr ⟨f1.1,f2.1,λa j b hb z=>?_⟩;subst z;exact Gk.p0 (r1.GF a j) (f2.2 a hb)
def j8(g:fP G r f)(h:tE G (e2 f ca cb) J H Q):Np r (tE G ca) (tE G cb) J H Q:=by
 obtain⟨O,U,m,t,s,e,k⟩:=h;unfold e2 at e;obtain⟨x,j,e⟩:=Zz.mp e;obtain⟨y,i,e⟩:=Zz.mp e;exact yk s j i λu w l p o d=>g O U H l x y u w p o m t Q d e λv n F e1 r1 f1=>k v n F (d.same.trans e1) r1 f1
def g8(g:OpR X (binaryOp d) r)(e:fP G r f)(j:PV G X a ca)(i:PV G X b cb):PV G X (.BinOp a d b pos) (e2 f ca cb) :=
 PE.weak (Ei g j i) λJ H Q h=>j8 e h
def B4(g:OpR X (SC d) r)(e:fP G r f)(l:PV G X a ca)(j:PV G X b cb)(i:behindInMarks d b=B):PV G X (.Compare a [d] [b] pos) (e2 f ca cb) :=
 PE.weak (AH g l j i) λJ H Q h=>j8 e h
noncomputable def Tells(f:Val->Val->Vp):Prop:=∀x y m t,f x y=Z (m,t)->∃b,t=.bl b
def Rp.Hb{b:Bool}(r:Rp G H v (.bl b) F):v=.bl b:=by cases r;rfl
def Rp.int_inv{b:Int}(r:Rp G H v (.int b) F):v=.int b:=by cases r;rfl
def Rp.str_inv{b:Tx}(r:Rp G H v (.str b) F):v=.str (sx b)/\nI b:=by cases r with | str _ h=>exact⟨rfl,h⟩
def pV{c:Ex}(h:tT G c J H Q)(f:∀U m r,c U=Z (m,r)->∃b,r=.bl b)(w:∀Q,tE G c J H Q->t J H Q):yF t J H Q:=by
 obtain⟨O,U,m,r,b,s,e,d,k⟩:=h;refine w _ ⟨O,U,m,r,s,e,λv j F e1 r1 f1=>?_⟩;obtain⟨i,g⟩:=f U m r e;rw[g]at d r1;cases (show Z i=Z b from d);exact⟨_,r1.Hb,k j e1⟩
def ft{r:R2}(j:OpR X (SC d) r)(g:fP G r f)(i:Tells f)(o:PV G X a ca)(n:PV G X b cb)(l:behindInMarks d b=B):Iw G X (.Compare a [d] [b] pos) (e2 f ca cb) :=
 PT.weak (ze j o n l) λJ H Q h=>pV h (λU m r e=>by
  unfold e2 at e;obtain⟨x,_,e⟩:=Zz.mp e;obtain⟨y,_,e⟩:=Zz.mp e;exact i x y m r e) λQ h=>j8 g h
def bA{G:Gx}{O:Gn}{U:VS.Env}{e H:Hp}{m:Md}{t:T}{v:V}{Q:VK}(k:∀v d F,aJ H d->Rp G d v t F->Fp O U e m F->Q v d)(r:Rp G H v t []):Q v H:=k v H [] (aJ.refl _) r Fp.nil
def bQ{H:Hp}{o:HO}(h:H p=Y):aJ H (upd H p o):=λb d e=>by rw[aE (dj e h)];exact e
theorem Fp.new(d:g p=Y)(h:p∉F):∀{m:Md},Fp O U g m F->Fp O U g m (p :: F)
 |.fr,f=>⟨Zd.mpr ⟨h,f.1⟩,λa m=>(Zj.mp m).elim (λe=>by rw[e];exact d) (f.2 a)⟩
 |.pu,f=>λa m=>(Zj.mp m).elim (λe=>by rw[e];exact .inl d) (f a)
 |.bo,f=>λa m=>(Zj.mp m).elim (λe=>by rw[e];exact .inl d) (f a)
def oE(e:Ir d l=Z (m,t)):t=.lst l/\l.length<=dq/\m=(if cL l then .fr else d):=by
 unfold Ir at e;split at e
 ·rename_i h;cases e;exact⟨rfl,h,rfl⟩
 ·cases e
def i4{G:Gx}{O:Gn}{U:VS.Env}{i H:Hp}{q m:Md}{l:Vo}{t:T}{o:List V}{n:Xq}{Q:VK}(d:aJ i H)(e:Ir q l=Z (m,t))(r:RpL G H o l n)(f:Fp O U i q n.flatten)(k:∀v j F,aJ H j->Rp G j v t F->Fp O U i m F->Q v j):∀p,H p=Y->Q (.ref p) (upd H p (.lst o)):=by
 intro p g;obtain⟨rfl,s,rfl⟩:=oE e;refine k _ _ _ (bQ g) (.lst ay (r.same (bQ g))) ?_;have np:p∉n.flatten:=λm=>Gk.p0 (r.GF p m) g;by_cases h:cL l=M
 ·rw[h,Zn L];rw[r.FZ h]at np ⊢;exact Fp.nil.new (d.free g) np
 ·rw[Zm h];exact f.new (d.free g) np
theorem OF.join(i:OF G O U h H x y u w f e){F:W6}(g:F.Sublist (f++e)):Fp O U h (x.1.join y.1) F:=by
 obtain⟨same,r1,r2,f1,f2,nd⟩:=i;have split:∀a∈F,a∈f\/a∈e:=λa d=>ZW.mp (g.subset d);obtain⟨l,x⟩:=x;obtain⟨j,y⟩:=y;have both:∀{P:KF->Prop},(∀a∈f,P a)->(∀a∈e,P a)->∀a∈F,P a:=λn m a d=>(split a d).elim (n a) (m a);cases l<;>cases j
 ·exact⟨(nd L L).sublist g,both f1.2 f2.2⟩
 ·exact both (λa d=>.inl (f1.2 a d)) f2
 ·exact both (λa d=>.inl (f1.2 a d)) f2
 ·exact both f1 (λa d=>.inl (f2.2 a d))
 ·exact both f1 f2
 ·exact both (f1.bo) f2
 ·exact both f1 (λa d=>.inl (f2.2 a d))
 ·exact both f1 (f2.bo)
 ·exact both f1 f2
def fu:dq=sizeLine:=rfl
def dy(s:Tx):(sx s).length=s.length:=rfl
def CQ(s t:Tx):sx s++sx t=sx (s++t):=by
 show Str.append (sx s) (sx t)=_;simp[sx,Str.append]
def Rp.lst_inv(r:Rp G H v (.lst l) F):∃a d e,v=.ref a/\F=a :: e.flatten/\H a=Z (.lst d)/\RpL G H d l e:=by
 cases r with
 |lst h q=>exact⟨_,_,_,rfl,rfl,h,q⟩
def Rp.GR(r:Rp G H v (.tup l) F):∃a d e,v=.ref a/\F=e.flatten/\H a=Z (.tup d)/\RpL G H d l e:=by
 cases r with
 |tup h q=>exact⟨_,_,_,rfl,rfl,h,q⟩
def Rp.K7(r:Rp G H v (.scr l) F):∃a,v=.ref a/\F=[]/\kJ G.K H a l:=by
 cases r with
 |scr h=>exact⟨_,rfl,rfl,h⟩
end
section
variable{X:Cx}
def DR:R2:=λx y H Q=>Jk (λi j=>.int (i+j)) x y H Q\/(∃i j,x=.str i/\y=.str j/\i.length+j.length<=KB/\Q (.str (i++j)) H)\/EY x y H Q
def Am:OpR X (binaryOp .Add) DR:=Dj.or (sO.or Dp)
def Cz:fP G DR da:=by
 intro O U E H x y u w A z m t Q f e k;have q:=λ{F:W6} (h:List.Sublist F (A++z))=>f.join h;obtain⟨D,x⟩:=x;obtain⟨C,y⟩:=y;obtain⟨same,r1,r2,f1,f2,nd⟩:=f;unfold da at e;split at e
 ·rename_i i _ j e1 e2;cases e1;cases e2;cases e;exact .inl ⟨_,_,r1.int_inv,r2.int_inv,bA k (.int _)⟩
 ·rename_i s _ p e1 e2;cases e1;cases e2;split at e
  ·rename_i d;cases e;refine .inr (.inl ⟨_,_,r1.str_inv.1,r2.str_inv.1,by rw[dy,dy,← fu];exact d,?_⟩);rw[CQ];exact bA k (.str _ ⟨by rw[Zo];exact d,λc r=>(ZW.mp r).elim (r1.str_inv.2.2 c) (r2.str_inv.2.2 c)⟩)
  ·cases e
 ·rename_i s _ p e1 e2;cases e1;cases e2;obtain⟨a,n,J,rfl,rfl,v,l⟩:=r1.lst_inv;obtain⟨b,o,Gs,rfl,rfl,hb,g⟩:=r2.lst_inv;obtain⟨_,d,_⟩:=oE e;refine .inr (.inr ⟨a,b,n,o,rfl,rfl,v,hb,?_,i4 same e (l.append g) (q ?_) k⟩)
  ·rw[Zo]at d;rw[l.len.1,g.len.1,← fu];exact d
  ·rw[Yf];exact(Yw _ _).append (Yw _ _)
 ·cases e
def sy:fP G (Jk λi j=>.int (i-j)) pJ:=by
 intro O U f H x y u w h g m t Q a e k;obtain⟨d,x⟩:=x;obtain⟨b,y⟩:=y;obtain⟨same,r1,r2,f1,f2,nd⟩:=a;unfold pJ at e;split at e
 ·rename_i e1 e2;cases e1;cases e2;cases e;exact⟨_,_,r1.int_inv,r2.int_inv,bA k (.int _)⟩
 ·cases e
def A3:fP G (rI DS λi j=>.int (i/j)) cn:=by
 intro O U f H x y u w l g m t Q a e k;obtain⟨d,x⟩:=x;obtain⟨b,y⟩:=y;obtain⟨same,r1,r2,f1,f2,nd⟩:=a;unfold cn at e;split at e
 ·rename_i e1 e2;cases e1;cases e2;split at e
  ·rename_i h;cases e;exact⟨_,_,r1.int_inv,r2.int_inv,h,bA k (.int _)⟩
  ·cases e
 ·cases e
def Dl:fP G (rI (λ_ j=>0<j) λi j=>.int (i%j)) oMod:=by
 intro O U f H x y u w l g m t Q a e k;obtain⟨d,x⟩:=x;obtain⟨b,y⟩:=y;obtain⟨same,r1,r2,f1,f2,nd⟩:=a;unfold oMod at e;split at e
 ·rename_i e1 e2;cases e1;cases e2;split at e
  ·rename_i h;cases e;exact⟨_,_,r1.int_inv,r2.int_inv,h,bA k (.int _)⟩
  ·cases e
 ·cases e
theorem lO:∀(s t:Tx),JN s t=decide (s<t)
 |[],[]=>by simp[JN]
 |[],_ :: _=>by simp[JN]
 |_ :: _,[]=>by simp[JN]
 |a :: s,b :: t=>by
  unfold JN;rw[lO s t];by_cases e:a<b
  ·simp[e,Xf]
  ·by_cases d:b<a
   ·have:¬a=b:=by exact Xp d
    simp[e,d,Xf,this]
   ·have:a=b:=by lia
    subst this;simp[Xf]
def R8:R2:=λx y H Q=>Jk (λi j=>.bl (decide (i<j))) x y H Q\/(∃i j,x=.str i/\y=.str j/\Q (.bl (decide (i.cps.toList<j.cps.toList))) H)
def pN:OpR X (SC .Lt) R8:=D6.or vp
def um:fP G R8 oLt:=by
 intro O U g H x y u w i h m t Q b e k;obtain⟨f,x⟩:=x;obtain⟨d,y⟩:=y;obtain⟨same,r1,r2,f1,f2,nd⟩:=b;unfold oLt at e;split at e
 ·rename_i e1 e2;cases e1;cases e2;cases e;exact .inl ⟨_,_,r1.int_inv,r2.int_inv,bA k (.bl _)⟩
 ·rename_i s _ a e1 e2;cases e1;cases e2;cases e;refine .inr ⟨_,_,r1.str_inv.1,r2.str_inv.1,?_⟩;have:decide ((sx s).cps.toList<(sx a).cps.toList)=JN s a:=by rw[lO];exact decide_eq_decide.mpr (by simp[sx])
  rw[this];exact bA k (.bl _)
 ·cases e
def iF:Tells oLt:=by
 intro x y m t e;unfold oLt at e;split at e<;>first | (cases e;exact⟨_,rfl⟩) | cases e
def Dq:OL=2 ^ 64:=rfl
def mI:fP G (rI AQ λi j=>.int (i*j)) k8:=by
 intro O U f H x y u w l g m t Q a e k;obtain⟨d,x⟩:=x;obtain⟨b,y⟩:=y;obtain⟨same,r1,r2,f1,f2,nd⟩:=a;unfold k8 at e;split at e
 ·rename_i e1 e2;cases e1;cases e2;split at e
  ·rename_i h;cases e;refine⟨_,_,r1.int_inv,r2.int_inv,?_,bA k (.int _)⟩;rw[Dq]at h;exact h
  ·cases e
 ·cases e
def uN:OpR X (SC .LtE) (λx y H Q=>∃i j,x=.str i/\y=.str j/\Q (.bl (!decide (j.cps.toList<i.cps.toList))) H):=by
 intro a s J H x y v u Q I d b h;obtain⟨i,j,rfl,rfl,q⟩:=h;obtain⟨t,rfl⟩:=d;obtain⟨e,rfl⟩:=b;exact PySem.P.le_str ⟨.bl _,H,I,rfl,q⟩
def R9:R2:=λx y H Q=>Jk (λi j=>.bl (decide (i<=j))) x y H Q\/(∃i j,x=.str i/\y=.str j/\Q (.bl (!decide (j.cps.toList<i.cps.toList))) H)
def BR:OpR X (SC .LtE) R9:=Eb.or uN
def EG:fP G R9 oLe:=by
 intro O U g H x y u w i h m t Q b e k;obtain⟨f,x⟩:=x;obtain⟨d,y⟩:=y;obtain⟨same,r1,r2,f1,f2,nd⟩:=b;unfold oLe at e;split at e
 ·rename_i e1 e2;cases e1;cases e2;cases e;exact .inl ⟨_,_,r1.int_inv,r2.int_inv,bA k (.bl _)⟩
 ·rename_i s _ a e1 e2;cases e1;cases e2;cases e;refine .inr ⟨_,_,r1.str_inv.1,r2.str_inv.1,?_⟩;have:decide ((sx a).cps.toList<(sx s).cps.toList)=JN a s:=by rw[lO];exact decide_eq_decide.mpr (by simp[sx])
  rw[this];exact bA k (.bl _)
 ·cases e
def x5:Tells oLe:=by
 intro x y m t e;unfold oLe at e;split at e<;>first | (cases e;exact⟨_,rfl⟩) | cases e
def sI{i:Int}:Hw n i=Mh n i:=by
 unfold Hw Mh;by_cases h:0<=i
 ·rw[Zn h,Zn h]
 ·rw[Zm h,Zm h];by_cases a:0<=i+n
  ·rw[Zn a,Zn (by lia)]
  ·rw[Zm a,Zm (by lia)]
def mV{α:Type}{l:List α}{i:Int}{k:Nat}{x:α}(b:Hw l.length i=Z k)(a:l[k]?=Z x):MS l i=Z x:=by
 unfold MS;rw[← sI,b];exact a
def cN{a:Xq}{F:W6}{i:Nat}(h:a[i]?=Z F):F.Sublist a.flatten:=by
 obtain⟨b,rfl⟩:=Zc.mp h;exact List.sublist_flatten_of_mem (Yy b)
theorem Fp.sub{F:W6}(h:F.Sublist d):∀{m:Md},Fp O U H m d->Fp O U H m F
 |.fr,f=>⟨f.1.sublist h,λa b=>f.2 a (h.subset b)⟩
 |.pu,f=>λa b=>f a (h.subset b)
 |.bo,f=>λa b=>f a (h.subset b)
def wG:fP G (PM G.K) aC:=by
 intro O U N H x y u w R P m t Q C e k;obtain⟨L,x⟩:=x;obtain⟨J,y⟩:=y;obtain⟨same,r1,r2,f1,f2,nd⟩:=C;unfold aC at e;split at e
 ·rename_i p l o i e1 e2;cases e1;cases e2;obtain⟨j,d,e⟩:=Zz.mp e;obtain⟨x,b,e⟩:=Zs.mp e;obtain⟨a,n,E,rfl,rfl,q,h⟩:=r1.lst_inv;obtain⟨v,F,s,r,g⟩:=h.get j b;refine .inl ⟨a,n,i,v,rfl,r2.int_inv,Gw.of q,mV (by rw[h.len.1];exact d) s,?_⟩;have f:=((f1.sub (Yw _ _)).sub (cN r)).up g;unfold VS.sub at e;rw[e]at f;have z:x=t:=congrArg Prod.snd e;rw[z]at g;exact k v H F (aJ.refl _) g f
 ·rename_i p l o i e1 e2;cases e1;cases e2;obtain⟨j,d,e⟩:=Zz.mp e;obtain⟨x,b,e⟩:=Zs.mp e;obtain⟨a,n,E,rfl,rfl,q,h⟩:=r1.GR;obtain⟨v,F,s,r,g⟩:=h.get j b;refine .inr (.inl ⟨a,n,i,v,rfl,r2.int_inv,GV.of q,mV (by rw[h.len.1];exact d) s,?_⟩);have f:=(f1.sub (cN r)).up g;unfold VS.sub at e;rw[e]at f;have z:x=t:=congrArg Prod.snd e;rw[z]at g;exact k v H F (aJ.refl _) g f
 ·rename_i p l o i e1 e2;cases e1;cases e2;obtain⟨j,d,e⟩:=Zz.mp e;obtain⟨x,b,e⟩:=Zs.mp e;cases e;obtain⟨a,rfl,rfl,sa⟩:=r1.K7;refine .inl ⟨a,l.map V.int,i,.int x,rfl,r2.int_inv,sa.seq,mV (by rw[Zx];exact d) (by rw[ZZ,b];rfl),bA k (.int _)⟩
 ·rename_i p l o i e1 e2;cases e1;cases e2;obtain⟨j,d,e⟩:=Zz.mp e;obtain⟨x,b,e⟩:=Zs.mp e;cases e;obtain⟨rfl,A⟩:=r1.str_inv;refine .inr (.inr ⟨sx l,i,x,rfl,r2.int_inv,by rw[dy,← fu];exact A.1,mV (k:=j) (by simpa[sx] using d) (by simpa[sx] using b),?_⟩);exact bA k (.str [x] ⟨by show 1<=dq;decide,λc D=>by rw[Zf.mp D];exact A.2 x (YK b)⟩)
 ·cases e
end
section
variable{X:Cx}
theorem tf:∀{l:Vq}{d:Xq},x∈Ha l d->∃(i:Nat)(v:Val)(F:W6),l[i]?=Z v/\v.1=.fr/\d[i]?=Z F/\x∈F
 |[],_,h=>by simp[Ha]at h
 |_ :: _,[],h=>by simp[Ha]at h
 |v :: l,F :: d,h=>by
  have go:x∈Ha l d->∃(i:Nat)(u:Val)(f:W6),(v :: l)[i]?=Z u/\u.1=.fr/\(F :: d)[i]?=Z f/\x∈f:=λm=>by
   obtain⟨i,u,f,q,o,n,j⟩:=tf m;exact⟨i+1,u,f,by simpa using q,o,by simpa using n,j⟩
  unfold Ha at h;split at h
  ·rename_i g;rcases ZW.mp h with h | h
   ·exact⟨0,v,F,rfl,g,rfl,h⟩
   ·exact go h
  ·exact go h
def ah:GY G X [] af:=PA.weak jh λJ H Q d=>by
 obtain⟨O,U,l,s,e,k⟩:=d;cases (show Z ([]:Vq)=Z l from e);exact k [] H [] (aJ.refl _) .nil ⟨λi v F h=>by simp at h,by simp[Ha]⟩
def ae(C:PV G X e ca)(w:GY G X es cs)(t:{`q2,K1 e es X}):GY G X (e :: es) (ab ca cs):=PA.weak (d7 C w t) λJ H Q A=>by
 obtain⟨O,U,l,s,e,k⟩:=A;unfold ab at e;obtain⟨x,N,e⟩:=Zz.mp e;obtain⟨j,L,e⟩:=Zz.mp e;cases e;refine⟨O,U,x.1,x.2,s,N,λv S F e1 r1 f1=>⟨O,U,j,s.same e1,L,λm P R e2 r2 f2=>k (v :: m) P (F :: R) (e1.trans e2) (.cons (r1.same e2) r2) ⟨λi u h g d=>?_,?_⟩⟩⟩
 ·cases i with
  |zero =>
   cases (show Z x=Z u from g);cases (show Z F=Z h from d);exact f1
  |succ i=>exact(f2.each i u h (by simpa using g) (by simpa using d)).back e1
 ·unfold Ha;split
  ·rename_i r;rw[r]at f1;refine ZQ.mpr ⟨f1.1,f2.nd,λy o z n q=>?_⟩;subst q;obtain⟨i,u,h,g,d,E,D⟩:=tf n;have f:=f2.each i u h g E;rw[d]at f;exact Gk.p0 (r1.GF y o) (f.2 y D)
  ·exact f2.nd
theorem jB:∀{l:Vq},b7 l=.fr->∀v∈l,v.1=.fr
 |[],_,v,h=>by simp at h
 | (m,t) :: r,e,v,h=>by
  have d:m.join (b7 r)=.fr:=e;have g:m=.fr:=by
   revert d;cases m<;>cases b7 r<;>simp[Md.join]
  have f:b7 r=.fr:=by
   revert d;cases m<;>cases b7 r<;>simp[Md.join]
  rcases Zj.mp h with rfl | h
  ·exact g
  ·exact jB f v h
theorem jF:∀{l:Vq},b7 l ≠ .bo->∀v∈l,v.1 ≠ .bo
 |[],_,v,h=>by simp at h
 | (m,t) :: r,e,v,h=>by
  have d:m.join (b7 r) ≠ .bo:=e;have g:m ≠ .bo:=by
   revert d;cases m<;>cases b7 r<;>simp[Md.join]
  have f:b7 r ≠ .bo:=by
   revert d;cases m<;>cases b7 r<;>simp[Md.join]
  rcases Zj.mp h with rfl | h
  ·exact g
  ·exact jF f v h
theorem uF:∀{l:Vq}{d:Xq},l.length=d.length->(∀v∈l,v.1=.fr)->Ha l d=d.flatten
 |[],[],_,_=>rfl
 |[],_ :: _,h,_=>by simp at h
 |_ :: _,[],h,_=>by simp at h
 |v :: l,F :: d,h,q=>by
  unfold Ha;rw[q v Zu,uF (by simpa using h) λu f=>q u (Zt _ f)];rfl
def fH{d:Xq}(h:x∈d.flatten):∃(i:Nat)(F:W6),d[i]?=Z F/\x∈F:=by
 obtain⟨F,j,f⟩:=Wi.mp h;obtain⟨i,g⟩:=List.mem_iff_getElem?.mp j;exact⟨i,F,g,f⟩
def KW.join(f:KW O U H l j)(n:l.length=j.length):Fp O U H (b7 l) j.flatten:=by
 have at':∀x∈j.flatten,∃v F,v∈l/\x∈F/\Fp O U H v.1 F:=λx d=>by
  obtain⟨i,F,m,g⟩:=fH d;have:i<l.length:=by
   have:=(Zc.mp m).1;lia
  exact⟨l[i],F,Yy this,g,f.each i _ F (Zq this) m⟩
 cases e:b7 l with
 |fr =>
  have al:=jB e;refine⟨by rw[← uF n al];exact f.nd,λx d=>?_⟩;obtain⟨v,F,h,g,q⟩:=at' x d;rw[al v h]at q;exact q.2 x g
 |pu =>
  have al:=jF (l:=l) (by rw[e];decide);intro x d;obtain⟨v,F,h,g,q⟩:=at' x d;exact Fp.pu (al v h) q x g
 |bo =>
  intro x d;obtain⟨v,F,h,g,q⟩:=at' x d;exact q.bo x g
structure Args(G:Gx)(O:Gn)(U:VS.Env)(H0 H:Hp)(l:Vq)(vs:List V)(Fs:Xq):Prop where
 same:aJ H0 H
 rp:RpL G H vs (trees l) Fs
 fp:KW O U H0 l Fs
theorem Args.len(A:Args G O U g H l f d):l.length=d.length:=by
 have:=A.rp.len.2;simp[trees]at this;exact Eq.symm this
def dW(G:Gx)(r:List V->Hp->VK->Prop)(f:Vq->Vp):Prop:=∀(O:Gn)(U:VS.Env)(h H:Hp)(l:Vq)(g:List V)(i:Xq)(m:Md)(t:T)(Q:VK),Args G O U h H l g i->f l=Z (m,t) →
 (∀v d F,aJ H d->Rp G d v t F->Fp O U h m F->Q v d)->r g H Q
def Bn(h:dW G r f)(s:SR G O U J H)(i:cs U=Z l)(e:f l=Z (m,t))(k:∀v d F,aJ H d->Rp G d v t F->Fp O U H m F->Q v d):MV G cs J H λg n=>r g n Q :=
 ⟨O,U,l,s,i,λg d o e1 r1 f1=>h O U H d l g o m t Q ⟨e1,r1,f1⟩ e λv j F e2 r2 f2=>k v j F (e1.trans e2) r2 f2⟩
def gx{f:Vq->Vp}(q:cB X (.builtin d) r)(g:dW G r f)(o:Gl X x)(n:X.mg x=Y)(h:bootBuiltins x=Z (.builtin d))(u:GY G X (e :: es) cs)(j:{`q1,x ≠ "__name__"})(w:{`q1,K3 x})(he:{`q2,K1 e es X})(hpl:{`q2,K2 pos es X}):PV G X (.Call (.Name x p) (e :: es) [] pos) (eN f cs) :=
 PE.weak (md q o n h u j w he hpl) λJ H Q i=>by
  obtain⟨O,U,m,t,s,e,k⟩:=i;unfold eN at e;obtain⟨l,v,e⟩:=Zz.mp e;exact Bn g s v e k
def iW{G:Gx}{es:List Expr}{cs:GG}{pos p:Pos}{r:List V->Hp->VK->Prop}{f:Vq->Vp}{Ty:String}{x:Str}(o:cB X (.type Ty) r)(d:dW G r f)(n:Gl X x)(j:X.mg x=Y)(g:bootBuiltins x=Z (.type Ty))(q:GY G X (e :: es) cs)(i:{`q1,x ≠ "__name__"})(v:{`q1,K3 x})(he:{`q2,K1 e es X})(hpl:{`q2,K2 pos es X}):PV G X (.Call (.Name x p) (e :: es) [] pos) (eN f cs) :=
 PE.weak (n9 o n j g q i v he hpl) λJ H Q h=>by
  obtain⟨O,U,m,t,s,e,k⟩:=h;unfold eN at e;obtain⟨l,u,e⟩:=Zz.mp e;exact Bn d s u e k
def dQ(h:GY G X es cs):PV G X (.List es pos) (gO cs):=PE.weak (C7 h) λJ H Q f=>by
 obtain⟨O,U,m,t,s,e,k⟩:=f;unfold gO at e;obtain⟨l,i,e⟩:=Zz.mp e;refine⟨O,U,l,s,i,λd n o e1 r1 f1=>?_⟩;have A:Args G O U H n l d o:=⟨e1,r1,f1⟩
 obtain⟨_,g,_⟩:=oE e;refine⟨by rw[r1.len.1,← fu];exact g,i4 e1 e r1 (f1.join A.len) λv j F e2 r2 f2=>k v j F (e1.trans e2) r2 f2⟩
def jA{x1}(h:GY G X es cs):PV G X (.Tuple es x1 pos) (ia cs):=PE.weak (BL h) λJ H Q d=>by
 obtain⟨O,U,m,t,s,e,k⟩:=d;unfold ia at e;obtain⟨l,n,e⟩:=Zz.mp e;refine⟨O,U,l,s,n,λf g i e1 r1 f1=>?_⟩;have A:Args G O U H g l f i:=⟨e1,r1,f1⟩
 unfold t4 at e;split at e
 ·rename_i j;cases e;refine⟨by rw[r1.len.1,← fu,trees,Zx];exact j,λq d=>?_⟩;have r2:Rp G (upd g q (.tup f)) (.ref q) (.tup (trees l)) i.flatten:=.tup ay (r1.same (bQ d));exact k _ _ _ (e1.trans (bQ d)) r2 (Fp.up (f1.join A.len) r2)
 ·cases e
def zN(r:Rp G H v t F)(h:Nl t=Z k):BV G.K v H k:=by
 cases r with
 |non=>cases h;rfl
 |bl b=>cases h;rfl
 |int i=>cases h;rfl
 |str s j =>
  cases h;refine⟨by rw[dy,← fu];exact j.1,?_⟩;rw[dy];cases s with
  |nil=>rfl
  |cons a r =>
   have:((List.length (a :: r):Int) != 0)=M:=by simp;lia
   rw[this];rfl
 |scr d=>cases h
 |tup d q =>
  cases h;refine .inr (.inl ⟨_,GV.of d,?_⟩);have:=q.len.1;rename_i f g _;cases f<;>cases g<;>simp_all
 |lst d q =>
  cases h;refine .inl ⟨_,Gw.of d,?_⟩;have:=q.len.1;rename_i f g _;cases f<;>cases g<;>simp_all
 |dct d j q =>
  cases h;refine .inr (.inr ⟨_,d,?_⟩);have:=q.len.1;rename_i l f g _;cases l<;>cases f<;>cases g<;>simp_all
 |dctT d j q=>cases h
 |dctN d j n q=>cases h
 |dctZ _ _ _=>cases h
 |exc _ _=>cases h
 |ins _ _ _ _=>cases h
 |mk _ _=>cases h
def t6(h:PV G X a ca)(d:{`q2,X.K=G.K})(he:{`q3,∀whole,isTrue a X.env whole=(do let v ← whole;standAt a.pos;holding [v] (truthy v))}):Iw G X a ca :=
 PT.weak (yM h he) λJ H Q ⟨O,U,m,r,b,s,e,f,k⟩=>⟨O,U,m,r,s,e,λv g F e1 r1 f1=>⟨b,by rw[d];exact zN r1 f,k g e1⟩⟩
def JH(G:Gx)(X:Cx)(e:Expr)(c:Ex):Prop:=PW X e (tT G c)
def PW.weak{X:Cx}{e:Expr}{t f:TT}(h:PW X e t)(w:∀J H Q,f J H Q->t J H Q):PW X e f:=λg d s J H Q I q=>h g d s J H Q I (w J H Q q)
def JH.L8(h:JH G X e ca):Iw G X e ca:=PW.pt h
def qm(e:iC ca cb U=Z (m,r)):(∃n,ca U=Z (n,.bl M)/\cb U=Z (m,r))\/(∃n,ca U=Z (n,.bl B)/\m=.fr/\r=.bl B):=by
 unfold iC at e;obtain⟨⟨n,x⟩,d,e⟩:=Zz.mp e;split at e
 ·rename_i h;cases (show x=.bl M from h);exact .inl ⟨n,d,e⟩
 ·rename_i h;cases (show x=.bl B from h);cases e;exact .inr ⟨n,d,rfl,rfl⟩
 ·cases e
def A0(e:KR ca cb U=Z (m,r)):(∃n,ca U=Z (n,.bl B)/\cb U=Z (m,r))\/(∃n,ca U=Z (n,.bl M)/\m=.fr/\r=.bl M):=by
 unfold KR at e;obtain⟨⟨n,x⟩,d,e⟩:=Zz.mp e;split at e
 ·rename_i h;cases (show x=.bl M from h);cases e;exact .inr ⟨n,d,rfl,rfl⟩
 ·rename_i h;cases (show x=.bl B from h);exact .inl ⟨n,d,e⟩
 ·cases e
def pO{G:Gx}{a:Expr}{ca cb:Ex}{pos:Pos}{rest:List Expr}(j:Iw G X a ca)(i:JH G X (.BoolOp .And (b :: rest) pos) cb):JH G X (.BoolOp .And (a :: b :: rest) pos) (iC ca cb) :=
 PW.weak (Cm j i) λJ H Q h=>by
  obtain⟨O,U,m,r,k,s,e,f,q⟩:=h;rcases qm e with⟨n,d,e2⟩ | ⟨n,d,rfl,rfl⟩
  ·refine⟨O,U,n,_,M,s,d,rfl,λg e1=>?_⟩;refine Ah ?_;exact⟨O,U,m,r,k,s.same e1,e2,f,λl e2=>q l (e1.trans e2)⟩
  ·refine⟨O,U,n,_,B,s,d,rfl,λg e1=>?_⟩;refine Al ?_;cases f;exact q g e1
def oZ{G:Gx}{a:Expr}{ca cb:Ex}{pos:Pos}{rest:List Expr}(j:Iw G X a ca)(i:JH G X (.BoolOp .Or (b :: rest) pos) cb):JH G X (.BoolOp .Or (a :: b :: rest) pos) (KR ca cb) :=
 PW.weak (Ep j i) λJ H Q h=>by
  obtain⟨O,U,m,r,k,s,e,f,q⟩:=h;rcases A0 e with⟨n,d,e2⟩ | ⟨n,d,rfl,rfl⟩
  ·refine⟨O,U,n,_,B,s,d,rfl,λg e1=>?_⟩;refine Al ?_;exact⟨O,U,m,r,k,s.same e1,e2,f,λl e2=>q l (e1.trans e2)⟩
  ·refine⟨O,U,n,_,M,s,d,rfl,λg e1=>?_⟩;refine Ah ?_;cases f;exact q g e1
def q9(e:oH ca U=Z (m,r)):∃n b,ca U=Z (n,.bl b)/\m=.fr/\r=.bl (!b):=by
 unfold oH at e;obtain⟨⟨n,x⟩,d,e⟩:=Zz.mp e;split at e
 ·rename_i b h;cases (show x=.bl b from h);cases e;exact⟨n,b,d,rfl,rfl⟩
 ·cases e
def o9(f:Iw G X a ca):Iw G X (.UnaryOp .Not a pos) (oH ca):=PT.weak (BD f) λJ H Q d=>by
 obtain⟨O,U,m,r,k,s,e,g,q⟩:=d;obtain⟨n,b,h,rfl,rfl⟩:=q9 e;cases g;exact⟨O,U,n,_,b,s,h,rfl,λi e1=>q i e1⟩
def C5(f:PV G X a ca):PV G X (.UnaryOp .Not a pos) (oH ca):=PE.weak (BN f) λJ H Q d=>by
 obtain⟨O,U,m,r,s,e,q⟩:=d;obtain⟨n,b,g,rfl,rfl⟩:=q9 e;exact⟨O,U,n,_,s,g,λv h F e1 r1 f1=>⟨b,r1.Hb,q _ h _ e1 (.bl _) Fp.nil⟩⟩
def Cf{op}(h:PV G X a ca):PV G X (.BoolOp op [a] pos) ca:=Dm h
def B0{G:Gx}{a:Expr}{ca cb:Ex}{pos:Pos}{rest:List Expr}(i:PV G X a ca)(h:PV G X (.BoolOp .And (b :: rest) pos) cb):PV G X (.BoolOp .And (a :: b :: rest) pos) (iC ca cb) :=
 PE.weak (CB i h) λJ H Q g=>by
  obtain⟨O,U,m,r,s,e,q⟩:=g;rcases qm e with⟨n,d,e2⟩ | ⟨n,d,rfl,rfl⟩
  ·refine⟨O,U,n,_,s,d,λv f F e1 r1 f1=>⟨M,r1.Hb,?_⟩⟩;refine Ah ?_;exact⟨O,U,m,r,s.same e1,e2,λv j F e2 r2 f2=>q v j F (e1.trans e2) r2 (f2.back e1)⟩
  ·refine⟨O,U,n,_,s,d,λv f F e1 r1 f1=>⟨B,r1.Hb,?_⟩⟩;refine Al ?_;exact q _ f _ e1 (.bl _) Fp.nil
def tQ(r:Rp G H v t F):decide (v=.non)=MZ t:=by
 cases r<;>simp[MZ]
def Bx{c:Ex}(h:tT G c J H Q)(f:∀U m r,c U=Z (m,r)->∃b,r=.bl b)(w:∀Q,tE G c J H Q->t J H Q):tB t J H Q:=by
 obtain⟨O,U,m,r,b,s,e,d,k⟩:=h;refine w _ ⟨O,U,m,r,s,e,λv j F e1 r1 f1=>?_⟩;obtain⟨i,g⟩:=f U m r e;rw[g]at d r1;cases (show Z i=Z b from d);exact⟨_,r1.Hb,k j e1⟩
end
section
variable{X:Cx}
def RpL.one{vs:List V}{Fs:Xq}(r:RpL G H vs [t] Fs):∃v F,vs=[v]/\Fs=[F]/\Rp G H v t F:=by
 cases r with
 |cons r q=>cases q;exact⟨_,_,rfl,rfl,r⟩
def RpL.two(r:RpL G H g [t,h] i):∃v d F f,g=[v,d]/\i=[F,f]/\Rp G H v t F/\Rp G H d h f:=by
 cases r with
 |cons r q =>
  obtain⟨d,f,rfl,rfl,j⟩:=q.one;exact⟨_,_,_,_,rfl,rfl,r,j⟩
def DO(K:X3):List V->Hp->VK->Prop:=λd H Q=>(∃x n,d=[x]/\DV K x H n/\Q (.int n) H)\/(∃a f,d=[V.ref a]/\H a=Z (.dK f)/\Q (.int f.length) H)
def rX:cB X (.builtin "len") (λf H Q=>∃a d,f=[V.ref a]/\H a=Z (.dK d)/\Q (.int d.length) H):=by
 intro g s J H f m Q I r h;obtain⟨a,d,rfl,j,q⟩:=h;obtain⟨u,rfl,i⟩:=vals1 r;cases i;exact Et I (.inl j) λt n l=>⟨.int d.length,H,l,⟨t,rfl⟩,q⟩
def uP:cB X (.builtin "len") (DO X.K):=wR.or rX
def Ce:dW G (DO G.K) bX:=by
 intro O U D H l j o m t Q A e k;refine L2.jL λC f=>?_;unfold bX at e;split at e
 ·rename_i x;obtain⟨y,x⟩:=x;obtain⟨n,d,e⟩:=Zs.mp e;cases e;obtain⟨v,F,rfl,rfl,r⟩:=(show RpL G H j [x] o from A.rp).one;have fin:Q (.int (n:Int)) H:=bA k (.int _);cases r with
  |non=>cases d
  |bl b=>cases d
  |int i=>cases d
  |str s g =>
   cases d;refine f ?_;exact .inl ⟨_,_,rfl,⟨by rw[dy,← fu];exact g.1,rfl⟩,by rw[dy];exact fin⟩
  |scr h =>
   cases d;refine f ?_;refine .inl ⟨_,_,rfl,.inl ⟨_,h.seq,rfl⟩,?_⟩;rw[Zx];exact fin
  |tup h q =>
   cases d;refine f ?_;refine .inl ⟨_,_,rfl,.inr ⟨_,GV.of h,rfl⟩,?_⟩;rw[q.len.1];exact fin
  |lst h q =>
   cases d;refine f ?_;refine .inl ⟨_,_,rfl,.inl ⟨_,Gw.of h,rfl⟩,?_⟩;rw[q.len.1];exact fin
  |dct h g q =>
   cases d;refine f ?_;refine .inr ⟨_,_,rfl,h,?_⟩;rename_i z u w _;have e1:=q.len.1;rw[Yo,Zx]at fin;rw[Yo,e1];exact fin
  |dctT h g q=>cases d
  |dctN h g n q=>cases d
  |dctZ _ _ _=>cases d
  |exc _ _=>cases d
  |ins _ _ _ _=>cases d
  |mk _ _=>cases d
 ·cases e
def AJ:dW G (λd H Q=>∃i j,d=[.int i,.int j]/\Q (.int (if j > i then j else i)) H) pZ:=by
 intro O U o H l f h m t Q A e k;unfold pZ at e;split at e
 ·rename_i _ i _ j;cases e;obtain⟨v,n,F,q,rfl,rfl,r,g⟩:=(show RpL G H f [.int i,.int j] h from A.rp).two;exact⟨i,j,by rw[r.int_inv,g.int_inv],bA k (.int _)⟩
 ·cases e
def zq:dW G (λd H Q=>∃i j,d=[.int i,.int j]/\Q (.int (if j<i then j else i)) H) rn:=by
 intro O U o H l f h m t Q A e k;unfold rn at e;split at e
 ·rename_i _ i _ j;cases e;obtain⟨v,n,F,q,rfl,rfl,r,g⟩:=(show RpL G H f [.int i,.int j] h from A.rp).two;exact⟨i,j,by rw[r.int_inv,g.int_inv],bA k (.int _)⟩
 ·cases e
def Bp(K:X3):List V->Hp->VK->Prop:=λf H Q=>∃p d,f=[.ref p]/\(Gw K H p d\/GV K H p d)/\∀l,H l=Y->Q (.ref l) (upd H l (.lst d))
def uB:dW G (Bp G.K) Br:=by
 intro O U q H l j n m t Q A e k;unfold Br at e;split at e
 ·rename_i o x;obtain⟨v,F,rfl,rfl,g⟩:=(show RpL G H j [.lst x] n from A.rp).one;obtain⟨a,d,Gs,rfl,rfl,i,h⟩:=g.lst_inv;have f:=A.fp.each 0 _ _ L L;exact⟨a,d,rfl,.inl (Gw.of i),i4 A.same e h (f.sub (Yw _ _)) k⟩
 ·rename_i o x;obtain⟨v,F,rfl,rfl,g⟩:=(show RpL G H j [.tup x] n from A.rp).one;obtain⟨a,d,Gs,rfl,rfl,i,h⟩:=g.GR;have f:=A.fp.each 0 _ _ L L;exact⟨a,d,rfl,.inr (GV.of i),i4 A.same e h f k⟩
 ·cases e
def tO(G:Gx)(c:Option Ex):TO:=λJ H Q=>∃O U o,SR G O U J H/\tu c U=Z o/\∀d,aJ H d->Q o d
def Pq(G:Gx)(X:Cx)(e:Option Expr)(c:Option Ex):Prop:=PO X e (tO G c)
def PO.weak{X:Cx}{e:Option Expr}{t f:TO}(h:PO X e t)(w:∀J H Q,f J H Q->t J H Q):PO X e f:=λd s J H Q I q=>h d s J H Q I (w J H Q q)
def p5:Pq G X Y Y:=PO.weak y0 λJ H Q d=>by
 obtain⟨O,U,o,s,e,k⟩:=d;cases (show Z (Y:Option Int)=Z o from e);exact k H (aJ.refl _)
def p7(h:PV G X a ca):Pq G X (Z a) (Z ca):=PO.weak (zI h) λJ H Q f=>by
 obtain⟨O,U,o,s,e,k⟩:=f;obtain⟨⟨m,y⟩,g,e⟩:=Zz.mp (show (ca U).bind (λy=>(int? y.2).map Z)=Z o from e);obtain⟨i,d,e⟩:=Zs.mp e;cases e;refine⟨O,U,m,y,s,g,λv l F e1 r1 f1=>?_⟩;cases y with
 |int j =>
  cases d;exact⟨_,r1.int_inv,k l e1⟩
 |_=>cases d
def j6{α:Type}(l:List α)(d f:Option Int):cut l d f=(l.drop (HT.Gc l.length 0 d)).take (HT.Gc l.length l.length f-HT.Gc l.length 0 d):=by
 unfold cut;cases d<;>cases f<;>rfl
def O9(a:Int)(n:Nat):max 0 (min a (n:Int))=((min a.toNat n:Nat):Int):=by omega
def zd(a:Int)(n:Nat):max 0 (min a (n:Int))=max 0 (min ((min a.toNat n:Nat):Int) (n:Int)):=by
 rw[O9,O9,YX,Nat.min_assoc,XE]
def xk(d f:Option Int)(n:Nat):Builtin.Str.strSliceIndices d f 1 n=Builtin.Str.strSliceIndices (Z ((min (HT.Gc n 0 d) n:Nat):Int)) (Z ((min (HT.Gc n n f) n:Nat):Int)) 1 n:=by
 have nn:∀k:Nat,¬((k:Int)<0):=λk=>by lia
 unfold Builtin.Str.strSliceIndices;simp only[show (1:Int) > 0 by decide,if_true,nn,if_false];congr 1
 ·cases d with
  |none=>simp only[HT.Gc];rw[O9,YX,Nat.zero_min,Nat.zero_min];rfl
  |some i =>
   simp only[HT.Gc];by_cases h:i<0
   ·simp only[h,if_true];exact zd _ _
   ·simp only[h,if_false];rw[Nat.min_assoc,XE];exact zd _ _
 ·cases f with
  |none=>simp only[HT.Gc];rw[O9,YX,XE,XE]
  |some i =>
   simp only[HT.Gc];by_cases h:i<0
   ·simp only[h,if_true];exact zd _ _
   ·simp only[h,if_false];rw[Nat.min_assoc,XE];exact zd _ _
def nJ(s:Tx)(d f:Option Int):PySem.StrLaws.sliceText (sx s) d f=sx (cut s d f):=by
 have key:PySem.StrLaws.sliceText (sx s) d f=PySem.StrLaws.sliceText (sx s) (Z ((min (HT.Gc s.length 0 d) s.length:Nat):Int)) (Z ((min (HT.Gc s.length s.length f) s.length:Nat):Int)):=by
  unfold PySem.StrLaws.sliceText;rw[dy,xk]
 rw[key];have hd:∀a:Nat,s.drop (min a s.length)=s.drop a:=λa=>by
  by_cases h:a<=s.length
  ·rw[Wy h]
  ·rw[W9 (by exact X5 h),Xn (Zl _),Xn (by exact X5 h)]
 by_cases h:min (HT.Gc s.length 0 d) s.length<=min (HT.Gc s.length s.length f) s.length
 ·rw[PySem.StrLaws.sliceText_nat (sx s) h (by rw[dy];exact W8 _ _),j6];show (⟨_⟩:Str)=⟨_⟩;congr 2;show ((sx s).cps.toList.drop _).take _=_;have:(sx s).cps.toList=s:=rfl;rw[this,hd];by_cases i:HT.Gc s.length 0 d<=s.length
  ·rw[Wy i];by_cases g:HT.Gc s.length s.length f<=s.length
   ·rw[Wy g]
   ·rw[W9 (by exact X5 g),Wf (by rw[XR];exact Zl _),Wf (by rw[XR];lia)]
  ·rw[Xn (by exact X5 i)];simp
 ·have j:cut s d f=[]:=by
   rw[j6];have:HT.Gc s.length s.length f-HT.Gc s.length 0 d=0:=by omega
   rw[this,List.take_zero]
  rw[j];unfold PySem.StrLaws.sliceText;have e2:Builtin.Str.strSliceIndices (Z ((min (HT.Gc s.length 0 d) s.length:Nat):Int)) (Z ((min (HT.Gc s.length s.length f) s.length:Nat):Int)) 1 (sx s).length=[]:=by
   have e1:∀k:Nat,¬((k:Int)<0):=λk=>by lia
   unfold Builtin.Str.strSliceIndices sliceRange;simp only[show (1:Int) > 0 by decide,if_true,e1,if_false,dy];rw[Zm (by omega)];rfl
  rw[e2];have:¬((1:Int)==1&&([]:Vv).length==(sx s).length)=M:=by
   rw[dy];simp;lia
  rw[Zm this];rfl
noncomputable def Eo:V->Option Int->Option Int->Hp->VK->Prop:=λx lo d H Q=>∃z,x=.str z/\z.length<=KB/\Q (.str (PySem.StrLaws.sliceText z lo d)) H
def part_of(h:IsPart v o):∃q:Option (Int×Tok),v=partValue q/\o=q.map (·.1):=by
 cases h with
 |none=>exact⟨Y,rfl,rfl⟩
 |int i t=>exact⟨Z (i,t),rfl,rfl⟩
def pq{α β:Type}(f:α->Option β)(l:List α):(l.filterMap f).length<=l.length:=List.length_filterMap_le f l
def Aq(d f:Option Int)(n:Nat):(Builtin.Str.strSliceIndices d f 1 n).length<=n:=by
 rw[xk];by_cases h:min (HT.Gc n 0 d) n<=min (HT.Gc n n f) n
 ·rw[PySem.StrLaws.strSliceIndices_plain h (by exact W8 _ _),Zx,Z3];lia
 ·have e1:∀k:Nat,¬((k:Int)<0):=λk=>by lia
  unfold Builtin.Str.strSliceIndices sliceRange;simp only[show (1:Int) > 0 by decide,if_true,e1,if_false];rw[Zm (by omega)];simp
def C3:Lo X Eo:=by
 intro f s J H x v n m lo r o Q I g j pl pu h;obtain⟨z,rfl,i,q⟩:=h;obtain⟨t,rfl⟩:=g;obtain⟨l,rfl,rfl⟩:=part_of pl;obtain⟨u,rfl,rfl⟩:=part_of pu;refine⟨"str",_,F.slot_str_getitem.lookup,typeIs_str s z t,wpAny_getItem_str_slice (l:=l) (u:=u) (st:=Y) j L ?_⟩;unfold sliceMade;split
 ·rename_i d;refine⟨.str z,H,I,⟨t,rfl⟩,?_⟩;have e:PySem.StrLaws.sliceText z (l.map (·.1)) (u.map (·.1))=z:=by
   unfold PySem.StrLaws.sliceText;exact Zn d
  rw[e]at q;exact q
 ·rename_i d;refine⟨Z2 ?_ i,.str _,H,I.tok _,⟨_,rfl⟩,?_⟩
  ·show (List.filterMap _ _).toArray.size<=_;rw[Zb];exact Z2 (pq _ _) (Aq _ _ _)
  ·have e:PySem.StrLaws.sliceText z (l.map (·.1)) (u.map (·.1))=⟨((slicePicked z l u Y).filterMap (z.cps[·]?)).toArray⟩:=by
    unfold PySem.StrLaws.sliceText;exact Zm d
   rw[e]at q;exact q
def Ur(K:X3):V->Option Int->Option Int->Hp->VK->Prop:=λx lo d H Q=>Eo x lo d H Q\/Ed K x lo d H Q
def FM:Lo X (Ur X.K):=C3.or zk
def Az{α:Type}(l:List α)(d f:Option Int):(cut l d f).length<=l.length:=by
 rw[j6,XS,XR];lia
theorem RpL.cut(r:RpL G H g i j)(d f:Option Int):RpL G H (nB g d f) (VS.cut i d f) (VS.cut j d f):=by
 have h:=r.len;rw[j6,j6,h.2];unfold nB;rw[h.1];exact(r.drop _).take _
def tV{α:Type}(l:List α)(d f:Option Int):(VS.cut l d f).Sublist l:=by
 rw[j6];exact(WA _ _).trans (List.drop_sublist _ _)
def ym{F G:Xq}(h:F.Sublist G):F.flatten.Sublist G.flatten:=by
 induction h with
 |slnil=>exact XC _
 |cons a _ d=>rw[ZI];exact d.trans (YA _ _)
 |cons_cons a _ d=>rw[ZI,ZI];exact(XC _).append d
def wx(ha:PV G X a ca)(d:Pq G X j r)(R:Pq G X n u)(hK:{`q2,X.K=G.K}):PV G X (.Subscript a (.Slice j n Y E) pos) (Oi ca r u) :=
 PE.weak (qL FM ha d R) λJ H Q P=>by
  obtain⟨O,U,m,t,s,e,k⟩:=P;unfold Oi at e;obtain⟨⟨L,x⟩,ea,o⟩:=Zz.mp e;obtain⟨l,el,w⟩:=Zz.mp o;obtain⟨h,eh,f⟩:=Zz.mp w;clear e o w;refine⟨O,U,L,x,s,ea,λv H1 F e1 r1 f1=>⟨O,U,l,s.same e1,el,λH2 e2=>⟨O,U,h,(s.same e1).same e2,eh,λy e3=>?_⟩⟩⟩;have g:aJ H y:=(e1.trans e2).trans e3;have i:=(r1.same e2).same e3;unfold Sh at f;split at f
  ·rename_i N z q;cases q;cases f;obtain⟨rfl,d⟩:=i.str_inv;refine .inl ⟨_,rfl,by rw[dy,← fu];exact d.1,?_⟩;rw[nJ];exact k _ y _ g (.str _ ⟨Z2 (Az _ _ _) d.1,λc S=>d.2 c ((tV _ _ _).subset S)⟩) Fp.nil
  ·rename_i N z q;cases q;obtain⟨a',A,Fs,rfl,rfl,GE,C⟩:=i.lst_inv;refine .inr ⟨a',A,rfl,by rw[hK];exact Gw.of GE,i4 g f (C.cut l h) ((f1.sub (Yw _ _)).sub (ym (tV _ _ _))) λv H4 F e5 D f4=>k v H4 F (g.trans e5) D f4⟩
  ·cases f
noncomputable def JL:Ty->String
 |.int => "int"
 |.str => "str"
 |.bool => "bool"
 |.list => "list"
 |.tuple => "tuple"
 |.dict => "dict"
def Us(K:X3):List V->Hp->VK->Prop:=λd H Q=>∃x c t b,d=[x,.ty c]/\Hm K H x t/\PySem.W.kitOne K t (.type c)=Z b/\Q (.bl b) H
def zU:cB X (.builtin "isinstance") (Us X.K):=by
 intro d s J H f i Q I r h;obtain⟨x,c,t,b,rfl,ty,e,q⟩:=h;obtain⟨u,g,rfl,r1,r2⟩:=vals2 r;cases r2;exact u0 I r1 ty e λj=>⟨.bl b,H,I.tok _,rfl,q⟩
def A1(K:X3)(d:Ty):(PySem.W.kitOne K (.type "NoneType") (.type (JL d))=Z B)/\(PySem.W.kitOne K (.type "bool") (.type (JL d))=Z (pY d (.bl M)))/\(PySem.W.kitOne K (.type "int") (.type (JL d))=Z (pY d (.int 0))) ∧
  (PySem.W.kitOne K (.type "str") (.type (JL d))=Z (pY d (.str [])))/\(PySem.W.kitOne K (.type "list") (.type (JL d))=Z (pY d (.lst [])))/\(PySem.W.kitOne K (.type "tuple") (.type (JL d))=Z (pY d (.tup [])))/\(PySem.W.kitOne K (.type "dict") (.type (JL d))=Z (pY d (.dct 0 []))):=by
 cases d<;>refine⟨?_,?_,?_,?_,?_,?_,?_⟩<;>kernel_rfl
def E2(d:Ty)(r:Rp G H v t F)(h:uj t=M):∃g,Hm G.K H v g/\PySem.W.kitOne G.K g (.type (JL d))=Z (pY d t):=by
 obtain⟨z,y,w,u,o,m,j⟩:=A1 G.K d;cases r with
 |non=>exact⟨_,.non,by rw[z];cases d<;>rfl⟩
 |bl b=>exact⟨_,.bl b,by rw[y];cases d<;>rfl⟩
 |int i=>exact⟨_,.int i,by rw[w];cases d<;>rfl⟩
 |str s _=>exact⟨_,.str _,by rw[u];cases d<;>rfl⟩
 |scr _=>cases h
 |tup f q=>exact⟨_,.tup f,by rw[m];cases d<;>rfl⟩
 |lst f q=>exact⟨_,.lst f,by rw[o];cases d<;>rfl⟩
 |dct f l q=>exact⟨_,.dK f,by rw[j];cases d<;>rfl⟩
 |dctT f l q=>exact⟨_,.dT f,by rw[j];cases d<;>rfl⟩
 |dctN f l n q=>simp at h
 |dctZ _ _ _=>cases h
 |exc _ _=>cases h
 |ins _ _ _ _=>cases h
 |mk _ _=>cases h
def EW(f:Ty)(C:PV G X a ca)(A:Gl X "isinstance")(w:X.mg "isinstance" = Y)(P:Gl X x)(R:X.mg x=Y)(q:bootBuiltins x=Z (.type (JL f)))(j:{`q2,X.K=G.K})(u:{`q1,x ≠ "__name__"})(Hq:{`q1,K3 x})(i:{`q2,Pi [a,.Name x d] X.env=(B,eval a X.env) :: Pi [.Name x d] X.env})(S:{`q2,Pi [.Name x d] X.env=(B,eval (.Name x d) X.env) :: Pi [] X.env})(g:{`q2,(backTo pos (Pi [Expr.Name x d] X.env)).any (·.1)=B}) :
  PV G X (.Call (.Name "isinstance" n) [a,.Name x d] [] pos) (Oj f ca) :=
 PE.weak (md zU A w boot_isinstance (d7 C (d7 (zO (v:=.ty (JL f)) P R q L u Hq) jh S) i) (by decide) L i g) λJ H Q r=>by
  obtain⟨O,U,m,t,s,e,k⟩:=r;unfold Oj at e;obtain⟨⟨o,y⟩,N,h⟩:=Zz.mp e;split at h
  ·rename_i z;cases h;refine⟨O,U,o,y,s,N,λv H' F e1 r1 f1=>?_⟩;obtain⟨l,E,D⟩:=E2 f r1 z;exact⟨v,JL f,l,_,rfl,by rw[j];exact E,by rw[j];exact D,k _ H' _ e1 (.bl _) Fp.nil⟩
  ·cases h
end
section
variable{X:Cx}
def EC(G:Gx)(r:V->List V->Hp->VK->Prop)(f:Val->Vq->Vp):Prop:=∀(O:Gn)(U:VS.Env)(d i H:Hp)(x:Val)(v:V)(F:W6)(l:Vq)(h:List V)(j:Xq)(m:Md)(t:T)(Q:VK),
 aJ d i->Rp G H v x.2 F->Fp O U d x.1 F->Args G O U i H l h j->f x l=Z (m,t)->(∀v g F,aJ H g->Rp G g v t F->Fp O U d m F->Q v g)->r v h H Q
def Fh{g:Pos}(A:PlainAttrs n)(h:Slot n d j)(KD:typeOf (.builtin j)=pure (.type "method_descriptor"))(N:OG X j r)(C:EC G r f)(R:∀H v (x:Val) F l z,Rp G H v x.2 F->f x l=Z z->Ls G.K n v H)(L:PV G X a ca)(P:GY G X (e :: es) cs)(S:{`q2,X.K=G.K})(Gr:{`q2,UF a d X.env (eval a X.env)=eval a X.env})(GI:{`q2,((backTo i (Pi (e :: es) X.env)).all (λx=>!x.1)&&(backToKw i (SB [] X.env)).all (λx=>x.1.isSome)
   && decide ((e :: es).length+([]:List Keyword).length+(if ([]:List Keyword).isEmpty then 0 else 1)<30))=M})(Gd:{`q2,(g.endLine==i.line)=M})(D:{`q2,K1 e es X})(Gm:{`q2,K2 i es X}) :
  PV G X (.Call (.Attribute a d g) (e :: es) [] i) (eM f ca cs) :=
 PE.weak (nX A h KD N L P Gr GI Gd D Gm) λJ H Q E=>by
  obtain⟨O,U,m,t,s,e,k⟩:=E;unfold eM at e;obtain⟨x,ea,e'⟩:=Zz.mp e;obtain⟨l,el,o⟩:=Zz.mp e';refine⟨O,U,x.1,x.2,s,ea,λv q F e1 r1 f1=>⟨by rw[S];exact R q v x F l _ r1 o,O,U,l,s.same e1,el,λu H2 Fs e2 r2 f2=>?_⟩⟩;exact C O U H q H2 x v F l u Fs m t Q e1 (r1.same e2) f1 ⟨e2,r2,f2⟩ o λw H3 F' e3 y f3=>k w H3 F' ((e1.trans e2).trans e3) y f3
def Ae:∀(sep:Tx)(d:List Tx),Txt.join (sx sep) (d.map sx)=sx (cZ sep d):=by
 intro sep d;have fold:∀(l:List Tx)(acc:Tx),(l.map sx).foldl (λacc p=>acc++(sx sep).cps++p.cps) acc.toArray=(l.foldl (λacc p=>acc++sep++p) acc).toArray:=by
  intro l
  induction l with
  |nil=>intro acc;rfl
  |cons x r f =>
   intro acc;rw[Zi,Y2,Y2,← f];congr 1;simp[sx]
 have g:∀(r:List Tx)(acc:Tx),r.foldl (λacc p=>acc++sep++p) acc=cZ sep (acc :: r):=by
  intro r
  induction r with
  |nil=>intro acc;rfl
  |cons x r f =>
   intro acc;rw[Y2,f];cases r with
   |nil=>rfl
   |cons y r=>simp[cZ]
 cases d with
 |nil=>rfl
 |cons x r =>
  show (⟨_⟩:Str)=⟨_⟩;congr 1;show ((r.map sx).foldl _ x.toArray)=_;rw[fold,g]
theorem k9:∀{d:List V}{l:Vo}{g:Xq}{f:List Tx},RpL G H d l g->strs? l=Z f->d=f.map λs=>V.str (sx s)
 |_,_,_,_,.nil,e=>by cases e;rfl
 |_,_,_,_,.cons (t:=t) r q,e=>by
  cases t with
  |str s =>
   obtain⟨h,e1,e2⟩:=Zs.mp e;subst e2;rw[k9 q e1,r.str_inv.1];rfl
  |_=>cases e
theorem mW:∀{d:List Tx}{f:Vx},aO (d.map λs=>V.str (sx s)) f->StrsAre f (d.map sx)
 |[],_,h=>by cases h;exact .nil
 |s :: d,_,h=>by
  cases h with
  |cons r q =>
   obtain⟨t,rfl⟩:=r;exact .cons _ _ (mW q)
def rJoin(K:X3):V->List V->Hp->VK->Prop:=λx f H Q=>∃sep p d,x=.str (sx sep)/\f=[.ref p]/\Gw K H p (d.map λs=>V.str (sx s))/\total d+d.length*sep.length<=16777216/\Q (.str (sx (cZ sep d))) H
theorem tD:∀d:List Tx,((d.map sx).map (·.length)).sum=total d
 |[]=>rfl
 |s :: r=>by
  rw[Zi,Zi,X6,tD r,dy];rfl
def za:OG X "str.join" (rJoin X.K):=by
 intro d s J H x n v o Q I g m h;obtain⟨sep,p,f,rfl,rfl,j,l,q⟩:=h;obtain⟨t,rfl⟩:=g;obtain⟨u,rfl,i⟩:=vals1 m;cases i;obtain⟨y,r,pl,z⟩:=I.list j;refine join_list pl.isList (ys:=f.map sx) (by simpa using mW r) ?_ λw k=>⟨.str _,H,I.tok _,⟨_,by rw[Ae]⟩,q⟩
 rw[tD,Zx,dy];exact l
theorem l7(d:Tx):∀f:List Tx,(cZ d f).length<=total f+f.length*d.length
 |[]=>by simp[cZ,total]
 |[x]=>by simp[cZ,total]
 |x :: y :: r=>by
  have:=l7 d (y :: r);simp only[cZ,total,Zo,ZX]at this ⊢;have e:(r.length+1+1)*d.length=(r.length+1)*d.length+d.length:=Nat.succ_mul _ _;lia
theorem lG(d:Tx):∀(f:List Tx)(c:Nat),c∈cZ d f->c∈d\/∃s∈f,c∈s
 |[],c,h=>by simp[cZ]at h
 |[x],c,h=>.inr ⟨x,Zu,h⟩
 |x :: y :: r,c,h=>by
  simp only[cZ,ZW]at h;rcases h with (h | h) | h
  ·exact .inr ⟨x,Zu,h⟩
  ·exact .inl h
  ·exact(lG d (y :: r) c h).imp id λ⟨s,g,i⟩=>⟨s,Zt _ g,i⟩
theorem nk:∀{g:List V}{l:Vo}{h:Xq}{f:List Tx},RpL G H g l h->strs? l=Z f->∀s∈f,∀c∈s,c<1114112
 |_,_,_,_,.nil,e,s,d=>by cases e;simp at d
 |_,_,_,_,.cons (t:=t) r q,e,s,d=>by
  cases t with
  |str x =>
   obtain⟨i,e1,e2⟩:=Zs.mp e;subst e2;rcases Zj.mp d with rfl | d
   ·exact r.str_inv.2.2
   ·exact nk q e1 s d
  |_=>cases e
def zL:EC G (rJoin G.K) gf:=by
 intro O U R P H x v F l o E m t Q q r f A e k;unfold gf at e;split at e
 ·rename_i N sep ml w;obtain⟨d,n,g⟩:=Zz.mp e;split at g
  ·rename_i i;cases g;obtain⟨L,S,rfl,rfl,u⟩:=(show RpL G H o [.lst w] E from A.rp).one;obtain⟨z,J,Gs,rfl,rfl,j,h⟩:=u.lst_inv;rw[k9 h n]at j;refine⟨sep,z,d,r.str_inv.1,rfl,Gw.of j,i,bA k (.str _ ⟨Z2 (l7 sep d) i,λc y=>(lG sep d c y).elim (r.str_inv.2.2 c) λ⟨s,D,C⟩=>nk h n s D c C⟩)⟩
  ·cases g
 ·cases e
def xK(r:Rp G H v t F)(h:∃s,t=.str s):Ls G.K "str" v H:=by
 obtain⟨s,rfl⟩:=h;rw[r.str_inv.1];rfl
def oK{d:Pos}(i:PV G X a ca)(j:GY G X [e] cs)(g:{`q2,X.K=G.K})(m:{`q2,UF a "join" X.env (eval a X.env)=eval a X.env})(q:{`q2,((backTo f (Pi [e] X.env)).all (λx=>!x.1)&&(backToKw f (SB [] X.env)).all (λx=>x.1.isSome)
   && decide ([e].length+([]:List Keyword).length+(if ([]:List Keyword).isEmpty then 0 else 1)<30))=M})(o:{`q2,(d.endLine==f.line)=M})(h:{`q2,K1 e [] X})(n:{`q2,(backTo f (Pi [] X.env)).any (·.1)=B}) :
  PV G X (.Call (.Attribute a "join" d) [e] [] f) (eM gf ca cs) :=
 Fh PySem.F.plainAttrs_str PySem.F.slot_str_join PySem.F.type_str_join (g ▸ za) zL (λH v x F l z r e=>xK r (by
  unfold gf at e;split at e
  ·exact⟨_,rfl⟩
  ·cases e)) i j g m q o h n
end
end VS
end
section
namespace VS
@[simp] def GW(x y:Val):Vp:=match x.2 with
 |.dct 0 l=>if gK y.2 then (cS l y.2).map (sub x.1) else Y
 |_=>aC x y
noncomputable def flat:T->Bool
 |.non=>M
 |.bl _=>M
 |.int _=>M
 |.str _=>M
 |_=>B
@[simp] def mS(x y:Val):Vp:=match y.2 with
 |.dct 0 l=>if gK x.2 then Z (.fr,.bl (cS l x.2).isSome) else Y
 |.lst l=>if flat x.2&&l.all flat then Z (.fr,.bl (l.any λy=>eqT y x.2)) else Y
 |.tup l=>if flat x.2&&l.all flat then Z (.fr,.bl (l.any λy=>eqT y x.2)) else Y
 |_=>Y
@[simp] def cA(x y:Val):Vp:=match mS x y with
 |some (_,.bl b)=>Z (.fr,.bl (!b))
 |_=>Y
def pm{α:Type}(f:T->Option (T×α)):List Ky->T->Option (T×α)
 |[],t=>f t
 |.fld k :: r,t=>match t with
  |.obj (c+1) (q :: fs)=>(fs.findIdx? λp=>p.1==k).bind λi=>(fs[i]?).bind λp=>(pm f r p.2).map λz=>(.obj (c+1) (q :: fs.set i (p.1,z.1)),z.2)
  |_=>Y
 |.un :: r,t=>match t with
  |.obj 0 [(0,.bl true),(m,x)]=>(pm f r x).map λz=>(.obj 0 [(0,.bl M),(m,z.1)],z.2)
  |_=>Y
 |.at k :: r,t=>match t with
  |.lst l=>match k with
   |.int i=>(Hw l.length i).bind λj=>(l[j]?).bind λx=>(pm f r x).map λz=>(.lst (l.set j z.1),z.2)
   |_=>Y
  |.dct 0 l=>if gK k then (l.findIdx? λp=>eqT p.1 k).bind λi=>(l[i]?).bind λp=>(pm f r p.2).map λz=>(.dct 0 (l.set i (p.1,z.1)),z.2) else Y
  |_=>Y
end VS
end
section
namespace VS
open PySem PySem.Spec PyProof.Rows L2
section
variable{X:Cx}
mutual
def Ji:T->PyData
 |.non=>.none
 |.bl b=>.bool b
 |.int i=>.int i
 |.str s=>.str (sx s)
 |.tup l=>.tuple (nO l)
 |.lst l=>.list (nO l)
 |_=>.none
def nO:Vo->List PyData
 |[]=>[]
 |t :: r=>Ji t :: nO r
end
def ES(h:nI s):PyData.strOk (sx s)=M:=by
 unfold PyData.strOk sx;simp only[Array.all_eq_true,decide_eq_true_eq];intro i a;have:s.toArray[i]∈s:=by simp
 have:=h.2 _ this;simpa using this
def yq:(sx s==sx t)=(s==t):=by
 rw[XJ,beq_iff_eq,beq_iff_eq];constructor
 ·intro h;have:(sx s).cps=(sx t).cps:=by rw[h]
  simpa[sx] using this
 ·intro h;rw[h]
mutual
theorem pF:∀(n k:Nat)(t u:T),G2 n t=M->G2 k u=M->PyData.eqv (Ji t) (Ji u)=eqT t u
 |n,k,t,u,b,a=>by
  cases t with
  |scr _=>cases n<;>cases b
  |dct _ _=>cases n<;>cases b
  |obj _ _=>cases n<;>cases b
  |tup l =>
   cases n with
   |zero=>cases b
   |succ n =>
    cases u with
    |tup r =>
     cases k with
     |zero=>cases a
     |succ k =>
      exact lI n k l r (Z6.mp b) (Z6.mp a)
    |scr _=>cases k<;>cases a
    |dct _ _=>cases k<;>cases a
    |obj _ _=>cases k<;>cases a
    |_=>rfl
  |lst l =>
   cases n with
   |zero=>cases b
   |succ n =>
    cases u with
    |lst r =>
     cases k with
     |zero=>cases a
     |succ k =>
      exact lI n k l r (Z6.mp b) (Z6.mp a)
    |scr _=>cases k<;>cases a
    |dct _ _=>cases k<;>cases a
    |obj _ _=>cases k<;>cases a
    |_=>rfl
  |str s =>
   cases u with
   |str r=>exact yq
   |scr _=>cases k<;>cases a
   |dct _ _=>cases k<;>cases a
   |obj _ _=>cases k<;>cases a
   |_=>rfl
  |_ =>
   cases u with
   |scr _=>cases k<;>cases a
   |dct _ _=>cases k<;>cases a
   |obj _ _=>cases k<;>cases a
   |_=>rfl
theorem lI:∀(n k:Nat)(l r:Vo),(∀t∈l,G2 n t=M)->(∀t∈r,G2 k t=M)->PyData.eqvAll (nO l) (nO r)=vn l r
 |_,_,[],[],_,_=>rfl
 |_,_,[],_ :: _,_,_=>rfl
 |_,_,_ :: _,[],_,_=>rfl
 |n,k,t :: l,u :: r,d,b=>by
  show (PyData.eqv (Ji t) (Ji u)&&PyData.eqvAll (nO l) (nO r))=(eqT t u&&vn l r);rw[pF n k t u (d t Zu) (b u Zu),lI n k l r (λx a=>d x (Zt _ a)) λx a=>b x (Zt _ a)]
end
def Rp.JW(r:Rp G H v (.tup d) F):∃b a e,v=.ref b/\H b=Z (.tup a)/\RpL G H a d e:=by
 cases r with
 |tup h q=>exact⟨_,_,_,rfl,h,q⟩
def Rp.Kc(r:Rp G H v (.lst d) F):∃b a e,v=.ref b/\H b=Z (.lst a)/\RpL G H a d e:=by
 cases r with
 |lst h q=>exact⟨_,_,_,rfl,h,q⟩
theorem kB{s:GM}(f:∀{v:V}{t:T}{F:W6}{u:KM},Rp G H v t F->RelV v u->G2 n t=M->∃b,Reads s.heap u (Ji t) b/\(Ji t).canLay0=M/\(Ji t).depth<=n):∀{d:List V}{a:Vo}{y:Xq}{e:Vx},RpL G H d a y->aO d e->(∀t∈a,G2 n t=M) →
  ∃b,ReadsAll s.heap e (nO a) b/\PyData.canLayAll0 (nO a)=M/\PyData.depthAll (nO a)<=n
 |_,_,_,_,.nil,r,_=>by cases r;exact⟨_,.nil,rfl,YT _⟩
 |_,_,_,_,.cons p q,r,h=>by
  cases r with
  |cons r1 r2 =>
   obtain⟨b,l,j,i⟩:=f p r1 (h _ Zu);obtain⟨bs,w,o,m⟩:=kB f q r2 λt g=>h t (Zt _ g);exact⟨_,.cons l w,Ze.mpr ⟨j,o⟩,Nat.max_le.mpr ⟨i,m⟩⟩
def m7(r:Rp G H v t F)(a:RelV v u)(d:flat t=M):∃e,Reads h u (Ji t) e/\(Ji t).canLay0=M/\(Ji t).depth<=n:=by
 cases r with
 |non=>cases a;exact⟨_,.none,rfl,YT _⟩
 |bl b=>cases a;exact⟨_,.bool b,rfl,YT _⟩
 |int i=>obtain⟨t,rfl⟩:=a;exact⟨_,.int i t,rfl,YT _⟩
 |str s h=>obtain⟨t,rfl⟩:=a;exact⟨_,.str _ t,ES h,YT _⟩
 |_=>cases d
def jY(I:Inv X d J H s)(n:Nat):∀{v:V}{t:T}{F:W6}{u:KM},Rp G H v t F->RelV v u->G2 n t=M->∃w,Reads s.heap u (Ji t) w/\(Ji t).canLay0=M/\(Ji t).depth<=n:=by
 induction n with
 |zero =>
  intro v t F u r a h;refine m7 r a ?_;cases t<;>first | rfl | exact h
 |succ n y =>
  intro v t F u r a h;cases t with
  |tup l =>
   obtain⟨b,z,N,rfl,e,q⟩:=Rp.JW r;cases a;obtain⟨D,f,A,E⟩:=I.tuple (GV.of e);obtain⟨w,p,m,j⟩:=kB y q f (Z6.mp h);obtain⟨o,g,i,C,hd⟩:=A;exact⟨_,.tuple g i hd (by simpa using p),m,X4 j⟩
  |lst l =>
   obtain⟨b,z,N,rfl,e,q⟩:=Rp.Kc r;cases a;obtain⟨D,f,pl,E⟩:=I.list (Gw.of e);obtain⟨w,p,m,j⟩:=kB y q f (Z6.mp h);obtain⟨o,g,i,C,hd⟩:=pl.isList;exact⟨_,.list g i hd (by simpa using p),m,X4 j⟩
  |scr _=>cases h
  |dct _ _=>cases h
  |obj _ _=>cases h
  |_=>exact m7 r a L
def Ai(G:Gx)(a:Bool):R2:=λx y H Q=>∃t u F b,Rp G H x t F/\Rp G H y u b/\G2 60 t=M/\G2 60 u=M/\Q (.bl (if a then !eqT t u else eqT t u)) H
def iX{d:PyData}(h:d.canLay0=M)(a:d.depth<=60):SeqAt.shaped d=M:=by
 unfold SeqAt.shaped;rw[h,Bool.true_and];exact decide_eq_true (by lia)
def xD(g:X.A.units+64<cLine):OpR X (SC .Eq) (Ai G B):=by
 intro a s J H x y v u Q I f e h;obtain⟨t,w,F,r,r1,r2,d,b,q⟩:=h;obtain⟨p,o,n,m⟩:=jY I 60 r1 f d;obtain⟨bs,l,j,i⟩:=jY I 60 r2 e b;refine eq_dataH o l (iX n m) (iX j i) g ⟨.bl _,H,I,rfl,?_⟩;rw[pF 60 60 t w d b];exact q
def BP(g:X.A.units+64<cLine):OpR X (SC .NotEq) (Ai G M):=by
 intro a s J H x y v u Q I f e h;obtain⟨t,w,F,r,r1,r2,d,b,q⟩:=h;obtain⟨p,o,n,m⟩:=jY I 60 r1 f d;obtain⟨bs,l,j,i⟩:=jY I 60 r2 e b;refine ne_dataH o l (iX n m) (iX j i) g ⟨.bl _,H,I,rfl,?_⟩;rw[pF 60 60 t w d b];exact q
def Ba:fP G (Ai G B) oEq:=by
 intro O U b H x y u w f d m t Q a e k;unfold oEq at e;split at e
 ·rename_i h;cases e;exact⟨_,_,_,_,a.r1,a.r2,h.1,h.2,bA k (.bl _)⟩
 ·cases e
def Ez:fP G (Ai G M) IL:=by
 intro O U b H x y u w f d m t Q a e k;unfold IL at e;split at e
 ·rename_i h;cases e;exact⟨_,_,_,_,a.r1,a.r2,h.1,h.2,bA k (.bl _)⟩
 ·cases e
def tells_eq:Tells oEq:=by
 intro x y m t e;unfold oEq at e;split at e<;>first | (cases e;exact⟨_,rfl⟩) | cases e
def yf:Tells IL:=by
 intro x y m t e;unfold IL at e;split at e<;>first | (cases e;exact⟨_,rfl⟩) | cases e
end
structure GU(O:Gn)(U:VS.Env)(H:Hp)(O':Gn)(U':VS.Env)(H':Hp):Prop where
 keep:∀a o,H a=some o->¬bW O U a->H' a=some o/\¬bW O' U' a
 GF:∀a,H a≠none->H' a≠none
 ow:∀a,bW O' U' a->bW O U a\/H a=none
 pu:∀a,du O' U' a->du O U a\/bW O U a\/H a=none
 kept:Kept H H'
theorem GU.refl(O:Gn)(U:VS.Env)(H:Hp):GU O U H O U H:=⟨λa o h n=>⟨h,n⟩,λ_ h=>h,λ_ h=>.inl h,λ_ h=>.inl h,Kept.refl H⟩
theorem GU.none(f:GU O U H g d b){a:KF}(h:b a=Y):H a=Y:=by
 cases e:H a with
 |none=>rfl
 |some o=>exact absurd h (f.GF a (by rw[e];exact λz=>nomatch z))
theorem GU.trans{U U1 b:VS.Env}{j i:Hp}(f:GU O U H e U1 j)(g:GU e U1 j d b i):GU O U H d b i where
 keep:=λa o h n=>let ⟨m,l⟩:=f.keep a o h n;g.keep a o m l
 GF:=λa h=>g.GF a (f.GF a h)
 ow:=λa h=>by
  rcases g.ow a h with h | h
  ·exact f.ow a h
  ·exact .inr (f.none h)
 pu:=λa h=>by
  rcases g.pu a h with h | h | h
  ·exact f.pu a h
  ·rcases f.ow a h with h | h
   ·exact .inr (.inl h)
   ·exact .inr (.inr h)
  ·exact .inr (.inr (f.none h))
 kept:=f.kept.trans g.kept
def GU.same{H:Hp}(e:aJ H b):GU O U H O U b :=
 ⟨λa o h n=>⟨e a o h,n⟩,λa h z=>h (e.free z),λ_ h=>.inl h,λ_ h=>.inl h,Kept.of e⟩
def qU(O:Gn)(U:VS.Env)(H:Hp):Md->W6->Prop
 |.fr,F=>F.Nodup/\∀a∈F,H a=Y\/bW O U a
 |_,F=>∀a∈F,H a=Y\/du O U a\/bW O U a
theorem qU.back(f:GU O U H e d g):∀{m:Md},qU e d g m F->qU O U H m F
 |.fr,h=>⟨h.1,λa b=>(h.2 a b).elim (λz=>.inl (f.none z)) λz=>(f.ow a z).elim .inr .inl⟩
 |.pu,h=>λa b=>by
  rcases h a b with z | z | z
  ·exact .inl (f.none z)
  ·rcases f.pu a z with z | z | z
   ·exact .inr (.inl z)
   ·exact .inr (.inr z)
   ·exact .inl z
  ·exact(f.ow a z).elim (λz=>.inr (.inr z)) .inl
 |.bo,h=>λa b=>by
  rcases h a b with z | z | z
  ·exact .inl (f.none z)
  ·rcases f.pu a z with z | z | z
   ·exact .inr (.inl z)
   ·exact .inr (.inr z)
   ·exact .inl z
  ·exact(f.ow a z).elim (λz=>.inr (.inr z)) .inl
noncomputable def Nx(G:Gx)(O:Gn)(U:VS.Env)(H:Hp)(b:VS.Env)(k:L2.St->Hp->Prop):Prop:=∀d e a,SR G d b e a->GU O U H d b a->k e a
def uq(G:Gx)(O:Gn)(U:VS.Env)(H:Hp)(D:Ends):Out->Prop
 |.nx a=>Nx G O U H a D.nx
 |.bk a=>Nx G O U H a D.bk
 |.ct a=>Nx G O U H a D.ct
 |.rt v a=>∀u b F d e,SR G d a e b->GU O U H d a b->Rp G b u v.2 F->qU O U H v.1 F->D.rt u b
def tS(G:Gx)(c:Sx):TS:=λD J H=>∃O U o,SR G O U J H/\c U=Z o/\uq G O U H D o
def PSV(G:Gx)(X:Cx)(a:Stmt)(c:Sx):Prop:=PS X a (tS G c)
def iw(G:Gx)(X:Cx)(a:List Stmt)(c:Sx):Prop:=HJ X a (tS G c)
def PS.weak{X:Cx}{t:TS}(h:PS X e t)(w:∀D J H,b D J H->t D J H):PS X e b:=λa s J H D I q=>h a s J H D I (w D J H q)
def HJ.weak{X:Cx}{t:TS}(h:HJ X e t)(w:∀D J H,b D J H->t D J H):HJ X e b:=λa s J H D I q=>h a s J H D I (w D J H q)
theorem uq.back(f:GU O U H j i l):∀{o:Out},uq G O U H D o->uq G j i l D o
 |.nx e,h=>λa b d s g=>h a b d s (f.trans g)
 |.bk e,h=>λa b d s g=>h a b d s (f.trans g)
 |.ct e,h=>λa b d s g=>h a b d s (f.trans g)
 |.rt v e,h=>λu d F a b s g r q=>h u d F a b s (f.trans g) r (q.back f)
section
variable{X:Cx}{st:Stmt}
def bT:iw G X [] eD:=HJ.weak zP λD J H a=>by
 obtain⟨O,U,o,s,e,k⟩:=a;cases (show Z (Out.nx U)=Z o from e);exact k O J H s (GU.refl _ _ _)
def ag(i:PSV G X st c1)(h:iw G X Nr c2):iw G X (st :: Nr) (aj c1 c2):=HJ.weak (wC i h) λD J H g=>by
 obtain⟨O,U,o,s,e,k⟩:=g;unfold aj at e;obtain⟨b,e1,e2⟩:=Zz.mp e;refine⟨O,U,b,s,e1,?_⟩;cases b with
 |nx a=>exact λj l m d f=>⟨j,a,o,d,e2,k.back f⟩
 |rt v a=>cases e2;exact k
 |bk a=>cases e2;exact k
 |ct a=>cases e2;exact k
def cj(h:Iw G X t d)(j:iw G X a c1)(i:iw G X b c2):PSV G X (.If t a b pos) (G8 d c1 c2):=PS.weak (Es h j i) λD J H g=>by
 obtain⟨O,U,o,s,e,k⟩:=g;unfold G8 at e;obtain⟨⟨m,x⟩,l,e1⟩:=Zz.mp e;obtain⟨f,n,e2⟩:=Zz.mp e1;refine⟨O,U,m,x,f,s,l,n,λp e3=>?_⟩;cases f with
 |true =>
  rw[Zn L]at e2;exact Ah ⟨O,U,o,s.same e3,e2,k.back (GU.same e3)⟩
 |false =>
  rw[Zm ZY]at e2;exact Al ⟨O,U,o,s.same e3,e2,k.back (GU.same e3)⟩
theorem Fp.ret:∀{m:Md},Fp O U H m F->qU O U H (match m with | .bo=>.pu | m=>m) F
 |.fr,f=>⟨f.1,λa b=>.inl (f.2 a b)⟩
 |.pu,f=>λa b=>(f a b).elim .inl λz=>.inr (.inl z)
 |.bo,f=>f
def bC(he:PV G X e ce):PSV G X (.Return (Z e) pos) (eI ce):=PS.weak (pG he) λD J H a=>by
 obtain⟨O,U,o,s,e,k⟩:=a;unfold eI at e;obtain⟨⟨m,x⟩,b,e1⟩:=Zz.mp e;cases e1;exact⟨O,U,m,x,s,b,λv d F e1 r1 f1=>k v d F O J (s.same e1) (GU.same e1) r1 f1.ret⟩
def cq{U:VS.Env}{c:Cell}(h:(U.set i Y)[j]?=Z (Z c)):j≠i/\U[j]?=Z (Z c):=by
 rw[W3]at h;split at h
 ·split at h<;>cases h
 ·rename_i n;exact⟨λz=>n z.symm,h⟩
def SR.drop(s:SR G O U J H)(i:Nat):SR G O (U.set i Y) J H :=
 ⟨by rw[Yn];exact s.len,λj c h=>s.rp j c (cq h).2,λj t h=>s.nd j t (cq h).2,λj k t c b a n=>s.sep j k t c (cq b).2 (cq a).2 n⟩
def GU.drop(i:Nat):GU O U H O (U.set i Y) H :=
 ⟨λa o h n=>⟨h,λ⟨j,t,d,b⟩=>n ⟨j,t,(cq d).2,b⟩⟩,λ_ h=>h,λa ⟨j,t,d,b⟩=>.inl ⟨j,t,(cq d).2,b⟩,λa ⟨j,t,d,b⟩=>.inl ⟨j,t,(cq d).2,b⟩,Kept.refl H⟩
def gA(i:Nat)(u:{`q2,X.N[i]?=Z x})(l:{`q5,HU X.env.scope x})(r:{`q1,K3 x})(d:{`q1,K4 x}):PSV G X (.Return (Z (.Name x p)) pos) (ip i):=PS.weak (pG (eQ u l r d)) λD J H n=>by
 obtain⟨O,U,o,s,e,k⟩:=n;unfold ip at e;split at e
 ·rename_i t h;obtain⟨v,j,b⟩:=s.rp _ _ h;cases e;exact⟨v,j,k v H (O i) O J (s.drop i) (GU.drop i) b ⟨s.nd i t h,λa g=>.inr ⟨i,t,h,g⟩⟩⟩
 ·rename_i t h;obtain⟨v,j,b⟩:=s.rp _ _ h;cases e;refine⟨v,j,k v H (O i) O J s (GU.refl _ _ _) b ?_⟩;have f:Fp O U H .pu (O i):=λa g=>.inr ⟨i,t,h,g⟩;have f2:=(f.up b).ret;have:(match (VS.up .pu (i8 (.pu t))).1 with | .bo=>Md.pu | m=>m)=(VS.up .pu t).1:=by
   show (match (VS.up .pu t).1 with | .bo=>Md.pu | m=>m)=_;unfold VS.up;split<;>(rename_i q;revert q;split<;>simp)
  rw[this]at f2;exact f2
 ·cases e
noncomputable def kY(O:Gn)(i:Nat)(F:W6):Gn:=λj=>if j=i then F else O j
def i6:kY O i F i=F:=Zn L
def d9(h:j≠i):kY O i F j=O j:=Zm h
def gS{U:VS.Env}{c:Cell}(h:(U.set i (Z c))[j]?=Z (Z a)):(j=i/\a=c)\/(j≠i/\U[j]?=Z (Z a)):=by
 rw[W3]at h;split at h
 ·rename_i e;split at h
  ·exact .inl ⟨e.symm,(Zk (Zk h)).symm⟩
  ·cases h
 ·rename_i n;exact .inr ⟨λz=>n z.symm,h⟩
def SR.put{H':Hp}{v:V}{c:Cell}{F:W6}(s:SR G O U J H)(q:i<U.length)(r:Rp G H' v (i8 c) F)(p:∀j b,j≠i->U[j]?=Z (Z b)->∀w,Rp G H w (i8 b) (O j)->Rp G H' w (i8 b) (O j))(z:∀t,c=.ow t->F.Nodup)(y:∀t,c=.ow t->∀j b,j≠i->U[j]?=Z (Z b)->∀a∈F,a∉O j)(u:∀j t,j≠i->U[j]?=Z (Z (.ow t))->∀a∈O j,a∉F) :
  SR G (kY O i F) (U.set i (Z c)) (J.set i (Z v)) H' where
 len:=by rw[Yn,Yn];exact s.len
 rp:=λj b h=>by
  rcases gS h with⟨rfl,rfl⟩ | ⟨n,h⟩
  ·exact⟨v,by rw[We (by rw[← s.len];exact q)],by rw[i6];exact r⟩
  ·obtain⟨w,l,f⟩:=s.rp j b h;exact⟨w,by rw[Y8 (YR n)];exact l,by rw[d9 n];exact p j b n h w f⟩
 nd:=λj t h=>by
  rcases gS h with⟨rfl,e⟩ | ⟨n,h⟩
  ·rw[i6];exact z t e.symm
  ·rw[d9 n];exact s.nd j t h
 sep:=λj k t b l f n=>by
  rcases gS l with⟨rfl,e⟩ | ⟨g,o⟩
  ·rcases gS f with⟨rfl,e2⟩ | ⟨d,m⟩
   ·exact absurd L n
   ·rw[i6,d9 d];exact y t e.symm k b d m
  ·rcases gS f with⟨rfl,e2⟩ | ⟨d,m⟩
   ·rw[i6,d9 g];exact u j t g o
   ·rw[d9 g,d9 d];exact s.sep j k t b o m n
def l5{U:VS.Env}{c:Cell}(h:bW (kY O i F) (U.set i (Z c)) a):(∃t,c=.ow t/\a∈F)\/bW O U a:=by
 obtain⟨j,t,d,b⟩:=h;rcases gS d with⟨rfl,e⟩ | ⟨n,d⟩
 ·rw[i6]at b;exact .inl ⟨t,e.symm,b⟩
 ·rw[d9 n]at b;exact .inr ⟨j,t,d,b⟩
def rJ{U:VS.Env}{c:Cell}(h:du (kY O i F) (U.set i (Z c)) a):(∃t,c=.pu t/\a∈F)\/du O U a:=by
 obtain⟨j,t,d,b⟩:=h;rcases gS d with⟨rfl,e⟩ | ⟨n,d⟩
 ·rw[i6]at b;exact .inl ⟨t,e.symm,b⟩
 ·rw[d9 n]at b;exact .inr ⟨j,t,d,b⟩
def SR.J5(s:SR G O U J H)(h:bW O U a)(g:du O U a):False:=by
 obtain⟨j,t,d,f⟩:=h;obtain⟨k,u,b,i⟩:=g;have n:j≠k:=λe=>by subst e;rw[d]at b;cases b
 exact s.sep j k t _ d b n a f i
def SR.val{m:Md}{c:Cell}(s:SR G O U J H)(D:i<U.length)(e:aJ H A)(r:Rp G A v t F)(f:Fp O U H m F)(p:(c=.pu t/\m ≠ .bo)\/(c=.ow t/\m=.fr)):SR G (kY O i F) (U.set i (Z c)) (J.set i (Z v)) A/\GU O U H (kY O i F) (U.set i (Z c)) A:=by
 have GF:∀{a},H a=Y->∀j y,U[j]?=Z (Z y)->a∉O j:=λ{a} h j y g b=>by
  obtain⟨w,_,q⟩:=s.rp j y g;exact Gk.p0 (q.GF a b) h
 have ct:i8 c=t:=by rcases p with⟨rfl,_⟩ | ⟨rfl,_⟩<;>rfl
 have C:∀a∈F,H a=Y\/du O U a:=λa b=>by
  rcases p with⟨_,n⟩ | ⟨_,n⟩
  ·exact f.pu n a b
  ·rw[n]at f;exact .inl (f.2 a b)
 constructor
 ·refine s.put D (by rw[ct];exact r) (λj y n g w q=>q.same e) (λu d=>?_) (λu d j y n g a b=>?_) λj u n g a b E=>?_
  ·rcases p with⟨h,_⟩ | ⟨_,h⟩
   ·rw[h]at d;cases d
   ·rw[h]at f;exact f.1
  ·rcases p with⟨h,_⟩ | ⟨_,h⟩
   ·rw[h]at d;cases d
   ·rw[h]at f;exact GF (f.2 a b) j y g
  ·rcases C a E with z | z
   ·exact GF z j _ g b
   ·exact s.J5 ⟨j,u,g,b⟩ z
 ·refine⟨λa o h n=>⟨e a o h,λz=>?_⟩,λa h z=>h (e.free z),λa h=>?_,λa h=>?_,Kept.of e⟩
  ·rcases l5 z with⟨u,d,b⟩ | z
   ·rcases p with⟨l,_⟩ | ⟨_,l⟩
    ·rw[l]at d;cases d
    ·rw[l]at f;rw[f.2 a b]at h;cases h
   ·exact n z
  ·rcases l5 h with⟨u,d,b⟩ | z
   ·rcases p with⟨l,_⟩ | ⟨_,l⟩
    ·rw[l]at d;cases d
    ·rw[l]at f;exact .inr (f.2 a b)
   ·exact .inl z
  ·rcases rJ h with⟨u,d,b⟩ | z
   ·exact(C a b).elim (λz=>.inr (.inr z)) .inl
   ·exact .inl z
def fq{pos:Pos}(he:PV G X e ce)(q:X.N.Nodup)(n:{`q2,X.N[i]?=Z x})(g:{`q6,Loc X.env.scope x})(h:{`q2,swapsWith e (Z (.Name x a)) pos.line X.env=pure B})(p:X.fn x=M\/X.env.scope.names.lookup x=Z .local:=by first | exact .inl L | exact .inr L) :
  PSV G X (.Assign [.Name x a] e pos) (kX i ce):=PS.weak (rK q n g he h p) λD J H j=>by
 obtain⟨O,U,o,s,e,k⟩:=j;unfold kX at e;obtain⟨⟨m,t⟩,u,e1⟩:=Zz.mp e;obtain⟨c,eC,e2⟩:=Zz.mp e1;split at e2
 ·rename_i l;cases e2;refine⟨O,U,m,t,s,u,λv w F e3 b r=>?_⟩;obtain⟨f,d⟩:=s.val (c:=c) l e3 b r (by
   unfold cellOf at eC;cases m with
   |fr =>
    simp only[Option.some.injEq]at eC;split at eC
    ·exact .inr ⟨eC.symm,rfl⟩
    ·exact .inl ⟨eC.symm,by decide⟩
   |pu=>cases eC;exact .inl ⟨rfl,by decide⟩
   |bo=>cases eC)
  exact k _ _ w f d
 ·cases e2
def aA{pos:Pos}(he:PV G X e ce)(r:X.N.Nodup)(p:{`q2,X.N[i]?=Z x})(g:{`q6,Loc X.env.scope x})(h:{`q2,swapsWith e (Z (.Name x a)) pos.line X.env=pure B})(q:X.fn x=M\/X.env.scope.names.lookup x=Z .local:=by first | exact .inl L | exact .inr L) :
  PSV G X (.Assign [.Name x a] e pos) (aI i ce):=PS.weak (rK r p g he h q) λD J H j=>by
 obtain⟨O,U,o,s,e,k⟩:=j;unfold aI at e;obtain⟨⟨m,t⟩,w,e1⟩:=Zz.mp e;split at e1
 ·cases e1
 ·rename_i l;split at e1
  ·rename_i n;cases e1;refine⟨O,U,m,t,s,w,λv y F e3 b u=>?_⟩;obtain⟨f,d⟩:=s.val (c:=.pu t) n e3 b u (.inl ⟨rfl,l⟩);exact k _ _ y f d
  ·cases e1
def SR.frz(s:SR G O U J H)(h:U[i]?=Z (Z (.ow t))):SR G O (U.set i (Z (.pu t))) J H/\GU O U H O (U.set i (Z (.pu t))) H:=by
 have back:∀{j c},(U.set i (Z (.pu t)))[j]?=Z (Z c)->∃l,U[j]?=Z (Z l)/\i8 l=i8 c/\∀u,c=.ow u->l=.ow u:=λ{j c} g=>by
  rcases gS g with⟨rfl,rfl⟩ | ⟨n,g⟩
  ·exact⟨.ow t,h,rfl,λu p=>nomatch p⟩
  ·exact⟨c,g,rfl,λu p=>p⟩
 refine⟨⟨by rw[Yn];exact s.len,λj c g=>?_,λj u g=>?_,λj k u c b d n=>?_⟩,⟨λa o r n=>⟨r,λ⟨j,u,b,d⟩=>?_⟩,λ_ h=>h,λa ⟨j,u,b,d⟩=>?_,λa ⟨j,u,b,d⟩=>?_,Kept.refl H⟩⟩
 ·obtain⟨l,b,d,_⟩:=back g;obtain⟨v,f,y⟩:=s.rp j l b;exact⟨v,f,by rw[← d];exact y⟩
 ·obtain⟨l,b,_,w⟩:=back g;rw[w u L]at b;exact s.nd j u b
 ·obtain⟨c1,f,_,m⟩:=back b;obtain⟨c2,q,_,_⟩:=back d;rw[m u L]at f;exact s.sep j k u c2 f q n
 ·obtain⟨c1,f,_,m⟩:=back b;rw[m u L]at f;exact n ⟨j,u,f,d⟩
 ·obtain⟨c1,f,_,m⟩:=back b;rw[m u L]at f;exact .inl ⟨j,u,f,d⟩
 ·rcases gS b with⟨rfl,_⟩ | ⟨n,b⟩
  ·exact .inr (.inl ⟨j,t,h,d⟩)
  ·exact .inl ⟨j,u,b,d⟩
def iT(i:Nat)(h:iw G X Nr c):iw G X Nr (aj (rE i) c):=HJ.weak h λD J H f=>by
 obtain⟨O,U,o,s,e,k⟩:=f;unfold aj at e;obtain⟨g,e1,e2⟩:=Zz.mp e;unfold rE at e1;split at e1
 ·rename_i t d;cases e1;obtain⟨b,a⟩:=s.frz d;exact⟨O,_,o,b,e2,k.back a⟩
 ·cases e1;exact⟨O,U,o,s,e2,k⟩
 ·cases e1
end
section
variable{X:Cx}{st:Stmt}
structure Chg(G:Gx)(H:Hp)(v:V)(F:W6)(t':T)(H2:Hp)(F':W6):Prop where
 kept:Kept H H2
 keep:∀b o,b∉F->H b=some o->H2 b=some o
 GF:∀b,H b≠none->H2 b≠none
 rp:Rp G H2 v t' F'
 nd:F'.Nodup
 sub:∀a∈F',a∈F\/H a=none
def SR.mut(s:SR G O U J H)(m:U[i]?=Z (Z (.ow t)))(C:J[i]?=Z (Z v))(g:Chg G H v (O i) r y p) :
  SR G (kY O i p) (U.set i (Z (.ow r))) J y/\GU O U H (kY O i p) (U.set i (Z (.ow r))) y:=by
 have E:i<U.length:=(Zc.mp m).1;have off:∀j d,j≠i->U[j]?=Z (Z d)->∀a∈O j,a∉O i:=λj d n f a b l=>s.sep i j t d m f (YR n) a l b;have es:J.set i (Z v)=J:=by
  obtain⟨h,e⟩:=Zc.mp C;rw[← e];exact WV h
 have new:∀a∈p,∀j d,j≠i->U[j]?=Z (Z d)->a∉O j:=λa b j d n f l=>by
  rcases g.sub a b with z | z
  ·exact off j d n f a l z
  ·obtain⟨w,_,q⟩:=s.rp j d f;exact Gk.p0 (q.GF a l) z
 constructor
 ·have:=s.put (c:=.ow r) (F:=p) (H':=y) (v:=v) E g.rp (λj d n f w q=>q.keep g.kept λa b o D=>g.keep a o (off j d n f a b) D) (λ_ _=>g.nd) (λu A j d n f a b=>new a b j d n f) λj u n f a b l=>new a l j _ n f b;rw[es]at this;exact this
 ·refine⟨λa o h n=>⟨g.keep a o (λz=>n ⟨i,t,m,z⟩) h,λz=>?_⟩,g.GF,λa h=>?_,λa h=>?_,g.kept⟩
  ·rcases l5 z with⟨u,_,b⟩ | z
   ·rcases g.sub a b with z | z
    ·exact n ⟨i,t,m,z⟩
    ·rw[z]at h;cases h
   ·exact n z
  ·rcases l5 h with⟨u,_,b⟩ | z
   ·rcases g.sub a b with z | z
    ·exact .inl ⟨i,t,m,z⟩
    ·exact .inr z
   ·exact .inl z
  ·rcases rJ h with⟨u,A,b⟩ | z
   ·cases A
   ·exact .inl z
def xq(G:Gx)(r:V->List V->Hp->VK->Prop)(f:T->Vq->Option (T×Val)):Prop:=∀(O:Gn)(U:VS.Env)(H g:Hp)(v:V)(t b:T)(F:W6)(l:Vq)(a:List V)(h:Xq)(x:Val)(Q:VK),
 Rp G H v t F->F.Nodup->Args G O U H g l a h->f t l=Z (b,x)->(∀u d i,Chg G H v F b d i->Q u d)->r v a g Q
def yh{pos:Pos}{b:Pos}(i:Nat)(pa:PlainAttrs q)(h:Slot q a m)(KD:typeOf (.builtin m)=pure (.type "method_descriptor"))(hm:OG X m r)(ok:xq G r f)(hT:∀H v t F l z,Rp G H v t F->f t l=Z z->Ls G.K q v H)(ha:GY G X (e :: es) cs)(hK:{`q2,X.K=G.K})(hN:{`q2,X.N[i]?=Z x})(hv:{`q5,HU X.env.scope x})(hd:{`q1,K3 x})(p:{`q1,K4 x})(Gr:{`q2,UF (.Name x j) a X.env (eval (.Name x j) X.env)=eval (.Name x j) X.env})(GI:{`q2,((backTo d (Pi (e :: es) X.env)).all (λx=>!x.1)&&(backToKw d (SB [] X.env)).all (λx=>x.1.isSome)
   && decide ((e :: es).length+([]:List Keyword).length+(if ([]:List Keyword).isEmpty then 0 else 1)<30))=M})(Gd:{`q2,(b.endLine==d.line)=M})(hs:{`q2,K1 e es X})(Gm:{`q2,K2 d es X})(JA:{`q2,swapsWith (.Call (.Attribute (.Name x j) a b) (e :: es) [] d) Y pos.line X.env=pure B}) :
  PSV G X (.Expr (.Call (.Attribute (.Name x j) a b) (e :: es) [] d) pos) (sX (lV i [] f cs)) :=
 PS.weak (iV (nX pa h KD hm (eQ hN hv hd p) ha Gr GI Gd hs Gm) JA) λD J H hq=>by
  obtain⟨O,U,o,s,e,k⟩:=hq;unfold sX lV at e;obtain⟨⟨w,U'⟩,e1,e2⟩:=Zs.mp e;split at e1
  ·rename_i t n;obtain⟨ks,ek,e3⟩:=Zz.mp e1;cases (show Z ([]:List Ky)=Z ks from ek);obtain⟨l,el,e4⟩:=Zz.mp e3;obtain⟨⟨y,x2⟩,e5,e6⟩:=Zs.mp e4;cases e6;cases e2;obtain⟨v,C,A⟩:=s.rp _ _ n;have E:f t l=Z (y,w):=e5;refine⟨v,C,by rw[hK];exact hT H v t _ l _ A E,O,U,l,s,el,λR H' Fs q1 q2 S=>?_⟩;refine ok O U H H' v t y (O i) l R Fs w _ A (s.nd i t n) ⟨q1,q2,S⟩ E λu H2 F' g=>?_;obtain⟨Q,P⟩:=s.mut n C g;exact k _ J H2 Q P
  ·cases e1
theorem Chg.upd{H:Hp}{t':T}(e:aJ H d)(m:a∈F)(l:Gk (d a))(r:Rp G (upd d a o) v t' f)(j:f.Nodup)(g:∀a∈f,a∈F\/H a=Y):Chg G H v F t' (upd d a o) f :=
 ⟨(Kept.of e).trans (Kept.upd (.inl l)),λb i hb h=>by rw[aE (λz=>hb (by rw[z];exact m))];exact e b i h,
  λb h z=>by
   by_cases q:b=a
   ·subst q;rw[ay]at z;cases z
   ·rw[aE q]at z;exact h (e.free z),r,j,g⟩
def RpL.off{H:Hp}(r:RpL G H f g d)(j:Gk (H a))(h:a∉d.flatten):RpL G (upd H a o) f g d :=
 r.keep (Kept.upd (.inl j)) λb hb l i=>by rw[aE (λz=>h (by rw[← z];exact hb))];exact i
def lu(h:fit v=Z t):v=(.fr,t):=by
 obtain⟨m,x⟩:=v;unfold fit at h;cases m<;>first | (cases h;rfl) | cases h
def kA:xq G pP aB:=by
 intro O U H j v t R F l q N x Q r nd A e k;unfold aB at e;split at e
 ·rename_i P y;obtain⟨z,D,e1⟩:=Zz.mp e;have E:=lu D;subst E;split at e1
  ·rename_i u;cases e1;obtain⟨a,n,Gs,rfl,rfl,i,g⟩:=r.lst_inv;obtain⟨w,f,rfl,rfl,J⟩:=(show RpL G j q [z] N from A.rp).one;have d:Fp O U H .fr f:=A.fp.each 0 _ _ L L;have p:j a=Z (.lst n):=A.same a _ i;have h:Gk (j a):=by rw[p];exact True.intro
   have na:a∉Gs.flatten:=(Zd.mp nd).1;have nw:a∉f:=λz=>by rw[d.2 a z]at i;cases i
   refine⟨a,n,w,rfl,rfl,p,by rw[g.len.1];exact u,k _ _ (a :: (Gs++[f]).flatten) ?_⟩;have off:∀b∈Gs.flatten,b∉f:=λb hb hw=>Gk.p0 (g.GF b hb) (d.2 b hw);refine Chg.upd A.same Zu h (.lst ay (((g.same A.same).off h na).append (.cons (J.keep (Kept.upd (.inl h)) λb hb o s=>by rw[aE (λz=>nw (by rw[← z];exact hb))];exact s) .nil))) ?_ ?_
   ·rw[Yf];refine Zd.mpr ⟨λm=>?_,ZQ.mpr ⟨(Zd.mp nd).2,by simpa using d.1,λb hb c C z=>?_⟩⟩
    ·rcases ZW.mp m with m | m
     ·exact na m
     ·exact nw (by simpa using m)
    ·subst z;exact off b hb (by simpa using C)
   ·intro b hb;rcases Zj.mp hb with rfl | hb
    ·exact .inl Zu
    ·rw[Yf]at hb;rcases ZW.mp hb with hb | hb
     ·exact .inl (Zt _ hb)
     ·exact .inr (d.2 b (by simpa using hb))
  ·cases e1
 ·cases e
def mD(r:Rp G H v (.lst b) F):Ls G.K "list" v H:=by
 obtain⟨a,f,Gs,rfl,rfl,d,g⟩:=r.lst_inv;exact .inl ⟨rfl,_,Gw.of d⟩
def kP(r:Rp G H v t F)(h:aB t l=Z z):Ls G.K "list" v H:=by
 unfold aB at h;split at h
 ·exact mD r
 ·cases h
end
structure Kw(G:Gx)(Jq:It)(l:Vo)(C:W6)(H:Hp):Prop where
 run:∀H2,Kept H H2->(∀a∈C,∀o,H a=some o->H2 a=some o) →
  (∀(i:Nat)(t:T),l[i]?=some t->Jq.go i H2/\∀x H3,Jq.OM i H2 x H3->aJ H2 H3/\∃F,Rp G H3 x t F/\∀a∈F,a∈C\/H2 a=none)/\∀(i:Nat),l.length<=i->Jq.stop i H2
 GF:∀a∈C,H a≠none
def TL(O:Gn)(U:VS.Env)(H:Hp)(m:Md)(C:W6):Prop:=∀a∈C,H a=Y\/du O U a\/(m=.bo/\bW O U a)
theorem Fp.c{O:Gn}{U:VS.Env}{F:W6}:∀{m:Md},Fp O U H m F->TL O U H m F
 |.fr,f=>λa b=>.inl (f.2 a b)
 |.pu,f=>λa b=>(f a b).imp id .inl
 |.bo,f=>λa b=>(f a b).imp id λz=>z.imp id λz=>⟨rfl,z⟩
def tI(G:Gx)(c:IQ):TI:=λJ H R=>∃O U m l,SR G O U J H/\c U=Z (m,l)/\∀b a C,aJ H a->Kw G b l C a->TL O U H m C->R b a
def PVI(G:Gx)(X:Cx)(b a:Expr)(c:IQ):Prop:=PI X b a (tI G c)
def PI.weak{X:Cx}{t:TI}(h:PI X b e t)(w:∀J H Q,d J H Q->t J H Q):PI X b e d:=λa s J H Q I q=>h a s J H Q I (w J H Q q)
section
variable{X:Cx}
def qX(H:Hp)(d:Int)(n:Nat):Kw G (OH d n) (rng d n) [] H:=by
 refine⟨λo _ _=>⟨λi t h=>?_,λi h=>(by simpa[rng] using h:n<=i)⟩,λa h=>by simp at h⟩;unfold rng at h;rw[ZZ]at h;obtain⟨k,g,e⟩:=Zs.mp h;obtain⟨f,e2⟩:=Zc.mp g;rw[Z3]at f;have j:i=k:=by simpa using e2
 subst j;refine⟨f,λx m ⟨e3,l⟩=>?_⟩;subst e3;subst l;rw[← e];exact⟨aJ.refl _,[],.int _,λa h=>by simp at h⟩
def js(u:PV G X a ca)(t:Gl X "range")(r:X.mg "range" = Y)(o:{`q2,K1 a [] X})(y:{`q2,Pi [a] X.env=[(B,eval a X.env)]}):PVI G X tg (.Call (.Name "range" p) [a] [] pos) (d8 ca) :=
 PI.weak (vH t r (d7 u jh o) y) λJ H R q=>by
  obtain⟨O,U,m,l,s,e,k⟩:=q;unfold d8 at e;obtain⟨⟨n,x⟩,w,e1⟩:=Zz.mp e;obtain⟨j,f,e2⟩:=Zz.mp e1;split at e2
  ·rename_i d;cases e2;refine⟨O,U,n,x,s,w,λv g F e3 i A=>?_⟩;cases x with
   |int z =>
    cases f;refine⟨j,by rw[i.int_inv],?_,?_,k _ g [] e3 (qX g 0 j.toNat) λa h=>by simp at h⟩
    ·have:=d.1;unfold Lp at this;lia
    ·have:=d.2;unfold Lp at this;lia
   |_=>cases f
  ·cases e2
def sv(E:PV G X a ca)(D:PV G X b cb)(C:Gl X "range")(z:X.mg "range" = Y)(t:{`q2,Pi [a,b] X.env=(B,eval a X.env) :: Pi [b] X.env})(Iv:{`q2,Pi [a,b] X.env=[(B,eval a X.env),(B,eval b X.env)]})(Q:{`q2,K1 b [] X})(S:{`q2,Pi [b] X.env=[(B,eval b X.env)]}) :
  PVI G X tg (.Call (.Name "range" p) [a,b] [] pos) (jP ca cb) :=
 PI.weak (uM C z (d7 E (d7 D jh Q) t) Iv S) λJ H R u=>by
  obtain⟨O,U,m,l,s,e,k⟩:=u;unfold jP at e;obtain⟨⟨r,x⟩,N,e1⟩:=Zz.mp e;obtain⟨⟨q,y⟩,L,e1⟩:=Zz.mp e1;obtain⟨i,f,e2⟩:=Zz.mp e1;obtain⟨j,d,e2⟩:=Zz.mp e2;split at e2
  ·rename_i A;cases e2;refine⟨O,U,r,x,s,N,λv H' F e3 o f3=>⟨O,U,q,y,s.same e3,L,λw g F2 P n f4=>?_⟩⟩;cases x with
   |int i' =>
    cases f;cases y with
    |int j' =>
     cases d;refine⟨i,j,by rw[o.int_inv,n.int_inv],?_,k _ g [] (e3.trans P) (qX g i (j-i).toNat) λa h=>by simp at h⟩;unfold Lp at A;omega
    |_=>cases d
   |_=>cases f
  ·cases e2
def cY{d:Xq}{i:Nat}{F:W6}(h:d[i]?=Z F){a:KF}(f:a∈F):a∈d.flatten:=(cN h).subset f
def zp{a:KF}(K:X3)(l:H a=Z (.lst d))(r:RpL G H d f j):Kw G (RT K a) f (a :: j.flatten) H:=by
 refine⟨λn k c=>?_,λb hb=>?_⟩
 ·have g:n a=Z (.lst d):=c a Zu _ l;have r2:RpL G n d f j:=r.keep k λb hb o q=>c b (Zt _ hb) o q;refine⟨λi t h=>?_,λi h=>⟨d,Gw.of g,by rw[r.len.1];exact h⟩⟩;obtain⟨v,F,m,u,s⟩:=r2.get i h;refine⟨⟨d,v,Gw.of g,m⟩,λx w ⟨e1,e2⟩=>?_⟩;subst e1;have ex:=e2 d (Gw.of g);rw[m]at ex;cases ex;exact⟨aJ.refl _,F,s,λb hb=>.inl (Zt _ (cY u hb))⟩
 ·rcases Zj.mp hb with rfl | hb
  ·rw[l];exact λz=>nomatch z
  ·exact Gk.p0 (r.GF b hb)
def B7{a:KF}(K:X3)(q:H a=Z (.tup d))(r:RpL G H d f j):Kw G (RS K a) f j.flatten H:=by
 refine⟨λm k c=>?_,λb hb=>Gk.p0 (r.GF b hb)⟩;have g:m a=Z (.tup d):=k.tup a _ q;have r2:RpL G m d f j:=r.keep k λb hb o n=>c b hb o n;refine⟨λi t h=>?_,λi h=>⟨d,GV.of g,by rw[r.len.1];exact h⟩⟩;obtain⟨v,F,l,u,s⟩:=r2.get i h;refine⟨⟨d,v,GV.of g,l⟩,λx w ⟨e1,e2⟩=>?_⟩;subst e1;have ex:=e2 d (GV.of g);rw[l]at ex;cases ex;exact⟨aJ.refl _,F,s,λb hb=>.inl (cY u hb)⟩
def tG(G:Gx)(g:Tg):TG:=λv J H Q=>∃O U t F d,SR G O U J H/\Rp G H v t F/\(∀a∈F,¬bW O U a)/\g t U=Z d ∧
 ∀f h,SR G f d h H->(∀a,bW f d a->bW O U a)->(∀a,du f d a->du O U a\/a∈F)->Q h H
def Ud(G:Gx)(l:List Tg):Ln:=λj J H Q=>∃O U h g d,SR G O U J H/\RpL G H j h g/\(∀a∈g.flatten,¬bW O U a)/\sN l h U=Z d ∧
 ∀f i,SR G f d i H->(∀a,bW f d a->bW O U a)->(∀a,du f d a->du O U a\/a∈g.flatten)->Q i H
def MT(G:Gx)(X:Cx)(e:Expr)(g:Tg):Prop:=PG X e (tG G g)
def AL(G:Gx)(X:Cx)(e:List Expr)(g:List Tg):Prop:=KS X e (Ud G g)
def PG.weak{X:Cx}{e:Expr}{t f:TG}(h:PG X e t)(w:∀v J H Q,f v J H Q->t v J H Q):PG X e f:=λd s J H v u Q I r q=>h d s J H v u Q I r (w v J H Q q)
def KS.weak{X:Cx}{e:List Expr}{t f:Ln}(h:KS X e t)(w:∀v J H Q,f v J H Q->t v J H Q):KS X e f:=λd s J H v u Q I r q=>h d s J H v u Q I r (w v J H Q q)
def bc(i:Nat)(C:X.N.Nodup)(y:{`q2,X.N[i]?=Z x})(l:{`q6,Loc X.env.scope x})(A:X.fn x=M\/X.env.scope.names.lookup x=Z .local:=by first | exact .inl L | exact .inr rfl):MT G X (.Name x pos) (bh i):=PG.weak (A6 C y l A) λv J H Q m=>by
 obtain⟨O,U,t,F,P,s,r,no,e,k⟩:=m;unfold bh at e;split at e
 ·rename_i o;cases e;refine k (kY O i F) (J.set i (Z v)) (s.put (c:=.pu t) o r (λj E n g w q=>q) (λu d=>nomatch d) (λu d=>nomatch d) λj u n g a f D=>no a D ⟨j,u,g,f⟩) (λa h=>?_) λa h=>?_
  ·rcases l5 h with⟨u,d,_⟩ | z
   ·cases d
   ·exact z
  ·rcases rJ h with⟨u,d,f⟩ | z
   ·exact .inr f
   ·exact .inl z
 ·cases e
def mE:AL G X [] []:=KS.weak zD λv J H Q f=>by
 obtain⟨O,U,g,i,d,s,r,no,e,k⟩:=f;cases r with
 |nil =>
  cases (show Z U=Z d from e);exact⟨rfl,k O J s (λ_ h=>h) λ_ h=>.inl h⟩
 |cons r q=>cases (show (Y:Option VS.Env)=Z d from e)
def fD(A:MT G X e g)(y:AL G X es i)(u:{`q2,(assignEach (e :: es) X.env).map (·.2)=assign e X.env :: (assignEach es X.env).map (·.2)}):AL G X (e :: es) (g :: i) :=
 KS.weak (vS A y u) λv J H Q w=>by
  obtain⟨O,U,L,Fs,l,s,r,no,e,k⟩:=w;cases r with
  |nil=>cases (show (Y:Option VS.Env)=Z l from e)
  |cons r q =>
   rename_i F N F' S HC R;obtain⟨j,e1,e2⟩:=Zz.mp e;refine⟨_,_,rfl,O,U,_,_,j,s,r,λa d=>no a (by rw[ZI];exact Yq _ d),e1,λD P s1 f o=>?_⟩;refine⟨D,j,_,_,l,s1,q,λa d z=>no a (by rw[ZI];exact ZP _ d) (f a z),e2,λC E m t n=>k C E m (λa h=>f a (t a h)) λa h=>?_⟩;rcases n a h with h | h
   ·rcases o a h with h | h
    ·exact .inl h
    ·exact .inr (by rw[ZI];exact Yq _ h)
   ·exact .inr (by rw[ZI];exact ZP _ h)
theorem qr:∀{i:List Tg}{f:Vo}{U d:VS.Env},sN i f U=Z d->f.length=i.length
 |[],[],_,_,_=>rfl
 |[],_ :: _,_,_,h=>nomatch h
 |_ :: _,[],_,_,h=>nomatch h
 |g :: i,t :: f,U,d,h=>by
  obtain⟨j,_,e2⟩:=Zz.mp (show (g t U).bind (λd=>sN i f d)=Z d from h);simp[qr e2]
def pD(m:X.calm=M)(h:AL G X es d)(j:{`q2,(assignEach es X.env).length=d.length})(y:{`q2,(assignEach es X.env).findIdx? (·.1)=Y})(A:{`q2,X.K=G.K}):MT G X (.Tuple es k pos) (jm d) :=
 PG.weak (Cu (n:=d.length) m h j y) λv J H Q i=>by
  obtain⟨O,U,t,F,u,s,r,no,e,q⟩:=i;unfold jm at e;split at e
  ·rename_i l;obtain⟨o,g,z,rfl,rfl,w,f⟩:=r.GR;exact⟨o,g,rfl,GV.of w,by rw[f.len.1];exact qr e,O,U,l,z,u,s,f,no,e,q⟩
  ·cases e
def oj{tgt:Tg}{body:Sx}{l:Vo}{U:VS.Env}(h:l[i]?=Z t):l.drop i=t :: l.drop (i+1):=by
 obtain⟨d,e⟩:=Zc.mp h;rw[← e];exact List.drop_eq_getElem_cons d
def BK{L:Sx}(hq:tS G (jo g ci L) D J H):E9 (tI G ci) (tG G g) (tS G L) D J H:=by
 obtain⟨O,U,o,s,e,k⟩:=hq;unfold jo at e;obtain⟨⟨m,l⟩,el,e1⟩:=Zz.mp e;dsimp only at e1;split at e1
 ·rename_i hm;have Hu:m ≠ .bo:=λz=>by rw[z]at hm;cases hm
  refine⟨O,U,m,l,s,el,λJq S C e2 ok fc=>?_⟩;have cno:∀a∈C,¬bW O U a:=λa A z=>by
   rcases fc a A with q | q | q
   ·exact Gk.p0 (s.Hn z) q
   ·exact s.J5 z q
   ·exact Hu q.1
  refine⟨λi n J2 R=>n=l.length-i/\∃Q d,SR G Q d J2 R/\GU O U H Q d R/\Kept S R/\(∀a∈C,∀o,S a=Z o->R a=Z o/\¬bW Q d a)/\forL g L (l.drop i) d=Z o,
   ⟨l.length-0,rfl,O,U,s.same e2,GU.same e2,Kept.refl _,λa A y E=>⟨E,cno a A⟩,by rw[List.drop_zero];exact e1⟩,?_⟩
  rintro i n J2 R ⟨rfl,Q,d,s2,f2,kp,con,e3⟩;obtain⟨go,stop⟩:=ok.run R kp λa A y E=>(con a A y E).1;cases hit:l[i]? with
  |none =>
   have hl:l.length<=i:=Yb.mp hit;left;rw[Xn hl]at e3;cases (show Z (Out.nx d)=Z o from e3);exact⟨stop i hl,k Q J2 R s2 f2⟩
  |some t =>
   have hl:i<l.length:=(Zc.mp hit).1;right;obtain⟨g1,y1⟩:=go i t hit;rw[oj (tgt:=g) (body:=L) (U:=d) hit]at e3;obtain⟨U3,e4,e5⟩:=Zz.mp (show (g t d).bind (λU1=>(L U1).bind λo=>match o with
    |.nx d=>forL g L (l.drop (i+1)) d
    |.ct d=>forL g L (l.drop (i+1)) d
    |.bk d=>Z (.nx d)
    |.rt v d=>Z (.rt v d))=Z o from e3)
   obtain⟨y,e6,e7⟩:=Zz.mp e5;refine⟨g1,λN r=>∃j f,SR G j f N r/\GU O U H j f r/\Kept S r/\(∀a∈C,∀o,S a=Z o->r a=Z o/\¬bW j f a)/\forL g L (l.drop (i+1)) f=Z o,λN r ⟨j,f,q⟩=>⟨l.length-(i+1),by omega,rfl,j,f,q⟩,λx H3 yl=>?_⟩;obtain⟨e8,F,rF,hF⟩:=y1 x H3 yl;have s3:=s2.same e8;have UC:∀a∈F,¬bW Q d a:=λa A z=>by
    rcases hF a A with q | q
    ·have HI:=ok.GF a q;cases E:S a with
     |none=>exact HI E
     |some UA=>exact(con a q UA E).2 z
    ·exact Gk.p0 (s2.Hn z) q
   refine⟨Q,d,t,F,U3,s3,rF,UC,e4,λO3 J3 s4 o3 p3=>?_⟩;have f3:GU O U H O3 U3 H3:=⟨λa y h n=>let ⟨h1,n1⟩:=f2.keep a y h n;⟨e8 a y h1,λz=>n1 (o3 a z)⟩,λa h z=>f2.GF a h (e8.free z),λa h=>f2.ow a (o3 a h),λa h=>by
    rcases p3 a h with h | h
    ·exact f2.pu a h
    ·rcases hF a h with q | q
     ·rcases fc a q with q | q | q
      ·exact .inr (.inr q)
      ·exact .inl q
      ·exact .inr (.inl q.2)
     ·exact .inr (.inr (f2.none q)),f2.kept.trans (Kept.of e8)⟩
   have next:∀{j f r},GU O3 U3 H3 j f r->Kept S r/\∀a∈C,∀o,S a=Z o->r a=Z o/\¬bW j f a:=λw =>
    ⟨(kp.trans (Kept.of e8)).trans w.kept,λa A y E=>by
     obtain⟨h1,n1⟩:=con a A y E;exact w.keep a y (e8 a y h1) λz=>n1 (o3 a z)⟩
   refine⟨O3,U3,y,s4,e6,?_⟩;cases y with
   |nx f=>exact λj N r P w=>⟨j,f,P,f3.trans w,(next w).1,(next w).2,e7⟩
   |ct f=>exact λj N r P w=>⟨j,f,P,f3.trans w,(next w).1,(next w).2,e7⟩
   |bk f =>
    cases (show Z (Out.nx f)=Z o from e7);exact λj N r P w=>k j N r P (f3.trans w)
   |rt v f =>
    cases (show Z (Out.rt v f)=Z o from e7);exact λu r F4 j N P w r5 q5=>k u r F4 j N P (f3.trans w) r5 (q5.back f3)
 ·cases e1
def fZ(m:PassesOwn (IR X.prog X.w) X.A X.env X.xe)(q:X.calm=M)(n:PVI G X tg d h)(o:MT G X tg g)(r:iw G X f i)(j:{`q3,∀x,UV d X.env x=pure x}):PSV G X (.For tg d f [] pos) (jo g h i):=PS.weak (BO m q n o r j) λD J H l=>BK l
end
noncomputable def Ft(H:Hp)(b:Xq):Md->W6->Prop
 |.fr,F=>F.Nodup/\∀a∈F,H a=Y
 |_,F=>∀a∈F,H a=Y\/a∈b.flatten
def Iq(G:Gx)(g:Fn):Sp:=λe H Q _=>∃b d m r,RpL G H e b d/\g b=Z (m,r)/\∀v a F,aJ H a->Rp G a v r F->Ft H d m F->Q v a
section
variable{X:Cx}
def call_of(h:tE G (bw g cs) J H Q):Bb (Iq G g) [] E (MV G cs) J H Q:=by
 obtain⟨O,U,m,t,s,e,u⟩:=h;unfold bw at e;obtain⟨l,S,e1⟩:=Zz.mp e;obtain⟨⟨n,r⟩,R,e2⟩:=Zz.mp e1;refine⟨O,U,l,s,S,λL y D b P N=>?_⟩;have A:Args G O U H y l L D:=⟨b,P,N⟩
 have i:=N.join A.len;show Iq G g (L++[]) y Q E;rw[ZE];refine⟨trees l,D,n,r,P,R,λv C F q o j=>?_⟩;have wide:(∀a∈F,y a=Y\/a∈D.flatten)->Fp O U H ((Md.pu).join (b7 l)) F:=λh=>by
  cases w:b7 l with
  |fr =>
   rw[w]at i;exact λa d=>.inl ((h a d).elim b.free (i.2 a))
  |pu =>
   rw[w]at i;exact λa d=>(h a d).elim (λz=>.inl (b.free z)) (i a)
  |bo =>
   rw[w]at i;exact λa d=>(h a d).elim (λz=>.inl (b.free z)) (i a)
 cases n with
 |fr =>
  cases e2;exact u v C F (b.trans q) o ⟨j.1,λa d=>b.free (j.2 a d)⟩
 |pu =>
  cases e2;exact u v C F (b.trans q) o (wide j)
 |bo =>
  cases e2;exact u v C F (b.trans q) o (wide j)
def zy(F:FnOk X.prog X.w X.K X.mg X.base GX k f fd ps (Iq G g))(b:pe k X.A)(j:Gl X x)(d:X.mg x=Z (.ref f))(i:PySem.W.keepIn X.K (.ref f)=M)(l:Binds X.K fd ps [])(m:GY G X (e :: es) cs)(n:{`q1,K3 x})(he:{`q2,K1 e es X})(a:{`q2,K2 pos es X}) :
  PV G X (.Call (.Name x p) (e :: es) [] pos) (bw g cs) :=
 PE.weak (zj F b j d i l .nil kQ m n he a) λJ H Q h=>call_of h
def wW(r:RpL G H d a m)(n o:Nat)(w:o=d.length):SR G (λi=>m.getD i []) (a.map (λt=>Z (.pu t))++List.replicate (n-a.length) Y) (d.map Z++List.replicate (n-o) Y) H:=by
 subst w;have A:=r.len;have back:∀{i:Nat}{c:Cell},(a.map (λt=>Z (Cell.pu t))++List.replicate (n-a.length) Y)[i]?=Z (Z c)->∃t,a[i]?=Z t/\c=.pu t:=λ{i c} h=>by
  by_cases q:i<a.length
  ·rw[ZA (by rw[Zx];exact q),ZZ]at h;obtain⟨t,l,b⟩:=Zs.mp h;exact⟨t,l,(Zk b).symm⟩
  ·rw[Ys (by rw[Zx];exact ZL q),YI]at h;split at h<;>cases h
 refine⟨by simp;lia,λi c h=>?_,λi t h=>?_,λi j t c h=>?_⟩
 ·obtain⟨t,l,rfl⟩:=back h;obtain⟨v,F,s,z,y⟩:=r.get i l;refine⟨v,?_,?_⟩
  ·have:i<d.length:=(Zc.mp s).1;rw[ZA (by rw[Zx];exact this),ZZ,s];rfl
  ·show Rp G H v t (m.getD i []);rw[Zv,z];exact y
 ·obtain⟨u,_,b⟩:=back h;cases b
 ·obtain⟨u,_,b⟩:=back h;cases b
def ir{b:Vo}:¬bW O (b.map (λt=>Z (Cell.pu t))++List.replicate n Y) a:=by
 rintro⟨i,t,h,_⟩;by_cases d:i<b.length
 ·rw[ZA (by rw[Zx];exact d),ZZ]at h;obtain⟨l,_,j⟩:=Zs.mp h;cases j
 ·rw[Ys (by rw[Zx];exact ZL d),YI]at h;split at h<;>cases h
def q8{H:Hp}{vs:List V}{j:Vo}{d:Xq}(h:du (λi=>d.getD i []) (j.map (λt=>Z (Cell.pu t))++List.replicate n Y) a):a∈d.flatten:=by
 obtain⟨i,t,_,b⟩:=h;simp only[Zv]at b;cases e:d[i]? with
 |none=>rw[e]at b;simp at b
 |some F=>rw[e]at b;exact cY e b
end
section
variable{K:X3}
def C6{d:List Str}(g:d.length=e)(h:Iq G (fn e f c) b H Q E):b.length=d.length:=by
 obtain⟨l,n,m,r,j,a,_⟩:=h;unfold fn at a;split at a
 ·rename_i i;rw[j.len.1,i,g]
 ·cases a
def BU{N:List Str}(s:N.length=f)(h:Iq G (fn p f c) vs H Q E):tS G c { nx:=λ_ d=>Q .non d,rt:=Q } (L2.start N vs) H:=by
 obtain⟨F,J,m,r,y,g,q⟩:=h;unfold fn at g;split at g
 ·rename_i t;obtain⟨o,e1,e2⟩:=Zz.mp g;have j:=wW y f vs.length L;rw[t]at j;have e3:L2.start N vs=vs.map Z++List.replicate (f-vs.length) Y:=by
   unfold L2.start;rw[s]
  rw[e3];refine⟨_,_,o,j,e1,?_⟩;cases o with
  |nx i =>
   cases e2;intro A C d l fr;exact q .non d [] (λa o h=>(fr.keep a o h ir).1) .non ⟨YL,λa h=>by simp at h⟩
  |rt v i =>
   cases e2;intro u d D A C l fr n e;refine q u d D (λa o h=>(fr.keep a o h ir).1) n ?_;cases m with
   |fr=>exact⟨e.1,λa b=>(e.2 a b).elim id λz=>absurd z ir⟩
   |pu=>exact λa b=>(e a b).elim .inl λz=>z.elim (λz=>.inr (q8 (H:=H) (vs:=vs) z)) λz=>absurd z ir
   |bo=>exact λa b=>(e a b).elim .inl λz=>z.elim (λz=>.inr (q8 (H:=H) (vs:=vs) z)) λz=>absurd z ir
  |bk i=>cases e2
  |ct i=>cases e2
 ·cases g
def Rn(F:Gv K x a b f j)(S:gV N e (ai b))(n:e.length=g)(o:N.length=i)(p:∀(d:KM)(A:Re)(outer:List PySem.Env)(s:GM)(H:Hp)(E:XK),pe k (A.deeper (envOfC a (ai b) s.heap.objs.size f d))->iw G (i7 GX P w K mg base N a (ai b) f d A outer s H E).IV (aZ b) c) :
  FnOk P w K mg base GX (k+1) f j e (Iq G (fn g i c)) :=
 F.ok S (λl H Q E h=>C6 n h) λd A outer s H l Q E m h=>⟨_,p d A outer s H E m,BU o h⟩
end
end VS
end
section
namespace L2
open PySem PySem.Spec PyProof.Rows
theorem ke(b:Env):∀(l:List (Str×NameKind))(acc:List (Str×KF)),(∀y∈l,y.2=.free->∃c,b.cells.lookup y.1=Z c)->(∀x c,acc.lookup x=Z c->b.cells.lookup x=Z c) →
  ∃cl,(forIn l acc (λx r=>if (x.snd==NameKind.free)=M then (do let a ← cellOf b x.fst;pure (ForInStep.yield ((x.fst,a) :: r))) else pure (ForInStep.yield r)):Sem (List (Str×KF)))=pure cl ∧
   (∀x c,cl.lookup x=Z c->b.cells.lookup x=Z c)/\(∀x c,acc.lookup x=Z c->∃e,cl.lookup x=Z e)/\∀y∈l,y.2=.free->∃c,cl.lookup y.1=Z c
 |[],acc,_,i=>⟨acc,rfl,i,λx c h=>⟨c,h⟩,λy d=>nomatch d⟩
 | (n,k) :: l,acc,o,i=>by
  by_cases m:k=.free
  ·subst m;obtain⟨c,p⟩:=o (n,.free) Zu L;have u:cellOf b n=pure c:=by unfold cellOf;dsimp only at p;rw[p]
   have v:∀x e,((n,c) :: acc).lookup x=Z e->b.cells.lookup x=Z e:=λx e h=>by
    rw[Yh]at h;split at h
    ·rename_i g;have:x=n:=by simpa using g
     rw[this,← h];exact p
    ·exact i x e h
   obtain⟨cl,t,s,f,q⟩:=ke b l ((n,c) :: acc) (λy d=>o y (Zt _ d)) v;refine⟨cl,?_,s,λx e h=>?_,λy d j=>?_⟩
   ·rw[WX];dsimp only;rw[Zn (show (NameKind.free==NameKind.free)=M from rfl),u,pure_bind,pure_bind];exact t
   ·by_cases g:x=n
    ·exact f x c (by rw[Yh,g];simp)
    ·refine f x e ?_;rw[Yh];have:(x==n)=B:=by simpa using g
     rw[this];exact h
   ·rcases Zj.mp d with rfl | d
    ·exact f n c (by rw[Yh];simp)
    ·exact q y d j
  ·obtain⟨cl,t,s,f,q⟩:=ke b l acc (λy d=>o y (Zt _ d)) i;refine⟨cl,?_,s,f,λy d j=>?_⟩
   ·rw[WX];dsimp only;rw[Zm (by simpa using m),pure_bind];exact t
   ·rcases Zj.mp d with rfl | d
    ·exact absurd j m
    ·exact q y d j
def zV{sc:Scope}{env:Env}(a:∀y∈sc.names,y.2=.free->∃c,env.cells.lookup y.1=Z c) :
  ∃cl,closureFor sc env=pure cl/\(∀x c,cl.lookup x=Z c->env.cells.lookup x=Z c)/\∀y∈sc.names,y.2=.free->∃c,cl.lookup y.1=Z c:=by
 obtain⟨cl,e,d,_,b⟩:=ke env sc.names [] a (λx c h=>nomatch h);refine⟨cl,?_,d,b⟩;simp only[closureFor];rw[e];rfl
def fY{l:List (Str×NameKind)}(h:l.lookup x=Z k):(x,k)∈l:=by
 induction l with
 |nil=>cases h
 |cons p l a =>
  rw[Yh]at h;split at h
  ·rename_i b;have e:x=p.1:=by simpa using b
   cases h;rw[e];exact Zu
  ·exact Zt _ (a h)
theorem cQ{a:Env}:∀{l:List (Str×NameKind)},(l.map λ(n,k)=>if (k==NameKind.free&&a.scope.kind == .function&&a.kindOf n==Z .cell) then (n,NameKind.cell) else (n,k)).lookup x=Z k →
  ∃e,l.lookup x=Z e/\(k=e\/(e=.free/\k=.cell))
 |[],h=>nomatch h
 | (n,d) :: l,h=>by
  rw[Zi,Yh]at h;by_cases f:(d==NameKind.free&&a.scope.kind == .function&&a.kindOf n==Z .cell)=M
  ·simp only[f,if_true]at h;rw[Yh];cases b:x==n with
   |true =>
    rw[b]at h;have:d=.free:=by
     have:=(Ze.mp (Ze.mp f).1).1;simpa using this
    exact⟨d,rfl,.inr ⟨this,(Zk h).symm⟩⟩
   |false=>rw[b]at h;exact cQ h
  ·simp only[f,if_false,Xm]at h;rw[Yh];cases b:x==n with
   |true=>rw[b]at h;exact⟨d,rfl,.inl (Zk h).symm⟩
   |false=>rw[b]at h;exact cQ h
def eZ(X:Cx)(N:List Str)(a:Scope)(d:List (Str×KF))(C:KF)(s:GM)(H:Hp)(b:W6):Cx :=
 { X with N:=N,s₀:=s,H₀:=H,env:=compEnvC a d C X.env,outer:=X.stack,ex:=b,fn:=λ_=>false,pn:=[],xe:=λ_ _=>False }
noncomputable def r6(a:Env)(b:Scope):Bool:=b.kind == .function&&b.names.all λy=>match y.2 with
 |.cell=>B
 |.local=>b.names.lookup y.1==Z .local
 |.free=>a.kindOf y.1==Z .cell||a.kindOf y.1==Z .free
 |_=>M
noncomputable def qI(d:Scope):List Str->List Str->Bool
 |[],[]=>M
 |a :: e,b :: bs=>((a==b&&d.names.lookup a==Z .free)||d.names.lookup a==Y||d.names.lookup a==Z .globalImplicit)&&qI d e bs
 |_,_=>B
theorem t8:∀{f bs:List Str},qI d f bs=M->f.length=bs.length/\∀(i:Nat)(x:Str),f[i]?=Z x->(bs[i]?=Z x/\d.names.lookup x=Z .free)\/d.names.lookup x=Y\/d.names.lookup x=Z .globalImplicit
 |[],[],_=>⟨rfl,λi x h=>by simp at h⟩
 |a :: f,b :: bs,h=>by
  obtain⟨g,n⟩:=Ze.mp (show (((a==b&&d.names.lookup a==Z .free)||d.names.lookup a==Y||d.names.lookup a==Z .globalImplicit)&&qI d f bs)=M from h);obtain⟨l,r⟩:=t8 n;refine⟨by simp[l],λi x e=>?_⟩;cases i with
  |zero =>
   have:a=x:=by simpa using e
   subst this;simp only[Bool.or_eq_true,Yg]at g;rcases g with (⟨m,j⟩ | z) | z
   ·exact .inl ⟨by simpa using(by simpa using m:a=b).symm,by simpa using j⟩
   ·exact .inr (.inl (by simpa using z))
   ·exact .inr (.inr (by simpa using z))
  |succ i=>simpa using r i x (by simpa using e)
 |[],_ :: _,h=>nomatch h
 |_ :: _,[],h=>nomatch h
section
variable{X:Cx}
def Inv.block{N:List Str}{sc:Scope}{cl:List (Str×KF)}{C D:KF}{fp:W6}{k:Nat}{E:SL}{t:Nat}(I:Inv X pins J H s)(P:r6 X.env sc=M)(Ld:qI sc (N.drop k) X.N=M)(Lh:k<=N.length)(g:∀x c,cl.lookup x=Z c->X.env.cells.lookup x=Z c)(MB:∀y∈sc.names,y.2=.free->∃c,cl.lookup y.1=Z c)(G:∀b∈fp,nN X pins H b)(A:s.heap.objs.size<=D)(S:s.heap.objs.size<=C)(Pj:D≠C)(Pf:C∉fp)(d:∀b u,s.heap.get? b=Z u->E.get? b=Z u)(Pc:E.Ns C m)(Rf:E.get? D=Z { cls:=.type "list",data:=.seq ([]:Vx).toArray 0 }) :
  Inv (eZ X N sc cl C s H fp) [] (List.replicate k Y++J) (upd H D (.lst [])) { s with heap:=E,toks:=t }:=by
 unfold r6 at P;rw[Yg,Z6]at P;obtain⟨hk,HS⟩:=P;have HV:sc.kind=.function:=by simpa using hk
 obtain⟨hlen,VL⟩:=t8 Ld;have HW:∀y∈sc.names,y.2 ≠ .cell:=λy hy e=>by have:=HS y hy;rw[e]at this;cases this
 have frees:∀x a,(relabel sc X.env).names.lookup x=Z a->a=.cell\/a=.free->sc.names.lookup x=Z .free:=λx a h Vk=>by
  obtain⟨n,f,Vj⟩:=cQ h;rcases Vj with e | ⟨e,_⟩
  ·subst e;rcases Vk with e | e
   ·subst e;exact absurd L (HW _ (fY f))
   ·subst e;exact f
  ·subst e;exact f
 have Li:H D=Y:=I.xt.fresh A;have VU:H C=Y:=I.xt.fresh S;refine⟨⟨I.mod,HV,I.ok.glob,I.ok.blt,S,λx y c e1 e2=>I.ok.inj x y c (g x c e1) (g y c e2),λx hx=>?_,λx c e=>(nomatch e),I.ok.hd,I.ok.frames,.inl L,λb hb=>⟨λ(e:b=C)=>Pf (e ▸ hb),λx c e=>(G b hb).2.2.2.2.1 x c (g x c e)⟩,
  I.tb,I.bs,Z2 I.ok.Lm I.sz,λb o e hb=>?_,λb hb Q=>?_,I.stack,I.Jj⟩,rfl,I.bare,Un.laid d A Li,⟨m,Pc,λi x v e1 e2 e3=>?_⟩,λx c e=>?_,?_,λx c e=>?_,λp hp=>(nomatch hp),I.xt.laid d A ?_,?_⟩
 ·have h:∃a,(relabel sc X.env).names.lookup x=Z a/\(a=.cell\/a=.free):=by
   rcases hx with e | e
   ·exact⟨_,e,.inl L⟩
   ·exact⟨_,e,.inr L⟩
  obtain⟨a,F,O⟩:=h;exact MB _ (fY (frees x a F O)) L
 ·have Q:b∈fp:=hb;rcases (G b Q).2.2.2.1 with z | z
  ·exact I.ok.J9 b o e z
  ·exact absurd (ZR (Za e) (Z2 I.ok.Lm z)) (Yj _)
 ·have VJ:b∈Ha X.stack:=Q;rcases Zj.mp (I.Ig b VJ) with z | z
  ·exact(G b hb).2.1 z
  ·exact(G b hb).2.2.1 z
 ·
  have U:k<=i:=by
   rcases Nat.lt_or_ge i k with z | z
   ·rw[ZA (by simpa using z),YI]at e2;split at e2<;>cases e2
   ·exact z
  rw[Ys (by simpa using U),Xg]at e2;have RJ:(N.drop k)[i-k]?=Z x:=by
   rw[List.getElem?_drop,show k+(i-k)=i by exact Nat.add_sub_of_le U];exact e1
  have T5:sc.names.lookup x=Z .free->∃a,(relabel sc X.env).names.lookup x=Z a/\(a=.cell\/a=.free):=λf=>by
   have w:HU (relabel sc X.env) x:=e3;rcases w with z | z | z
   ·obtain⟨n,F,O⟩:=cQ z;rw[f]at F;cases F;rcases O with q | ⟨_,q⟩<;>cases q
   ·exact⟨_,z,.inl L⟩
   ·exact⟨_,z,.inr L⟩
  have no:∀n,sc.names.lookup x=Z n->∃a,(relabel sc X.env).names.lookup x=Z a->True:=λ_ _=>⟨.local,λ_=>trivial⟩
  rcases VL _ x RJ with⟨hX,f⟩ | f | f
  ·obtain⟨a,M6,NZ⟩:=T5 f;have hf:=HS _ (fY f);have My:X.env.kindOf x=Z .cell\/X.env.kindOf x=Z .free:=by
    simpa using hf
   obtain⟨mX,hnX,Vc⟩:=I.loc;have Py:HU X.env.scope x:=My.elim (λz=>.inr (.inl z)) λz=>.inr (.inr z);obtain⟨u,r,l⟩:=Vc _ x v hX e2 Py;refine⟨u,r,.inr ⟨?_,?_⟩⟩
   ·rcases NZ with z | z
    ·subst z;exact .inl M6
    ·subst z;exact .inr M6
   ·obtain⟨c,R⟩:=MB _ (fY f) L;refine⟨c,R,?_⟩;rcases l with⟨z,_⟩ | ⟨_,c',Ja,MA⟩
    ·rcases My with q | q<;>(rw[z]at q;cases q)
    ·have:=g x c R;rw[Ja]at this;cases this;exact MA.keeps d
  ·have w:HU (relabel sc X.env) x:=e3;rcases w with z | z | z<;>(obtain⟨n,j,_⟩:=cQ z;rw[f]at j;cases j)
  ·have w:HU (relabel sc X.env) x:=e3;rcases w with z | z | z<;>(obtain⟨n,j,z2⟩:=cQ z;rw[f]at j;cases j;rcases z2 with q | ⟨q,_⟩<;>cases q)
 ·obtain⟨v,z⟩:=I.cell x c (g x c e);exact⟨v,z.keeps d⟩
 ·show upd H D (.lst []) C=Y;rw[aE (YR Pj)];exact VU
 ·obtain⟨v,z⟩:=I.cell x c (g x c e);rw[aE (Zg (ZR z.lt A))];exact I.G1 x c (g x c e)
 ·exact⟨YT _,[],0,.nil,Rf⟩
 ·show (List.replicate k Y++J).length=N.length;rw[Zo,Xg,I.len,← hlen,XR];exact Nat.add_sub_of_le Lh
def BB(X:Cx)(a:List Expr)(t:TT):Prop :=
 ∀(pins:Yx)(s:GM)(J:St)(H:Hp)(Q:Bool->Hp->Prop),Inv X pins J H s->t J H Q →
  On (IR X.prog X.w) X.A (forIn a M λc r=>if r=M then (do let ok ← isTrue c X.env (eval c X.env);pure (ForInStep.yield ok)) else pure (ForInStep.yield r)) (TP X pins J Q) X.xe s
def rq:BB X [] (λJ H Q=>Q M H):=λpins s J H Q I q=>Zr ⟨H,I,q⟩
section
def rA{s:GM}(I:Nat->GM->Prop)(l:∀n s,I n s->On (IR prog w) A (pyNext p) (λr t=>match r with
   |none=>R (.ok .next) t
   |some v=>On (IR prog w) A (letOwnedTupleGo a p v) (λ_ D=>On (IR prog w) A (assign a b v) (λ_ C =>
     On (IR prog w) A (forIn g M λc r=>if r=M then (do let ok ← isTrue c b (eval c b);pure (ForInStep.yield ok)) else pure (ForInStep.yield r)) (λok q =>
      if ok=M then On (IR prog w) A (eval i b) (λx z =>
       On (IR prog w) A (call (.builtin "list.append") [j,x]) (λ_ y=>∃m,m<n/\I m y) (λ_ _=>False) z) (λ_ _=>False) q
      else ∃m,m<n/\I m q) (λ_ _=>False) C) (λ_ _=>False) D) (λ_ _=>False) t) (λ_ _=>False) s)(n:Nat)(h:I n s) :
  codeAny (IR prog w) A (.compLoop (.ListComp i [⟨a,f,g,0⟩] d o) 0 p j b) R s:=by
 refine codeAny_loop L I (λn s O=>?_) n h;show On _ A ((compTurn (.ListComp i [⟨a,f,g,0⟩] d o) 0 p j b).onRaise (λx=>do noteFrame x b;theTreesLotGoes x)) _ _ s;refine wpAny_noted ?_;rw[compTurn_list];refine Zy (wpAny_standAt (Zy (Y3 (l n s O) (λr t E=>?_) λ_ _ e=>e.elim)));cases r with
 |none=>exact Zr E
 |some v =>
  refine Zy (Y3 E (λ_ D h₀=>?_) λ_ _ e=>e.elim);refine Zy (Y3 h₀ (λ_ C N=>Zy (Y3 N (λok q u=>?_) λ_ _ e=>e.elim)) λ_ _ e=>e.elim);cases ok with
  |false=>exact Zr ⟨rfl,u⟩
  |true =>
   rw[Zn L]at u;exact Zy (Zy (Y3 u (λx z G=>Zy (Y3 G (λ_ y F=>Zr (Zr ⟨rfl,F⟩)) λ_ _ e=>e.elim)) λ_ _ e=>e.elim))
end
def wL(k:Nat)(q:TI)(g:TG)(t:TT)(r:TE)(J:St)(H:Hp)(Q:VK):Prop:=q J H λh p=>∀D,p D=Y->∃W:Nat->Nat->St->Hp->Prop,
 (∃m,W 0 m (List.replicate k Y++J) (upd p D (.lst [])))/\∀i m j d,W i m j d->(h.stop i d/\Q (.ref D) d)\/(h.go i d/\∀x o,h.OM i d x o->g x j o λe u=>t e u λb n =>
  if b=M then r e n λy l=>∃f,l D=Z (.lst f)/\f.length<KB/\∃a,a<m/\W (i+1) a e (upd l D (.lst (f++[y]))) else ∃a,a<m/\W (i+1) a e n)
def u6{N:List Str}{use:Option (KM->Sem Unit)}(Hv:X.calm=M)(hi:PI X tg f wi)(JQ:r6 X.env sc=M)(Ld:qI sc (N.drop k) X.N=M)(Lh:k<=N.length)(Ho:∀cl C s H fp,PG (eZ X N sc cl C s H fp) tg g/\BB (eZ X N sc cl C s H fp) l tc/\PE (eZ X N sc cl C s H fp) F te)(hs:∀x,UV f X.env x=pure x)(I:Inv X pins J H s)(h:wL k wi g tc te J H Q)(hq:∀U j D C m,Inv X pins J j U->Q (.ref D) j->U.heap.Ns C m->nN X pins j C->compPost (IR X.prog X.w) X.A X.xe use QQ (.ref D) C (.ok .next) U) :
  On (IR X.prog X.w) X.A (comprehension (.ListComp F [⟨tg,f,l,0⟩] sc pos) sc X.env pos' (newList []) B (eval f X.env) use) QQ X.xe s:=by
 have Mo:=JQ;unfold r6 at Mo;rw[Yg,Z6]at Mo;obtain⟨hk,HS⟩:=Mo;have HV:sc.kind=.function:=by simpa using hk
 have HW:∀y∈sc.names,y.2 ≠ .cell:=λy E e=>by have:=HS y E;rw[e]at this;cases this
 have Mv:∀y∈sc.names,y.2=.local->sc.names.lookup y.1=Z .local:=λy E e=>by
  have:=HS y E;rw[e]at this;simpa using this
 obtain⟨cl,VG,KJ,MB⟩:=zV (sc:=sc) (env:=X.env) λy E e=>I.ok.has y.1 (by
  have:=HS y E;rw[e]at this;simpa using this)
 refine wpAny_comprehension_free (use:=use) L hs VG HV Mv (thn (hi pins s J H _ I h) λv s1 h1=>thn h1 λQy a h2=>?_);obtain⟨it,fp,tn,Jq,H2,e,I2,T,L5,f2,hW⟩:=h2;subst e;refine Yd (wpAny_newFunctionEnv HW (by intro y E;simp at E) (λh₁ I0 Ij=>?_) HV);dsimp only at I0 Ij ⊢;generalize hP:a.heap.push { cls:=.type "list",dict:=none,data:=.seq ([]:Vx).toArray }=P at I0 Ij ⊢;have Rh:P.objs.size=a.heap.objs.size+1:=by rw[← hP,Z9]
 have old:∀b o,a.heap.get? b=Z o->h₁.get? b=Z o:=λb o e =>
  Ij.extBut b o (by rw[Rh];exact Zg (YY (Za e))) (Zw _ (hP ▸ Zw _ e))
 have Pj:a.heap.objs.size≠P.objs.size:=by rw[Rh];exact Zg (Yz _)
 have Rf:h₁.get? a.heap.objs.size=Z { cls:=.type "list",data:=.seq ([]:Vx).toArray 0 }:=Ij.extBut _ _ Pj (Zw _ (hP ▸ Zh _ L));have MH:a.heap.objs.size<=P.objs.size:=by rw[Rh];exact Y5 _
 have LA:∀b∈fp,b<a.heap.objs.size:=λb hb=>let ⟨o,ho,_⟩:=T.obj 0 _ L5 b hb;Za ho
 have Pf:P.objs.size∉fp:=λhb=>absurd (ZR (LA _ hb) MH) (Yj _);have IY:=I2.block (N:=N) (sc:=sc) (cl:=cl) (C:=P.objs.size) (D:=a.heap.objs.size) (fp:=fp) (k:=k) (t:=a.toks+([]:List (Str×KM)).length) JQ Ld Lh KJ MB f2 (Zl _) MH Pj Pf old I0 Rf;obtain⟨hG,hT,hE⟩:=Ho cl P.objs.size a H2 fp;generalize hY:eZ X N sc cl P.objs.size a H2 fp=Y at IY hG hT hE;have VN:Y.prog=X.prog/\Y.w=X.w/\Y.K=X.K/\Y.A=X.A/\Y.env=compEnvC sc cl P.objs.size X.env/\Y.calm=X.calm/\(Y.xe=λ_ _=>False):=by rw[← hY];exact⟨rfl,rfl,rfl,rfl,rfl,rfl,rfl⟩
 obtain⟨R,O,y3,G,y5,y6,y7⟩:=VN;have IT:∀{j:Hp},(∀b∈fp,j b=none)->∀b∈fp,nN Y [] j b:=λ{j} hn b hb=>by
  rw[← hY];refine⟨hn b hb,λ(e:b=P.objs.size)=>Pf (e ▸ hb),λHe=>?_,.inl hb,λx c e=>(f2 b hb).2.2.2.2.1 x c (KJ x c e),λp hp=>(nomatch hp)⟩;rcases Zj.mp (I2.Ig b He) with z | z
  ·exact(f2 b hb).2.1 z
  ·exact(f2 b hb).2.2.1 z
 obtain⟨W,⟨m0,w0⟩,turn⟩:=hW a.heap.objs.size (I2.xt.fresh (Zl _));have QR:∀b∈fp,upd H2 a.heap.objs.size (.lst []) b=none:=λb hb=>by rw[aE (Zg (LA b hb))];exact(f2 b hb).1
 have Lv:tn 0 h₁:=T.keep _ _ _ L5 λb _ o e=>old b o e;have loop:codeAny (IR X.prog X.w) X.A (.compLoop (.ListComp F [⟨tg,f,l,0⟩] sc pos) 0 (.ref it) (.ref a.heap.objs.size) (compEnvC sc cl P.objs.size X.env)) (compPost (IR X.prog X.w) X.A X.xe use QQ (.ref a.heap.objs.size) P.objs.size)
   { a with heap:=h₁,toks:=a.toks+([]:List (Str×KM)).length }:=by
  refine rA (λn U=>∃i J' j,Inv Y [] J' j U/\tn i U.heap/\(∀b∈fp,j b=none)/\W i n J' j) ?_ m0 ⟨0,_,_,IY,Lv,QR,w0⟩;rintro n s3 ⟨i,J3,H3,I3,Lv,Oc,w3⟩;rcases turn i n J3 H3 w3 with⟨stop,qn⟩ | ⟨go,step⟩
  ·have q:=T.done Y R O y3 (y6.trans Hv) i [] s3 J3 H3 (λ_ _=>False) I3 (IT Oc) Lv stop;rw[G]at q;refine thn q λr s4 ⟨hr,I4⟩=>?_;subst hr;have IX:Inv X pins J H3 s4:=by
    have b4:=I4.base;have o4:=I4.os;have k4:=I4.xt;rw[← hY]at b4 o4 k4;refine I2.Ox (ch:=fp) o4 b4 k4 I4.bare λb hb=>?_;exact⟨(f2 b hb).2.2.2.1,(f2 b hb).2.1,(f2 b hb).2.2.2.2.1,(f2 b hb).2.2.2.2.2⟩
   obtain⟨mC,SK,_⟩:=I4.loc;have f4:=I4.free;rw[y5]at SK f4;exact hq s4 H3 _ P.objs.size mC IX qn SK (I2.Lj MH f4)
  ·have q:=T.item Y R O y3 (y6.trans Hv) i [] s3 J3 H3 (λ_ _=>False) I3 (IT Oc) Lv go;rw[G]at q;refine thn q λr s4 ⟨u,hr,h4⟩=>?_;subst hr;refine thn h4 λ_ s5 ⟨x,H5,I5,r5,TV,L4,Rm⟩=>?_;have RW:=I5.pinned (IT Rm) (T.obj _ _ L4);have again:∀{J7:St}{H7:Hp}{S:GM}{m:Nat},Inv Y ([]++mM fp s5.heap) J7 H7 S->W (i+1) m J7 H7->∃i J' j,Inv Y [] J' j S/\tn i S.heap/\(∀b∈fp,j b=none)/\W i m J' j:=λ{J7 H7 S m} I7 w7=>by
    refine⟨i+1,J7,H7,I7.Hg,T.keep _ _ _ L4 λb hb o e=>(I7.pin (b,o) (ZP _ (ZP _ (gT hb e)))).1,λb hb=>?_,w7⟩;obtain⟨o,e,d⟩:=T.obj _ _ L4 b hb;exact(I7.pin (b,o) (ZP _ (ZP _ (gT hb e)))).2.1
   have qa:=hG _ s5 J3 H5 x u _ RW r5 (step x H5 TV);rw[R,O,G,y5,y7]at qa;refine thn qa λ_ s6 ⟨J6,H6,I6,q6⟩=>?_;have qt:=hT _ s6 J6 H6 _ I6 q6;rw[R,O,G,y5,y7]at qt;refine thn qt λb S ⟨H7,I7,q7⟩=>?_;cases b with
   |false =>
    rw[Zm ZY]at q7 ⊢;obtain⟨m',hm,w7⟩:=q7;exact⟨m',hm,again I7 w7⟩
   |true =>
    rw[Zn L]at q7 ⊢;have qe:=hE _ S J6 H7 _ I7 q7;rw[R,O,G,y5,y7]at qe;refine thn qe λyv s8 ⟨y,H8,I8,r8,ys,VX,Vd,m',hm,w8⟩=>?_;have qp:=gF (X:=Y) _ s8 J6 H8 (.ref a.heap.objs.size) [y] (.ref a.heap.objs.size) [yv] (λ_ H9=>W (i+1) m' J6 H9) I8 L (.cons r8 .nil) ⟨_,ys,y,rfl,rfl,VX,Vd,w8⟩;rw[R,O,G,y7]at qp;refine thn qp λ_ s9 ⟨_,H9,I9,_,w9⟩=>?_;exact⟨m',hm,again I9 w9⟩
 exact codeAny_compStart_list loop (T.self _ 0 _ _ _ Lv loop)
def tm{N:List Str}(L:X.calm=M)(y:PI X l a p)(E:r6 X.env d=M)(A:qI d (N.drop k) X.N=M)(z:k<=N.length)(O:∀cl C s H fp,PG (eZ X N d cl C s H fp) l g/\BB (eZ X N d cl C s H fp) i t/\PE (eZ X N d cl C s H fp) j r)(v:{`q3,∀x,UV a X.env x=pure x}):PE X (.ListComp j [⟨l,a,i,0⟩] d n) (wL k p g t r):=by
 intro pins s J H Q I h;rw[eval_ListComp];refine u6 (use:=Y) L y E A z O v I h λu P D C m G q w f=>⟨m,w,λR F=>?_⟩
 exact⟨.ref D,P,G.turned (it:=C) (t':=u.toks) (λb o hb e=>F.extBut b o hb e) f.1 f.2.1 f.2.2.2.1 f.2.2.2.2.1 f.2.2.2.2.2,rfl,q⟩
end
end L2
end
section
namespace VS
open PySem PySem.Spec PyProof.Rows L2
noncomputable def qO(k:Nat)(g:Tg):Prop:=∀t U a,g t U=Z a->a.length=U.length/\∀i,k<=i->a[i]?=U[i]?
def fj(h:{`q1,i<k}):qO k (bh i):=λt U b e=>by
 unfold bh at e;split at e
 ·cases e;exact⟨by simp,λj a=>by rw[Y8 (by lia)]⟩
 ·cases e
theorem uE:∀{d:List Tg},(∀g∈d,qO k g)->∀b U a,sN d b U=Z a->a.length=U.length/\∀i,k<=i->a[i]?=U[i]?
 |[],_,[],U,a,e=>by cases (show Z U=Z a from e);exact⟨rfl,λ_ _=>rfl⟩
 |[],_,_ :: _,U,a,e=>nomatch e
 |_ :: _,_,[],U,a,e=>nomatch e
 |g :: d,h,t :: b,U,a,e=>by
  obtain⟨j,e1,e2⟩:=Zz.mp (show (g t U).bind (λa=>sN d b a)=Z a from e);obtain⟨p,o⟩:=h g Zu t U j e1;obtain⟨n,m⟩:=uE (λl hg=>h l (Zt _ hg)) b j a e2;exact⟨n.trans p,λi f=>(m i f).trans (o i f)⟩
def xu(f:qO k b)(d:qO k a):qO k (jm [b,a]):=λt U h e=>by
 unfold jm at e;split at e
 ·refine uE (λg hg=>?_) _ U h e;rcases Zj.mp hg with rfl | hg
  ·exact f
  ·rw[Zf.mp hg];exact d
 ·cases e
theorem pk:∀(l:Vo){i:Nat}{t:T},cL l=M->l[i]?=Z t->FZ t=M
 |[],_,_,_,h=>by simp at h
 |x :: l,0,t,h,e=>by
  have h:=Ze.mp h;simp at e;rw[← e];exact h.1
 |x :: l,i+1,t,h,e=>by
  have h:=Ze.mp h;exact pk l h.2 (by simpa using e)
def tC(G:Gx):Option Ex->TT
 |none=>λJ H Q=>Q M H
 |some c=>tT G c
section
def jR:(List.replicate k Y++U)[i]?=Z (Z c)↔k<=i/\U[i-k]?=Z (Z c):=by
 rcases Nat.lt_or_ge i k with h | h
 ·rw[ZA (by simpa using h),YI];constructor
  ·intro e;split at e<;>cases e
  ·intro ⟨e,_⟩;lia
 ·rw[Ys (by simpa using h),Xg];exact⟨λe=>⟨h,e⟩,λe=>e.2⟩
def yy:bW (λi=>O (i-k)) (List.replicate k Y++U) a↔bW O U a:=by
 constructor
 ·rintro⟨j,t,d,b⟩;exact⟨j-k,t,(jR.mp d).2,b⟩
 ·rintro⟨j,t,d,b⟩;refine⟨j+k,t,jR.mpr ⟨Nat.le_add_left _ _,by rw[Wr];exact d⟩,?_⟩;show a∈O (j+k-k);rw[Wr];exact b
def yu:du (λi=>O (i-k)) (List.replicate k Y++U) a↔du O U a:=by
 constructor
 ·rintro⟨j,t,d,b⟩;exact⟨j-k,t,(jR.mp d).2,b⟩
 ·rintro⟨j,t,d,b⟩;refine⟨j+k,t,jR.mpr ⟨Nat.le_add_left _ _,by rw[Wr];exact d⟩,?_⟩;show a∈O (j+k-k);rw[Wr];exact b
def SR.sh(s:SR G O U J H):SR G (λi=>O (i-k)) (List.replicate k Y++U) (List.replicate k Y++J) H:=by
 refine⟨by simp[s.len],λi c h=>?_,λi t h=>?_,λi j t c b a n=>?_⟩
 ·obtain⟨b,a⟩:=jR.mp h;obtain⟨v,e,d⟩:=s.rp _ c a;refine⟨v,?_,d⟩;rw[Ys (by simpa using b),Xg];exact e
 ·exact s.nd _ t (jR.mp h).2
 ·obtain⟨m,g⟩:=jR.mp b;obtain⟨l,f⟩:=jR.mp a;exact s.sep _ _ t c g f (by lia)
def SR.less{U:VS.Env}(s:SR G O a J H)(b:U.length=a.length)(h:∀(i:Nat) c,U[i]?=Z (Z c)->a[i]?=Z (Z c)):SR G O U J H :=
 ⟨b.trans s.len,λi c e=>s.rp i c (h i c e),λi t e=>s.nd i t (h i _ e),λi j t c e1 e2 n=>s.sep i j t c (h i _ e1) (h j _ e2) n⟩
def SR.off(s:SR G O U J H)(m:Gk (H D)\/H D=Y)(d:¬du O U D)(a:¬bW O U D):SR G O U J (upd H D o):=by
 refine⟨s.len,λi c e=>?_,s.nd,s.sep⟩;obtain⟨v,h,g⟩:=s.rp i c e;refine⟨v,h,g.keep (Kept.upd m) λb hb j f=>?_⟩;rw[aE λz=>?_]
 ·exact f
 ·subst z;cases c with
  |pu t=>exact d ⟨i,t,e,hb⟩
  |ow t=>exact a ⟨i,t,e,hb⟩
theorem mY:∀(l:Vq)(v:Val),b7 (l++[v])=(b7 l).join v.1
 |[],(m,t)=>by cases m<;>rfl
 | (m,t) :: l,v=>by
  show m.join (b7 (l++[v]))=(m.join (b7 l)).join v.1;rw[mY l v];generalize b7 l=q;generalize v.1=r;cases m<;>cases q<;>cases r<;>rfl
def Fp.NO(f:Fp O U H m F)(g:Fp O U H n j)(d:n=.fr->∀a∈F,a∉j):Fp O U H (m.join n) (F++j):=by
 have both:∀{P:KF->Prop},(∀a∈F,P a)->(∀a∈j,P a)->∀a∈F++j,P a:=λp q a h=>(ZW.mp h).elim (p a) (q a);cases m<;>cases n
 ·exact⟨ZQ.mpr ⟨f.1,g.1,λa i b hb e=>d L a i (e ▸ hb)⟩,both f.2 g.2⟩
 ·exact both (λa i=>.inl (f.2 a i)) g
 ·exact both (λa i=>.inl (f.2 a i)) g
 ·exact both f λa i=>.inl (g.2 a i)
 ·exact both f g
 ·exact both (λa i=>(f a i).imp id .inl) g
 ·exact both f λa i=>.inl (g.2 a i)
 ·exact both f λa i=>(g a i).imp id .inl
 ·exact both f g
def Fp.Ov(f:Fp O U H m F)(h:H D=Y)(d:D∉F):Fp O U H m (D :: F):=by
 have all:∀{P:KF->Prop},P D->(∀a∈F,P a)->∀a∈D :: F,P a:=λp q a b=>(Zj.mp b).elim (λe=>e ▸ p) (q a);cases m
 ·exact⟨Zd.mpr ⟨d,f.1⟩,all h f.2⟩
 ·exact all (.inl h) f
 ·exact all (.inl h) f
end
section
def CI(G:Gx)(O:Gn)(U b:VS.Env)(H p:Hp)(D:KF)(l:Vo)(h:Vq)(q:Tg)(d:Option Ex)(r:Ex)(i n:Nat)(s:L2.St)(f:Hp):Prop:=n=l.length-i/\∃e g j m rest,SR G e b s f/\(∀a,bW e b a->bW O U a)/\(∀a,du e b a->H a=Y\/du O U a)/\¬du e b D/\¬bW e b D/\Kept p f ∧
     (∀a o,a≠D->p a=Z o->f a=Z o)/\f D=Z (.lst m)/\RpL G f m (trees g) j/\D∉j.flatten/\Fp O U H (b7 g) j.flatten/\mf q d r b (l.drop i)=Z rest/\g++rest=h
def ua{G:Gx}{k:Nat}{tg:Tg}{ci:IQ}{cond:Option Ex}{ce:Ex}{J:L2.St}{H:Hp}{Q:VK}(Ho:qO k tg)(h:tE G (cz k tg ci cond ce) J H Q):wL k (tI G ci) (tG G tg) (tC G cond) (tE G ce) J H Q:=by
 refine L2.jL λP_ S=>?_;obtain⟨O,U,m,r,s,e,kq⟩:=h;unfold cz at e;obtain⟨⟨mi,l⟩,el,e1⟩:=Zz.mp e;dsimp only at e1;split at e1
 ·rename_i xt;obtain⟨all,ea,e2⟩:=Zz.mp e1;unfold Ir at e2;split at e2
  ·rename_i hlen;cases e2;refine S ?_;refine⟨O,U,mi,l,s,el,λJq H1 C e3 ok fc D hD=>?_⟩;have Li:H D=Y:=e3.free hD;let U0:VS.Env:=List.replicate k Y++U
   have good:∀{t:T}{i:Nat}{P H2:Hp}{v:V}{F:W6},l[i]?=Z t->Rp G H2 v t F->(∀a,H1 a≠Y->P a≠Y)->(∀a∈F,a∈C\/P a=Y)->∀a∈F,(H a=Y\/du O U a)/\¬bW O U a:=λ{t i P H2 v F} hi rF keep hF a d=>by
    have GF:∀{b},H b≠Y->P b≠Y:=λ{b} hb=>keep b λz=>hb (e3.free z);rcases hF a d with z | z
    ·rcases fc a z with q | q | ⟨q,w⟩
     ·exact⟨.inl q,λw=>Gk.p0 (s.Hn w) q⟩
     ·exact⟨.inr q,λw=>s.J5 w q⟩
     ·subst q;have:FZ t=M:=by
       exact pk l xt hi
      rw[rF.FZ this]at d;simp at d
    ·have hz:H a=Y:=Classical.byContradiction λq=>GF q z;exact⟨.inl hz,λw=>Gk.p0 (s.Hn w) hz⟩
   refine⟨CI G O U U0 H H1 D l all tg cond ce,?_,?_⟩
   ·refine⟨l.length-0,rfl,λi=>O (i-k),[],[],[],all,?_,λa h=>yy.mp h,λa h=>.inr (yu.mp h),λh=>?_,λh=>?_,Kept.upd (.inr hD),λa o n h=>by rw[aE n];exact h,ay,.nil,by simp,Fp.nil,by rw[List.drop_zero];exact ea,rfl⟩
    ·exact((s.same e3).sh).off (.inr hD) (λh=>Gk.p0 (s.J0 (yu.mp h)) Li) λh=>Gk.p0 (s.Hn (yy.mp h)) Li
    ·exact Gk.p0 (s.J0 (yu.mp h)) Li
    ·exact Gk.p0 (s.Hn (yy.mp h)) Li
   ·intro i n J' P VA;refine L2.jL λP_ S=>?_;obtain⟨rfl,O1,R,Fs,xs,rest,s1,Se,Uw,UB,UD,kp,old,Na,rp,nD,fp,er,ev⟩:=VA;refine S ?_;have Jm:∀a,H1 a≠Y->P a≠Y:=λa d z=>by
     by_cases q:a=D
     ·subst q;rw[Na]at z;cases z
     ·cases e:H1 a with
      |none=>exact d e
      |some o=>rw[old a o q e]at z;cases z
    refine L2.jL λP_ S=>?_;obtain⟨go,stop⟩:=ok.run P kp λa d o ho=>old a o (λz=>ok.GF a d (z ▸ hD)) ho;cases hit:l[i]? with
    |none =>
     have hl:l.length<=i:=Yb.mp hit;refine S ?_;left;refine⟨stop i hl,?_⟩;rw[Xn hl]at er;cases (show Z ([]:Vq)=Z rest from er);rw[ZE]at ev;subst ev;refine kq (.ref D) P (D :: Fs.flatten) (λa o h=>old a o (λz=>by rw[z,Li]at h;cases h) (e3 a o h)) (.lst Na rp) ?_;by_cases hi:cL (trees R)=M
     ·rw[Zn hi,rp.FZ hi];exact⟨by simp,λa d=>by rw[Zf.mp d];exact Li⟩
     ·rw[Zm hi];exact fp.Ov Li nD
    |some t =>
     have hl:i<l.length:=(Zc.mp hit).1;obtain⟨g1,y1⟩:=go i t hit;refine S ?_;right;refine⟨g1,λx H2 yl=>?_⟩;refine L2.jL λP_ S=>?_;obtain⟨E,F,rF,hF⟩:=y1 x H2 yl;rw[oj (tgt:=tg) (body:=eD) (U:=U) hit]at er;rw[mf]at er;obtain⟨p,e4,e5⟩:=Zz.mp er;obtain⟨b,eb,e6⟩:=Zz.mp e5;have gd:=good hit rF Jm hF;have s2:=s1.same E;have DF:D∉F:=λh=>by
      rcases hF D h with z | z
      ·exact ok.GF D z hD
      ·rw[Na]at z;cases z
     refine S ?_;refine⟨O1,U0,t,F,p,s2,rF,λa d z=>(gd a d).2 (Se a z),e4,λg J3 s3 o3 p3=>?_⟩;obtain⟨tl,Nk⟩:=Ho t U0 p e4;have low:∀j c,U0[j]?=Z (Z c)->p[j]?=Z (Z c):=λj c h=>by rw[Nk j (jR.mp h).1];exact h
     have OZ:∀a,du g p a->H a=Y\/du O U a:=λa h=>(p3 a h).elim (Uw a) λh=>(gd a h).1;have PU:∀a,bW g p a->bW O U a:=λa h=>Se a (o3 a h);have ND:¬du g p D:=λh=>(p3 D h).elim UB DF;have O7:¬bW g p D:=λh=>UD (o3 D h);have OY:∀a,du g U0 a->du g p a:=λa ⟨j,u,h1,h2⟩=>⟨j,u,low j _ h1,h2⟩
     have O0:∀a,bW g U0 a->bW g p a:=λa ⟨j,u,h1,h2⟩=>⟨j,u,low j _ h1,h2⟩
     have Lx:∀A,aJ H2 A->(if b=M then tE G ce J3 A λy N=>∃ys,N D=Z (.lst ys)/\ys.length<KB/\∃m',m'<l.length-i/\CI G O U U0 H H1 D l all tg cond ce (i+1) m' J3 (upd N D (.lst (ys++[y]))) else ∃m',m'<l.length-i/\CI G O U U0 H H1 D l all tg cond ce (i+1) m' J3 A):=λA f=>by
      have eo:∀{N},aJ A N->∀a o,P a=Z o->N a=Z o:=λ{N} Nb a o h=>Nb a o (f a o (E a o h));cases b with
      |false =>
       rw[Zm ZY]at e6 ⊢;have same:=eo (aJ.refl A);exact⟨_,by lia,rfl,g,R,Fs,xs,rest,(s3.same f).less (by rw[tl]) low,λa h=>PU a (O0 a h),λa h=>OZ a (OY a h),λh=>ND (OY D h),λh=>O7 (O0 D h),kp.trans ((Kept.of E).trans (Kept.of f)),λa o n h=>same a o (old a o n h),same D _ Na,rp.same (aJ.trans E f),nD,fp,e6,ev⟩
      |true =>
       rw[Zn L]at e6 ⊢;obtain⟨⟨mv,tv⟩,ece,e7⟩:=Zz.mp e6;obtain⟨Nw,YE,TC⟩:=Zs.mp e7;refine⟨g,p,mv,tv,s3.same f,ece,λy N Fy Nb ry X=>?_⟩;have same:=eo Nb;have Ta:=same D _ Na;have Pa:Gk (N D):=by rw[Ta];exact True.intro
       have Rg:A D=Z (.lst xs):=f D _ (E D _ Na);have J8:∀a,A a=Y->H a=Y:=λa h=>Classical.byContradiction λq=>Jm a (λz=>q (e3.free z)) (E.free (f.free h));have V2:Fp O U H mv Fy:=by
        cases mv with
        |fr=>exact⟨X.1,λa d=>J8 a (X.2 a d)⟩
        |pu=>exact λa d=>(X a d).elim (λz=>.inl (J8 a z)) (OZ a)
        |bo=>exact λa d=>(X a d).elim (λz=>.inl (J8 a z)) λz=>z.elim (λz=>(OZ a z).imp id .inl) λz=>.inr (.inr (PU a z))
       have TN:D∉Fy:=λh=>by
        cases mv with
        |fr=>have:=X.2 D h;rw[Rg]at this;cases this
        |pu=>exact(X D h).elim (λz=>by rw[Rg]at z;cases z) ND
        |bo=>exact(X D h).elim (λz=>by rw[Rg]at z;cases z) λz=>z.elim ND O7
       have Up:RpL G N xs (trees R) Fs:=rp.same ((E.trans f).trans Nb);have UJ:xs.length=R.length:=by rw[rp.len.1];simp
       have UK:R.length<all.length:=by rw[← ev,← TC];simp
       refine⟨xs,Ta,?_,_,by lia,rfl,g,R++[(mv,tv)],Fs++[Fy],xs++[y],Nw,(((s3.same f).same Nb).off (.inl Pa) ND O7).less (by rw[tl]) low,λa h=>PU a (O0 a h),λa h=>OZ a (OY a h),λh=>ND (OY D h),λh=>O7 (O0 D h),?_,λa o n h=>?_,ay,?_,?_,?_,YE,?_⟩
       ·have SM:all.length<=dq:=by simpa using hlen
        have:KB=dq:=rfl;lia
       ·exact(kp.trans ((Kept.of E).trans ((Kept.of f).trans (Kept.of Nb)))).trans (Kept.upd (.inl Pa))
       ·rw[aE n];exact same a o (old a o n h)
       ·have:trees (R++[(mv,tv)])=trees R++[tv]:=by simp
        rw[this];exact(Up.off Pa nD).append (.cons (ry.keep (Kept.upd (.inl Pa)) λb hb o ho=>by rw[aE (λz=>TN (by rw[← z];exact hb))];exact ho) .nil)
       ·rw[Yf];intro h;rcases ZW.mp h with z | z
        ·exact nD z
        ·exact TN (by simpa using z)
       ·rw[Yf,mY];have:([Fy]:Xq).flatten=Fy:=by simp
        rw[this];refine fp.NO V2 λhm a d hb=>?_;subst hm;have h4:=X.2 a hb;have:Gk (A a):=(rp.same (E.trans f)).GF a d;rw[h4]at this;exact this
       ·rw[Z4,← ev,← TC];rfl
     cases cond with
     |none =>
      cases (show Z M=Z b from eb);exact Lx H2 (aJ.refl H2)
     |some c =>
      obtain⟨⟨mc,xc⟩,ec1,MM⟩:=Zz.mp eb;exact⟨g,p,mc,xc,b,s3,ec1,MM,λA f=>Lx A f⟩
  ·cases e2
 ·cases e1
end
section
variable{X:Cx}
def gU(k:Nat)(N:List Str)(l:X.calm=M)(b:PVI G X tg iter ci)(m:qO k g)(d:∀cl C s H fp,MT G (eZ X N sc cl C s H fp) tg g)(he:∀cl C s H fp,PV G (eZ X N sc cl C s H fp) elt ce)(j:{`q2,r6 X.env sc=M})(f:{`q2,qI sc (N.drop k) X.N=M})(e:{`q1,k<=N.length})(a:{`q3,∀x,UV iter X.env x=pure x}) :
  PV G X (.ListComp elt [⟨tg,iter,[],0⟩] sc pos) (cz k g ci Y ce) :=
 PE.weak (tm l b j f e (λcl C s H fp=>⟨d cl C s H fp,rq,he cl C s H fp⟩) a) λJ H Q h=>ua (cond:=Y) m h
end
end VS
end
section
namespace VS
open PySem PySem.Spec PyProof.Rows L2
noncomputable instance {s:Tx}:Decidable (nI s):=inferInstanceAs (Decidable (_/\_))
section
variable{X:Cx}
def w_add(f:PV G X a ca)(d:PV G X b cb):PV G X (.BinOp a .Add b pos) (e2 da ca cb):=g8 Am Cz f d
def iQ(f:PV G X a ca)(d:PV G X b cb):PV G X (.BinOp a .FloorDiv b pos) (e2 cn ca cb):=g8 Aw A3 f d
def w_mod(f:PV G X a ca)(d:PV G X b cb):PV G X (.BinOp a .Mod b pos) (e2 oMod ca cb):=g8 Dy Dl f d
def qu(d:pe k X.A)(g:PV G X a ca)(f:PV G X b cb):Iw G X (.Compare a [.Eq] [b] pos) (e2 oEq ca cb):=ft (xD d.units) Ba tells_eq g f (iL _)
def lE(d:pe k X.A)(g:PV G X a ca)(f:PV G X b cb):Iw G X (.Compare a [.NotEq] [b] pos) (e2 IL ca cb):=ft (BP d.units) Ez yf g f (iL _)
def bq(g:PV G X a ca)(f:PV G X b cb)(d:jQ b:=by intro _ _;rfl)(i:{`q2,X.K=G.K}):PV G X (.Subscript a b pos) (e2 aC ca cb) :=
 PE.weak (uv pR g f d) λJ H Q h=>by rw[i];exact j8 wG h
def cU(d:X.mg "len" = Y)(g:GY G X [e] cs)(f:{`q2,Gl X "len"})(h:{`q2,X.K=G.K})(he:{`q2,K1 e [] X}):PV G X (.Call (.Name "len" p) [e] [] pos) (eN bX cs) :=
 gx (h ▸ uP) Ce f d PySem.boot_len g (he:=he) (hpl:=rfl)
def BS:bootBuiltins ("max" : Str)=Z (.builtin "max"):=by decide +kernel
def Cn:bootBuiltins ("min" : Str)=Z (.builtin "min"):=by decide +kernel
def AW:bootBuiltins ("list" : Str)=Z (.type "list"):=by decide +kernel
def Cb(d:X.mg "max" = Y)(h:GY G X [a,b] cs)(g:{`q2,X.calm=M})(f:{`q2,Gl X "max"})(he:{`q2,Pi [a,b] X.env=(B,eval a X.env) :: Pi [b] X.env})(hpl:{`q2,(backTo pos (Pi [b] X.env)).any (·.1)=B}):PV G X (.Call (.Name "max" p) [a,b] [] pos) (eN pZ cs) :=
 gx (vf g) AJ f d BS h (he:=he) (hpl:=hpl)
def Df(d:X.mg "min" = Y)(h:GY G X [a,b] cs)(g:{`q2,X.calm=M})(f:{`q2,Gl X "min"})(he:{`q2,Pi [a,b] X.env=(B,eval a X.env) :: Pi [b] X.env})(hpl:{`q2,(backTo pos (Pi [b] X.env)).any (·.1)=B}):PV G X (.Call (.Name "min" p) [a,b] [] pos) (eN rn cs) :=
 gx (vC g) zq f d Cn h (he:=he) (hpl:=hpl)
noncomputable def MU:Ty->Str
 |.int => "int" |.str => "str" |.bool => "bool" |.list => "list" |.tuple => "tuple" |.dict => "dict"
def El(t:Ty):bootBuiltins (MU t)=Z (.type (JL t)):=by cases t<;>decide +kernel
def w_is(t:Ty)(f:X.mg "isinstance" = Y)(l:X.mg (MU t)=Y)(h:PV G X a ca)(g:{`q2,Gl X "isinstance"})(j:{`q2,Gl X (MU t)})(i:{`q2,X.K=G.K})(d:{`q2,Pi [a,.Name (MU t) p2] X.env=(B,eval a X.env) :: Pi [.Name (MU t) p2] X.env}):PV G X (.Call (.Name "isinstance" p1) [a,.Name (MU t) p2] [] pos) (Oj t ca) :=
 EW t h g f j l (El t) i (by cases t<;>decide) (by cases t<;>decide) d L L
def iE{apos:Pos}(i:Nat)(m:GY G X [e] cs)(o:{`q2,X.K=G.K})(n:{`q2,X.N[i]?=Z x})(f:{`q5,HU X.env.scope x})(j:{`q1,K3 x})(d:{`q1,K4 x})(s:{`q2,((backTo cg (Pi [e] X.env)).all (λx=>!x.1)&&(backToKw cg (SB [] X.env)).all (λx=>x.1.isSome)
   && decide ([e].length+([]:List Keyword).length+(if ([]:List Keyword).isEmpty then 0 else 1)<30))=M})(q:{`q2,(apos.endLine==cg.line)=M})(g:{`q2,K1 e [] X}) :
  PSV G X (.Expr (.Call (.Attribute (.Name x p1) "append" apos) [e] [] cg) pos) (sX (lV i [] aB cs)) :=
 yh i Xu XM XO gF kA (λH v t F l z r h=>kP r h) m o n f j d L s q g L L
end
structure FnAt(P:P3)(w:SZ)(K:X3)(mg:Wu)(base:SL)(k:Nat)(x:Str)(ps:List Str)(G:Gx)(g:Fn):Prop where
 ex:∃f fd,FnOk P w K mg base GX k f fd ps (Iq G g)/\mg x=some (.ref f)/\PySem.W.keepIn K (.ref f)=true/\Binds K fd ps []
section
variable{X:Cx}
def cV(F:FnAt X.prog X.w X.K X.mg X.base k x ps G g)(b:pe k' X.A)(i:GY G X (e :: es) cs)(d:{`q1,k<=k'})(h:{`q2,Gl X x})(o:{`q1,K3 x})(he:{`q2,K1 e es X})(a:{`q2,K2 pos es X}) :
  PV G X (.Call (.Name x p) (e :: es) [] pos) (bw g cs):=by
 obtain⟨f,fd,n,m,l,j⟩:=F.ex;exact zy n (b.mono d) h m l j i o he a
end
section
variable{K:X3}
def jb(F:Gv K x x a f i)(m:mg x=Z (.ref f))(S:gV N b (ai a))(j:b.length=g)(l:N.length=h)(o:∀(kV doc pm:KM)(an:Option KF)(d ct:KM)(e:Vx),e.length=b.length->bindArgs (PySem.W.fnOf x x (cE a) (aZ a) (ai a) .none kV doc pm an d ct) ⟨e,[]⟩=pure (b.zip e))(n:∀(d:KM)(A:Re)(outer:List PySem.Env)(s:GM)(H:Hp)(E:XK),pe k (A.deeper (envOfC x (ai a) s.heap.objs.size f d))->iw G (i7 GX P w K mg base N x (ai a) f d A outer s H E).IV (aZ a) c) :
  FnAt P w K mg base (k+1) x b G (fn g h c) :=
 ⟨f,i,Rn F S j l n,m,F.kp,F.binds o⟩
end
end VS
end
section
namespace L2
open PySem PySem.Spec PyProof.Rows
noncomputable def IQ(x:Str):It:=⟨λi _=>i<x.cps.size,λi H v a=>a=H/\∃c,x.cps[i]?=Z c/\v=.str ⟨#[c]⟩,λi _=>x.cps.size<=i⟩
def nR{K:X3}{L:Expr}(x:Str)(t:Tok)(a:KF)(j:String)(S:["enumerate", "zip", "dict_itemiterator", "dict_reverseitemiterator", "odict_iterator", "itertools.zip_longest", "itertools.pairwise"].contains j=B)(W:∀A:Re,A.handled=Y->Walks P w A a [a] [a] x.cps.size (λi v=>∃c u,x.cps[i]?=Z c/\v=.str ⟨#[c]⟩ u) (λi h=>h.IsStrIter a j x t i))(QU:∀(A:Re),A.handled=Y->∀(i:Nat)(s:GM)(Q:Vw->GM->Prop)(E:Z1),s.heap.IsStrIter a j x t i->x.cps[i]?=Y->(∀g,Heap.ExtBut a s.heap g->Q Y { s with heap:=g })->On (IR P w) A (pyNext (.ref a)) Q E s)(NT:∀(A:Re)(i:Nat)(s:GM)(Q:Z1)(E:Z1),s.heap.IsStrIter a j x t i->Q (.ref a) s->On (IR P w) A (pyIter (.ref a)) Q E s) :
  Turn P w K L (IQ x) [a] a (λi h=>h.IsStrIter a j x t i) where
 mem:=by simp
 obj:=λi h st b hb=>by
  rw[Zf.mp hb];obtain⟨o,e,c,d⟩:=st;exact⟨o,e,λv z=>by rw[d]at z;cases z⟩
 keep:=λi h g st k=>let ⟨o,e,r⟩:=st;⟨o,k a (by simp) o e,r⟩
 item:=by
  intro X n hw p m i f s J H E I l st hg;subst n hw p;obtain⟨D,f1,f2,C,y,q⟩:=l a (by simp);refine(W X.A (I.ok.hd m)).item i s _ _ hg st λv g F R G N=>?_;obtain⟨c,u,Ja,rfl⟩:=R;have I1:Inv X f J H { s with heap:=g,toks:=F }:=I.turned (λb o hb e=>N b o (by simpa using hb) e) D f1 C y q;obtain⟨o,e,c1,d⟩:=id G;exact⟨_,rfl,rm (s:={ s with heap:=g,toks:=F }) e c1 d S ⟨.str ⟨#[c]⟩,H,I1,⟨u,rfl⟩,⟨rfl,c,Ja,rfl⟩,G,λb hb=>(l b hb).1⟩⟩
 done:=by
  intro X n hw p m i f s J H E I l st hg;subst n hw p;obtain⟨D,f1,f2,C,y,q⟩:=l a (by simp);have O:x.cps.size<=i:=hg;exact QU X.A (I.ok.hd m) i s _ _ st (by simp[O]) λg U=>⟨rfl,I.turned (t':=s.toks) (λb o hb e=>U b o hb e) D f1 C y q⟩
 self:=λA i s Q E st h=>NT A i s Q E st h
def ya{K:X3}(x:Str)(t:Tok)(a:KF):Turn P w K g (IQ x) [a] a (λi h=>h.IsStrIter a (strIterType x) x t i):=by
 cases f:x.cps.all (· < 128)
 ·have e:strIterType x = "str_iterator" := by simp[strIterType,f]
  rw[e];exact nR x t a "str_iterator" rfl (λA b=>Walks.strWide b a x t) (λA b i s Q E st d q=>wpAny_pyNext_wide_end b st d q) λA i s Q E st q=>wpAny_pyIter_striter_wide st q
 ·have e:strIterType x = "str_ascii_iterator" := by simp[strIterType,f]
  rw[e];exact nR x t a "str_ascii_iterator" rfl (λA b=>Walks.strAscii b a x t) (λA b i s Q E st d q=>wpAny_pyNext_ascii_end b st d q) λA i s Q E st q=>wpAny_pyIter_striter_ascii st q
section
variable{X:Cx}
def Eg(K:X3)(f:TE):TI:=λJ H R=>f J H λx d=>(∃a,x=.ref a/\(∃e,Gw K d a e)/\R (RT K a) d)\/(∃a,x=.ref a/\(∃e,GV K d a e)/\R (RS K a) d)\/∃z,x=.str z/\R (IQ z) d
def AO(y:PE X l tl):PI X tg l (Eg X.K tl):=by
 intro d s J H R I h;refine thn (y d s J H _ I h) λv s1 ⟨x,g,f,r1,u⟩=>?_;have j:∀b∈[s1.heap.objs.size],nN X d g b:=λb hb=>by
  rw[Zf.mp hb];exact f.Lj (Zl _) (f.xt.fresh (Zl _))
 rcases u with⟨a,e,⟨n,i⟩,q⟩ | ⟨a,e,⟨n,i⟩,q⟩ | ⟨z,e,q⟩
 ·subst e;cases r1;obtain⟨m,r,p,w⟩:=f.list i;exact wpAny_pyIter_list p.isList ⟨s1.heap.objs.size,[s1.heap.objs.size],_,_,g,rfl,f.kept (t':=s1.toks) λb o e=>Zw _ e,vv a _,⟨_,Zh _ L,rfl,rfl⟩,j,q⟩
 ·subst e;cases r1;obtain⟨m,r,p,w⟩:=f.tuple i;exact wpAny_pyIter_tuple (show s1.heap.IsTuple a m.toArray from p) ⟨s1.heap.objs.size,[s1.heap.objs.size],_,_,g,rfl,f.kept (t':=s1.toks) λb o e=>Zw _ e,sA a _,⟨_,Zh _ L,rfl,rfl⟩,j,q⟩
 ·subst e;obtain⟨t,rfl⟩:=r1;exact wpAny_pyIter_strU ⟨s1.heap.objs.size,[s1.heap.objs.size],_,_,g,rfl,f.kept (t':=s1.toks) λb o e=>Zw _ e,ya z t _,⟨_,Zh _ L,rfl,rfl⟩,j,q⟩
def AM{s:GM}{d:SL}(g:∀b x,b∉[s.heap.objs.size]->(s.heap.push o).get? b=Z x->d.get? b=Z x)(b:KF)(x:Obj)(e:s.heap.get? b=Z x):d.get? b=Z x :=
 g b x (λf=>Yj _ (by have:=Za e;rw[Zf.mp f]at this;exact this)) (Zw _ e)
def wj(F:X.calm=M):cB X (.builtin "sum") (λo H Q=>∃p,∃ns:Vu,o=[.ref p]/\Gw X.K H p (ns.map V.int)/\Q (.int ns.sum) H):=by
 intro r s J H o N Q I z h;obtain⟨p,ns,rfl,E,q⟩:=h;obtain⟨u,rfl,j⟩:=z.one;cases j;obtain⟨d,g,pl,P⟩:=I.list E;have w:p<s.heap.objs.size:=by obtain⟨_,e,_⟩:=pl.isList;exact Za e
 refine call_sum_walkG (wpAny_pyIter_list pl.isList ⟨s.heap.objs.size,[s.heap.objs.size,p],[s.heap.objs.size],d.toArray.size,_,_,λi=>(ns[i]?).getD 0,rfl,Walks.list (A:=X.A.in1) (I.ok.hd F) _ p (Zg w) d.toArray,
  ⟨⟨_,Zh _ L,rfl,rfl⟩,pl.isList.push _⟩,λb hb=>?_,λi v G=>?_,λR O y m=>⟨.int ns.sum,H,I.kept (AM m),⟨y,?_⟩,q⟩⟩)
 ·rw[Z9];rcases Zj.mp hb with rfl | hb
  ·exact Yz _
  ·rw[Zf.mp hb];exact YY w
 ·have f:d[i]?=Z v:=by simpa using G
  cases e:ns[i]? with
  |none =>
   have:=g.none_of (i:=i) (by rw[ZZ,e];rfl);rw[this]at f;cases f
  |some n =>
   obtain⟨u,D,j⟩:=g.get (i:=i) (x:=.int n) (by rw[ZZ,e];rfl);rw[D]at f;cases f;obtain⟨t,rfl⟩:=j;exact⟨t,by simp[e]⟩
 ·have hlen:d.toArray.size=ns.length:=by have:=g.length;simp at this ⊢;exact Eq.symm this
  have:∀k,k<=ns.length->preSum (λi=>(ns[i]?).getD 0) k=(ns.take k).sum:=λk=>by
   induction k with
   |zero=>intro _;simp[preSum]
   |succ k C =>
    intro m;rw[List.take_succ,List.sum_append,preSum,C (by exact Nat.le_of_succ_le m)];cases e:ns[k]? <;> simp
  rw[hlen,this _ (Zl _),List.take_length]
def vm:OpR X (SC .Gt) (λx y H Q=>∃i j,x=.str i/\y=.str j/\Q (.bl (decide (j.cps.toList<i.cps.toList))) H):=by
 intro d s J H x y v u Q I f e h;obtain⟨i,j,rfl,rfl,q⟩:=h;obtain⟨t,rfl⟩:=f;obtain⟨g,rfl⟩:=e;exact PySem.P.gt_str ⟨.bl _,H,I,rfl,q⟩
def u7:OpR X (SC .GtE) (λx y H Q=>∃i j,x=.str i/\y=.str j/\Q (.bl (!decide (i.cps.toList<j.cps.toList))) H):=by
 intro d s J H x y v u Q I f e h;obtain⟨i,j,rfl,rfl,q⟩:=h;obtain⟨t,rfl⟩:=f;obtain⟨g,rfl⟩:=e;exact PySem.P.ge_str ⟨.bl _,H,I,rfl,q⟩
end
end L2
end
section
namespace VS
open PySem PySem.Spec PyProof.Rows L2
section
variable{X:Cx}
def BM(H:Hp)(s:Tx)(l:nI s):Kw G (L2.IQ (sx s)) (s.map λc=>T.str [c]) [] H:=by
 have sz:(sx s).cps.size=s.length:=rfl;refine⟨λo _ _=>⟨λi t h=>?_,λi h=>(by rw[Zx]at h;show (sx s).cps.size<=i;lia)⟩,λa h=>by simp at h⟩;rw[ZZ]at h;obtain⟨c,f,rfl⟩:=Zs.mp h;refine⟨(by show i<(sx s).cps.size;have:=(Zc.mp f).1;lia),λx n ⟨e1,g,j,e2⟩=>?_⟩;subst e1;have:g=c:=by
  have m:(sx s).cps[i]?=Z c:=by simp[sx,f]
  rw[m]at j;exact(Zk j).symm
 subst this;rw[e2];exact⟨aJ.refl _,[],.str [g] ⟨(by show 1<=dq;decide),λd hd=>by rw[Zf.mp hd];exact l.2 g (YK f)⟩,λa h=>by simp at h⟩
def dB(u:PV G X a ca)(A:{`q2,X.K=G.K}):PVI G X tg a (dJ ca) :=
 PI.weak (AO u) λJ H R t=>by
  obtain⟨O,U,m,l,s,e,k⟩:=t;unfold dJ at e;obtain⟨⟨r,x⟩,w,e1⟩:=Zz.mp e;refine⟨O,U,r,x,s,w,λv f F e3 j o=>?_⟩;cases x with
  |lst q =>
   cases e1;obtain⟨n,g,y,rfl,rfl,d,i⟩:=j.lst_inv;exact .inl ⟨n,rfl,⟨g,Gw.of d⟩,k _ f _ e3 (zp X.K d i) o.c⟩
  |tup q =>
   cases e1;obtain⟨n,g,y,rfl,rfl,d,i⟩:=j.GR;exact .inr (.inl ⟨n,rfl,⟨g,GV.of d⟩,k _ f _ e3 (B7 X.K d i) o.c⟩)
  |str z =>
   cases e1;obtain⟨rfl,ok⟩:=j.str_inv;exact .inr (.inr ⟨_,rfl,k _ f [] e3 (BM f z ok) λa h=>by simp at h⟩)
  |_=>cases e1
theorem tq:∀{d:List V}{l:Vo}{g:Xq}{f:Vu},RpL G H d l g->qi l=Z f->d=f.map V.int
 |_,_,_,_,.nil,e=>by cases e;rfl
 |_,_,_,_,.cons (t:=t) r q,e=>by
  cases t with
  |int s =>
   obtain⟨h,e1,e2⟩:=Zs.mp e;subst e2;rw[tq q e1,r.int_inv];rfl
  |_=>cases e
def B1:dW G (λd H Q=>∃p,∃ns:Vu,d=[.ref p]/\Gw G.K H p (ns.map V.int)/\Q (.int ns.sum) H) zA:=by
 intro O U r H l f n m t Q A e k;unfold zA at e;split at e
 ·rename_i q x;obtain⟨i,e1,e2⟩:=Zz.mp e;cases e2;obtain⟨v,F,rfl,rfl,g⟩:=(show RpL G H f [.lst x] n from A.rp).one;obtain⟨a,o,Gs,rfl,rfl,j,h⟩:=g.lst_inv;exact⟨a,i,rfl,by rw[← tq h e1];exact Gw.of j,bA k (.int _)⟩
 ·cases e
def Dn:bootBuiltins ("sum" : Str)=Z (.builtin "sum"):=by decide +kernel
def xA:bootBuiltins ("tuple" : Str)=Z (.type "tuple"):=by decide +kernel
def w_sum(d:X.mg "sum" = Y)(h:GY G X [e] cs)(f:{`q2,Gl X "sum"})(i:{`q2,X.K=G.K})(g:{`q2,X.calm=M})(he:{`q2,K1 e [] X}):PV G X (.Call (.Name "sum" p) [e] [] pos) (eN zA cs) :=
 gx (wj g) (i ▸ B1) f d Dn h (he:=he) (hpl:=rfl)
def yz:dW G (λh H Q=>∃p d,h=[.ref p]/\((Gw G.K H p d/\∀l,H l=Y->Q (.ref l) (upd H l (.tup d)))\/(GV G.K H p d/\Q (.ref p) H))) fC:=by
 intro O U z H l i u m t Q A e k;unfold fC at e;split at e
 ·rename_i w x;split at e
  ·rename_i y;cases e;obtain⟨v,F,rfl,rfl,j⟩:=(show RpL G H i [.lst x] u from A.rp).one;obtain⟨a,d,Gs,rfl,rfl,s,n⟩:=j.lst_inv;have f:=(A.fp.each 0 _ _ L L).sub (Yw _ _);refine⟨a,d,rfl,.inl ⟨Gw.of s,λq o=>?_⟩⟩;have g:aJ H (upd H q (.tup d)):=bQ o;have r:Rp G (upd H q (.tup d)) (.ref q) (.tup x) Gs.flatten:=.tup ay (n.same g);exact k _ _ _ g r (f.up r)
  ·cases e
 ·cases e
def tj(d:X.mg "tuple" = Y)(g:GY G X [e] cs)(f:{`q2,Gl X "tuple"})(h:{`q2,X.K=G.K})(he:{`q2,K1 e [] X}):PV G X (.Call (.Name "tuple" p) [e] [] pos) (eN fC cs) :=
 iW nq (h ▸ yz) f d xA g (he:=he) (hpl:=rfl)
def Sa:R2:=λx y H Q=>Jk (λi j=>.bl (decide (j<i))) x y H Q\/(∃i j,x=.str i/\y=.str j/\Q (.bl (decide (j.cps.toList<i.cps.toList))) H)
def Sb:R2:=λx y H Q=>Jk (λi j=>.bl (decide (j<=i))) x y H Q\/(∃i j,x=.str i/\y=.str j/\Q (.bl (!decide (i.cps.toList<j.cps.toList))) H)
def vL(s t:Tx):decide ((sx s).cps.toList<(sx t).cps.toList)=JN s t:=by rw[lO];exact decide_eq_decide.mpr (by simp[sx])
def En:fP G Sa MX:=by
 intro O U i H x y u w l j m t Q d e k;obtain⟨h,x⟩:=x;obtain⟨g,y⟩:=y;obtain⟨same,r1,r2,f1,f2,nd⟩:=d;unfold MX oLt at e;split at e
 ·rename_i e1 e2;cases e1;cases e2;cases e;exact .inl ⟨_,_,r1.int_inv,r2.int_inv,bA k (.bl _)⟩
 ·rename_i s _ f e1 e2;cases e1;cases e2;cases e;refine .inr ⟨_,_,r1.str_inv.1,r2.str_inv.1,?_⟩;rw[vL];exact bA k (.bl _)
 ·cases e
def Ff:fP G Sb MY:=by
 intro O U i H x y u w l j m t Q d e k;obtain⟨h,x⟩:=x;obtain⟨g,y⟩:=y;obtain⟨same,r1,r2,f1,f2,nd⟩:=d;unfold MY oLe at e;split at e
 ·rename_i e1 e2;cases e1;cases e2;cases e;exact .inl ⟨_,_,r1.int_inv,r2.int_inv,bA k (.bl _)⟩
 ·rename_i s _ f e1 e2;cases e1;cases e2;cases e;refine .inr ⟨_,_,r1.str_inv.1,r2.str_inv.1,?_⟩;rw[vL];exact bA k (.bl _)
 ·cases e
def yJ:Tells MX:=λx y m t e=>iF y x m t e
def wZ:Tells MY:=λx y m t e=>x5 y x m t e
def E5(f:PV G X a ca)(d:PV G X b cb):Iw G X (.Compare a [.Gt] [b] pos) (e2 MX ca cb):=ft (r:=Sa) (D2.or vm) En yJ f d (iL _)
def Fd(f:PV G X a ca)(d:PV G X b cb):Iw G X (.Compare a [.GtE] [b] pos) (e2 MY ca cb):=ft (r:=Sb) (Ea.or u7) Ff wZ f d (iL _)
def xo(P:fP G r f)(Uz:fP G o g)(h:tE G (ki f g ca cb cc) J H Q):vV r o (tE G ca) (tE G cb) (tE G cc) J H Q:=by
 obtain⟨O,U,m,t,s,e,k⟩:=h;unfold ki at e;obtain⟨x,ea,e⟩:=Zz.mp e;obtain⟨y,eb,e⟩:=Zz.mp e;obtain⟨⟨R,z⟩,ez,e⟩:=Zz.mp e;refine yk s ea eb λu w H2 F1 A d=>P O U H H2 x y u w F1 A R z _ d ez λv H3 F e1 r1 f1=>?_;cases z with
 |bl q =>
  refine⟨q,r1.Hb,?_⟩;cases q with
  |false =>
   cases e;rw[Zm ZY];exact k _ H3 [] (d.same.trans e1) (.bl B) Fp.nil
  |true =>
   rw[Zn L];obtain⟨l,ec,e⟩:=Zz.mp (show (cc U).bind (λz=>g y z)=Z (m,t) from e);have i:=d.same.trans e1;refine⟨O,U,l.1,l.2,s.same i,ec,λC H4 F4 n N j=>?_⟩;refine Uz O U H H4 y l w C A F4 m t Q ⟨i.trans n,(d.r2.same e1).same n,N,d.f2,j.back i,λhx S=>?_⟩ e λD H5 F5 e5 E f5=>k D H5 F5 ((i.trans n).trans e5) E f5;have f2:=d.f2;rw[hx]at f2;rw[S]at j;refine ZQ.mpr ⟨f2.1,j.1,λa ha b hb z=>?_⟩;subst z;exact Gk.p0 ((d.r2.same e1).GF a ha) (j.2 a hb)
 |_=>cases e
def uD{i:Int}(h:∃t,X.mg x=Z (.int i t))(f:{`q2,Gl X x})(g:{`q1,K3 x}):PV G X (.Name x pos) (Q3 i):=by
 obtain⟨t,d⟩:=h;exact Ay (v:=.int i) f d ⟨t,rfl⟩ (λH=>.int i) g
end
end VS
end
section
namespace VS
open PySem PySem.Spec PyProof.Rows L2
section
variable{X:Cx}
def vZ:PV G X (.Dict [] [] pos) (pK 0 []):=PE.weak xO λJ H Q d=>by
 obtain⟨O,U,m,t,s,e,k⟩:=d;cases (show Z (Md.fr,T.dct 0 [])=Z (m,t) from e);intro q d;have:Rp G (upd H q (.dK [])) (.ref q) (.dct 0 ((([]:List Key).map aQ).zip [])) (q :: ([]:Xq).flatten):=.dct ay L .nil;exact k _ _ [q] (bQ d) this ⟨by simp,λb hb=>by rw[Zf.mp hb];exact d⟩
end
section
variable{X:Cx}
def i5(hp:PassesOwn (IR X.prog X.w) X.A X.env X.xe)(hc:Iw G X c cc)(hb:iw G X h E):PSV G X (.While c h [] pos) (ko cc E) :=
 PS.weak (wg hp hc hb) λD J H hq=>by
  obtain⟨O,U,o,s,e,k⟩:=hq;refine⟨λn F N=>∃r m,SR G r m F N/\GU O U H r m N/\dZ cc E n m=Z o,⟨uL,O,U,s,GU.refl O U H,e⟩,?_⟩;rintro n F N ⟨r,m,R,f2,e2⟩;cases n with
  |zero=>cases (show (Y:Option Out)=Z o from e2)
  |succ n =>
   rw[dZ]at e2;obtain⟨⟨mx,x⟩,ex,e3⟩:=Zz.mp e2;obtain⟨t,et,C⟩:=Zz.mp e3;refine⟨r,m,mx,x,t,R,ex,et,λH3 P=>?_⟩;have Q:=R.same P;have y:GU O U H r m H3:=f2.trans (GU.same P);cases t with
   |false =>
    rw[Zm ZY]at C;cases C;show if B=M then _ else _
    rw[Zm ZY];exact k r F H3 Q y
   |true =>
    rw[Zn L]at C;show if M=M then _ else _
    rw[Zn L];obtain⟨S,e5,z⟩:=Zz.mp C;refine⟨λi g=>∃f d,SR G f d i g/\GU O U H f d g/\dZ cc E n d=Z o,λi g q=>⟨n,Yz n,q⟩,r,m,S,Q,e5,?_⟩;cases S with
    |nx d=>exact λf i g j l=>⟨f,d,j,y.trans l,z⟩
    |ct d=>exact λf i g j l=>⟨f,d,j,y.trans l,z⟩
    |bk d =>
     cases (show Z (Out.nx d)=Z o from z);exact λf i g j l=>k f i g j (y.trans l)
    |rt v d =>
     cases (show Z (Out.rt v d)=Z o from z);exact λu g F4 f i j l r5 q5=>k u g F4 f i j (y.trans l) r5 (q5.back y)
noncomputable def OV:Sx:=λ_=>Y
def sL:PSV G X f OV:=λd s J H D I ⟨_,_,_,_,e,_⟩=>nomatch (show (Y:Option Out)=Z _ from e)
def dD(r:Rp G H v (.dct 0 l) F):∃(a:KF)(f:List Key)(d:List V)(g:Vo)(i:Xq),v=.ref a/\F=a :: i.flatten/\H a=Z (.dK (f.zip d))/\f.length=d.length/\l=(f.map aQ).zip g/\RpL G H d g i:=by
 cases r with
 |dct h j q=>exact⟨_,_,_,_,_,rfl,rfl,h,j,rfl,q⟩
def cP(r:Rp G H v t F)(h:gK t=M):∃k:Key,v=kV k/\t=aQ k:=by
 cases t with
 |int i=>exact⟨.inl i,r.int_inv,rfl⟩
 |str s=>exact⟨.inr (sx s),r.str_inv.1,by simp[aQ,sx]⟩
 |_=>cases h
theorem iZ{k:Key}:∀{d:List Key}{f:List V}{ts:Vo}{Fs:Xq},d.length=f.length->RpL G H f ts Fs →
  (cS ((d.map aQ).zip ts) (aQ k)=Y/\fX (d.zip f) k=Y)\/∃(i:Nat)(v:V)(t:T)(F:W6),cS ((d.map aQ).zip ts) (aQ k)=Z t/\fX (d.zip f) k=Z v/\f[i]?=Z v/\Fs[i]?=Z F/\Rp G H v t F
 |[],[],_,_,_,.nil=>.inl ⟨rfl,rfl⟩
 |k' :: d,v :: f,_,_,o,.cons (t:=t) (F:=F) (ts:=ts) (Fs:=Fs) r q=>by
  have e:eqT (aQ k') (aQ k)=decide (k'=k):=by
   rw[XJ,decide_eq_true_eq];cases k with
   |inl i=>cases k'<;>simp[aQ]
   |inr x =>
    obtain⟨⟨x⟩⟩:=x;cases k' with
    |inl j=>simp[aQ]
    |inr y=>obtain⟨⟨y⟩⟩:=y;simp[aQ]
  by_cases g:k'=k
  ·refine .inr ⟨0,v,t,F,?_,iA g,rfl,rfl,r⟩;have l:eqT (aQ k') (aQ k)=M:=by rw[e];exact decide_eq_true g
   simp only[cS,Zi,ZV,Z0,l];rfl
  ·have u:cS (((k' :: d).map aQ).zip (t :: ts)) (aQ k)=cS ((d.map aQ).zip ts) (aQ k):=by
    have l:eqT (aQ k') (aQ k)=B:=by rw[e];exact ZG g
    simp only[cS,Zi,ZV,Z0,l]
   have s:fX ((k' :: d).zip (v :: f)) k=fX (d.zip f) k:=by simp[fX,g]
   rw[u,s];rcases iZ (k:=k) (by simpa using o) q with h | ⟨i,m,n,E,D,C,A,z,w⟩
   ·exact .inl h
   ·exact .inr ⟨i+1,m,n,E,D,C,by simpa using A,by simpa using z,w⟩
def pj(m:X.A.units+1<cLine):JI X (λx y H Q=>∃a v,x=.ref a/\fB H a y (Z v)/\Q v H):=by
 intro value slice d s J H x y v u Q I l j h n;obtain⟨a,w,rfl,g,q⟩:=h;cases l;have f:=qT I g;unfold subscriptTail;refine Zy ?_;rw[getitemInPython_of_ne f.not_modules];refine Zy (wpAny_specialOf f PySem.F.slot_dict_getitem.lookup ?_);have fin:On (IR X.prog X.w) X.A (subscripted slice B (.ref a) u) (λr i=>On (IR X.prog X.w) X.A (letTemporaryGo value (.ref a) r >>= λ_=>pure r) (EP X d J Q) X.xe i) X.xe s:=by
  rw[n];exact wpAny_operating (u5 m I g j λz C t o=>Zy (wpAny_letTemporaryGo (Zr ⟨w,H,t,o,q⟩)))
 first
  |exact Zr (Zy fin)
  |exact Zy (Zr (Zy fin))
  |exact Zy fin
def DT(K:X3):R2:=λx y H Q=>PM K x y H Q\/∃a v,x=.ref a/\fB H a y (Z v)/\Q v H
def Fe:fP G (DT G.K) GW:=by
 intro O U J H x y u w N L m t Q d e k;obtain⟨g,x⟩:=x;by_cases hd:∃l,x=.dct 0 l
 ·obtain⟨l,rfl⟩:=hd;simp only[GW]at e;split at e
  ·rename_i o;obtain⟨t',e1,e2⟩:=Zs.mp e;obtain⟨a,ks,P,R,Fs,rfl,rfl,r,n,rfl,q⟩:=dD d.r1;obtain⟨j,rfl,z⟩:=cP d.r2 o;rw[z]at e1;rcases iZ (k:=j) n q with⟨s,_⟩ | ⟨i,v,S,F,E,D,a3,C,h⟩
   ·rw[s]at e1;cases e1
   ·rw[E]at e1;cases e1;cases e2;refine .inr ⟨a,v,rfl,by rw[← D];exact fB.k r,?_⟩;have f:=((d.f1.sub (Yw _ _)).sub (cN C)).up h;exact k v H F (aJ.refl _) h f
  ·cases e
 ·have A:aC (g,x) y=Z (m,t):=by
   simp only[GW]at e;split at e
   ·rename_i l hx;exact absurd ⟨_,rfl⟩ hd
   ·exact e
  exact .inl (wG O U J H (g,x) y u w N L m t Q d A k)
def nP(f:pe k X.A)(i:PV G X a ca)(g:PV G X b cb)(d:jQ b:=by intro _ _;rfl)(j:{`q2,X.K=G.K}):PV G X (.Subscript a b pos) (e2 GW ca cb) :=
 PE.weak (uv (JI.or pR (pj (jd f))) i g d) λJ H Q h=>by rw[j];exact j8 Fe h
def fV:T->V
 |.bl b=>.bl b
 |.int i=>.int i
 |.str s=>.str (sx s)
 |_=>.non
def Bg(r:Rp G H v t F)(h:flat t=M):v=fV t/\fi v=M:=by
 cases r with
 |non=>exact⟨rfl,rfl⟩
 |bl b=>exact⟨rfl,rfl⟩
 |int i=>exact⟨rfl,rfl⟩
 |str s d=>exact⟨rfl,rfl⟩
 |_=>cases h
theorem D7:∀{t u:T},flat t=M->flat u=M->KP (fV t) (fV u)=eqT t u
 |.non,.non,_,_=>rfl
 |.non,.bl _,_,_=>rfl
 |.non,.int _,_,_=>rfl
 |.non,.str _,_,_=>rfl
 |.bl _,.non,_,_=>rfl
 |.bl _,.bl _,_,_=>rfl
 |.bl _,.int _,_,_=>rfl
 |.bl _,.str _,_,_=>rfl
 |.int _,.non,_,_=>rfl
 |.int _,.bl _,_,_=>rfl
 |.int _,.int _,_,_=>rfl
 |.int _,.str _,_,_=>rfl
 |.str _,.non,_,_=>rfl
 |.str _,.bl _,_,_=>rfl
 |.str _,.int _,_,_=>rfl
 |.str _,.str _,_,_=>yq
def wo(r:Rp G H v t F)(g:Rp G H w u h)(f:flat t=M)(d:flat u=M):KP v w=eqT t u/\fi v=M/\fi w=M:=by
 obtain⟨e1,f1⟩:=Bg r f;obtain⟨e2,f2⟩:=Bg g d;refine⟨?_,f1,f2⟩;rw[e1,e2];exact D7 f d
theorem oA(r:Rp G H x t F)(g:flat t=M):∀{d:List V}{f:Vo}{m:Xq},RpL G H d f m->f.all flat=M->d.all fi=M/\NP x d=f.any λy=>eqT y t
 |_,_,_,.nil,_=>⟨rfl,rfl⟩
 |_,_,_,.cons j q,h=>by
  rw[X7,Yg]at h;obtain⟨l,i⟩:=oA r g q h.2;obtain⟨e1,e2,e3⟩:=wo j r h.1 g;refine⟨by rw[X7,e2,l];rfl,?_⟩;unfold NP at i ⊢;rw[YG,YG,i,e1]
def Fm(K:X3):R2:=λx y H Q=>OX K B x y H Q\/∃a o,y=.ref a/\fB H a x o/\Q (.bl o.isSome) H
def uo(K:X3):R2:=λx y H Q=>OX K M x y H Q\/∃a o,y=.ref a/\fB H a x o/\Q (.bl (!o.isSome)) H
def zY(j:X.A.units+1<cLine):OpR X (SC .In) (λx y H Q=>∃a o,y=.ref a/\fB H a x o/\Q (.bl o.isSome) H):=by
 intro d s J H x y v u Q I i f h;obtain⟨a,o,rfl,g,q⟩:=h;cases f;exact FA j I g i λm l=>⟨.bl o.isSome,H,l,rfl,q⟩
def xf(j:X.A.units+1<cLine):OpR X (SC .NotIn) (λx y H Q=>∃a o,y=.ref a/\fB H a x o/\Q (.bl (!o.isSome)) H):=by
 intro d s J H x y v u Q I i f h;obtain⟨a,o,rfl,g,q⟩:=h;cases f;exact Au j I g i λm l=>⟨.bl (!o.isSome),H,l,rfl,q⟩
def qG(f:OF G O U N H x y u w Q P)(e:mS x y=Z (m,t)) :
  ∃b,m=.fr/\t=.bl b/\((∃p n,w=.ref p/\(Gw G.K H p n\/GV G.K H p n)/\fi u=M/\n.all fi=M/\NP u n=b)\/∃a o,w=.ref a/\fB H a u o/\o.isSome=b):=by
 obtain⟨m2,y⟩:=y;simp only[mS]at e;split at e
 ·split at e
  ·rename_i d;cases e;obtain⟨a,C,g,R,A,rfl,rfl,h,D,rfl,q⟩:=dD f.r2;obtain⟨z,rfl,E⟩:=cP f.r1 d;refine⟨_,rfl,rfl,.inr ⟨a,fX (C.zip g) z,rfl,fB.k h,?_⟩⟩;rw[E];rcases iZ (k:=z) D q with⟨l,j⟩ | ⟨i,v,S,F,L,J,_⟩
   ·rw[l,j];rfl
   ·rw[L,J];rfl
  ·cases e
 ·split at e
  ·rename_i d;cases e;rw[Yg]at d;obtain⟨a,g,A,rfl,rfl,h,r⟩:=f.r2.lst_inv;obtain⟨l,j⟩:=oA f.r1 d.1 r d.2;have s:fi u=M:=(wo f.r1 f.r1 d.1 d.1).2.1;exact⟨_,rfl,rfl,.inl ⟨a,g,rfl,.inl (Gw.of h),s,l,j⟩⟩
  ·cases e
 ·split at e
  ·rename_i d;cases e;rw[Yg]at d;obtain⟨a,g,A,rfl,rfl,h,r⟩:=f.r2.GR;obtain⟨l,j⟩:=oA f.r1 d.1 r d.2;have s:fi u=M:=(wo f.r1 f.r1 d.1 d.1).2.1;exact⟨_,rfl,rfl,.inl ⟨a,g,rfl,.inr (GV.of h),s,l,j⟩⟩
  ·cases e
 ·cases e
def EU:fP G (Fm G.K) mS:=by
 intro O U j H x y u w n l m t Q f e k;obtain⟨b,rfl,rfl,h⟩:=qG f e;rcases h with⟨p,d,rfl,i,f1,f2,hb⟩ | ⟨a,o,rfl,g,hb⟩
 ·refine .inl ⟨p,d,rfl,i,f1,f2,?_⟩;rw[hb];exact bA k (.bl b)
 ·refine .inr ⟨a,o,rfl,g,?_⟩;rw[hb];exact bA k (.bl b)
def BJ:fP G (uo G.K) cA:=by
 intro O U r H x y u w v s m t Q i e k;unfold cA at e;split at e
 ·rename_i q d l;cases e;obtain⟨b,rfl,n,h⟩:=qG i l;cases n;rcases h with⟨p,f,rfl,j,f1,f2,hb⟩ | ⟨a,o,rfl,g,hb⟩
  ·refine .inl ⟨p,f,rfl,j,f1,f2,?_⟩;rw[hb];exact bA k (.bl (!d))
  ·refine .inr ⟨a,o,rfl,g,?_⟩;rw[hb];exact bA k (.bl (!d))
 ·cases e
def wm:Tells mS:=by
 intro x y m t e;simp only[mS]at e;split at e
 all_goals first | (split at e<;>first | (cases e;exact⟨_,rfl⟩) | cases e) | cases e
def uJ:Tells cA:=by
 intro x y m t e;unfold cA at e;split at e
 ·cases e;exact⟨_,rfl⟩
 ·cases e
def EV(d:pe k X.A)(h:PV G X a ca)(g:PV G X b cb)(f:{`q4,behindInMarks .In b=B})(i:{`q2,X.K=G.K}):Iw G X (.Compare a [.In] [b] pos) (e2 mS ca cb):=ft (r:=Fm X.K) (vD.or (zY (jd d))) (i ▸ EU) wm h g f
def sD(d:pe k X.A)(h:PV G X a ca)(g:PV G X b cb)(f:{`q4,behindInMarks .NotIn b=B})(i:{`q2,X.K=G.K}):Iw G X (.Compare a [.NotIn] [b] pos) (e2 cA ca cb):=ft (r:=uo X.K) (pH.or (xf (jd d))) (i ▸ BJ) uJ h g f
end
end VS
end
section
open PySem PyProof.Rows
namespace TS
def n8{a:Array PP}(e:a.Perm (pairsOf d)):(a.map (·.2)).toList.Perm d/\(a.map (·.2)).toList.map (λv=>(v,v))=a.toList:=by
 have b:=Array.perm_iff_toList_perm.mp e;rw[pairsOf_toList]at b;constructor
 ·rw[Array.toList_map];refine(b.map _).trans ?_;rw[show (λx:PP=>x.2)=Prod.snd from rfl,List.map_snd_zip (Zl _)]
 ·rw[Array.toList_map,ZM]
  conv=>rhs;rw[← WR a.toList]
  apply Yv;intro p f;have:=mem_zip_self (b.mem_iff.mp f);exact Prod.ext this.1.symm L
end TS
end
section
namespace L2
open PySem PySem.Spec PyProof.Rows TS
section
variable{X:Cx}
theorem qY:∀{b:List Str}{a:Vx},aO (b.map V.str) a->(∀v∈a,∃x t,v=Value.str x t)/\a.map strOf=b
 |[],[],_=>⟨λv h=>by simp at h,rfl⟩
 |s :: b,u :: a,h=>by
  cases h with
  |cons r q =>
   obtain⟨f,e⟩:=qY q;obtain⟨t,rfl⟩:=r;refine⟨λv d=>?_,?_⟩
   ·rcases Zj.mp d with rfl | d
    ·exact⟨s,t,rfl⟩
    ·exact f v d
   ·rw[Zi,e];rfl
theorem mH:∀{a:Vx},(∀v∈a,∃x t,v=Value.str x t)->aO ((a.map strOf).map V.str) a
 |[],_=>.nil
 |u :: a,h=>by
  obtain⟨x,t,rfl⟩:=h u (Zu ..);exact .cons ⟨t,rfl⟩ (mH λv b=>h v (Zt _ b))
end
end L2
end
section
namespace VS
mutual
theorem ql:∀(n:Nat)(t:T),G2 n t=M->eqT t t=M
 |n,.non,_=>by simp
 |n,.bl _,_=>by simp
 |n,.int _,_=>by simp
 |n,.str _,_=>by simp
 |n+1,.tup l,h=>by
  exact j7 n l (Z6.mp h)
 |n+1,.lst l,h=>by
  exact j7 n l (Z6.mp h)
 |0,.tup _,h=>nomatch h
 |0,.lst _,h=>nomatch h
 |0,.scr _,h=>nomatch h
 |_+1,.scr _,h=>nomatch h
 |0,.dct _ _,h=>nomatch h
 |_+1,.dct _ _,h=>nomatch h
 |0,.obj _ _,h=>nomatch h
 |_+1,.obj _ _,h=>nomatch h
theorem j7:∀(n:Nat)(l:Vo),(∀t∈l,G2 n t=M)->vn l l=M
 |_,[],_=>rfl
 |n,t :: r,h=>by
  exact Ze.mpr ⟨ql n t (h t Zu),j7 n r λu a=>h u (Zt _ a)⟩
end
def BG{α:Type}(l:List α)(k:Nat):cut l Y (Z (k:Int))=l.take k:=by
 have h:¬((k:Int)<0):=by lia
 by_cases a:k<=l.length
 ·simp[cut,clip,h,Wy a]
 ·rw[Wf (by lia)];simp[cut,clip,h,W9 (X5 a)]
def vX(e:a U=Z (m,.lst l)):dJ a U=Z (m,l):=by
 show (a U).bind uK=_;rw[e];rfl
def gb{tg:Tg}{it:IQ}{body:Sx}{U:Env}{m:Md}{l:Vo}(e:it U=Z (m,l))(h:Sg m=M):jo tg it body U=forL tg body l U:=by
 unfold jo;rw[e];exact Zn h
def cO{b:GG}{t:T}(h:b U=Z a)(d:g (trees a)=Z (.fr,t)):bw g b U=Z (.fr,t):=by
 simp only[bw,h,Zp,d]
def aG{i:Nat}{e:Ex}{U:Env}{m:Md}{t:T}(h:e U=Z (m,t))(a:m ≠ .bo)(b:i<U.length):aI i e U=Z (.nx (U.set i (Z (.pu t)))):=by
 simp only[aI,h,Zp];cases m with
 |bo=>exact absurd L a
 |_=>simp[b]
end VS
end
section
namespace VS
open PySem PySem.Spec PyProof.Rows L2
def DU{a b c:Tx}(h:a<b)(d:¬c<b):a<c:=by
 by_cases e:a<c
 ·exact e
 ·exact absurd (List.lt_of_le_of_lt (List.not_lt.mp e) h) d
theorem jw(x:Tx):∀l:List Tx,(mP x l).Perm (x :: l)
 |[]=>YD _
 |y :: r=>by
  unfold mP;split
  ·exact((jw x r).cons y).trans (List.Perm.swap _ _ _)
  ·exact YD _
theorem gh:∀l:List Tx,(cy l).Perm l
 |[]=>YD _
 |x :: l=>(jw x _).trans ((gh l).cons x)
theorem qF(x:Tx):∀{l:List Tx},l.Pairwise (λa b=>¬b<a)->(mP x l).Pairwise (λa b=>¬b<a)
 |[],_=>by simp[mP]
 |y :: r,h=>by
  unfold mP;rw[lO];obtain⟨f,g⟩:=XI.mp h;split
  ·rename_i c;have e:y<x:=by simpa using c
   refine XI.mpr ⟨λz d=>?_,qF x g⟩;rcases Zj.mp ((jw x r).mem_iff.mp d) with rfl | d
   ·exact λz=>List.lt_irrefl _ (List.lt_trans e z)
   ·exact f z d
  ·rename_i c;have e:¬y<x:=by simpa using c
   refine XI.mpr ⟨λz d=>?_,h⟩;rcases Zj.mp d with rfl | d
   ·exact e
   ·exact λw=>f z d (DU w e)
theorem ox:∀l:List Tx,(cy l).Pairwise (λa b=>¬b<a)
 |[]=>List.Pairwise.nil
 |x :: l=>qF x (ox l)
def kE{d:List Tx}(h:d.Perm l)(e:d.Pairwise (λa b=>¬b<a)):d=cy l :=
 List.Perm.eq_of_pairwise (le:=λa b=>¬b<a) (λa b _ _ g f=>List.le_antisymm (List.not_lt.mp g) (List.not_lt.mp f)) e (ox l) (h.trans (gh l).symm)
def wJ(s:Tx):(sx s).cps.toList=s:=rfl
def xS{f:List Tx}{d:List Str}(h:d.Perm (f.map sx))(i:d.Pairwise (λa b=>¬b.cps.toList<a.cps.toList)):d=(cy f).map sx:=by
 have e:d=(d.map λx=>x.cps.toList).map sx:=by
  rw[ZM]
  conv=>lhs;rw[← WR d]
  apply Yv;intro x g;obtain⟨s,_,rfl⟩:=ZU.mp (h.mem_iff.mp g);show sx s=sx (sx s).cps.toList;rw[wJ]
 have e2:(d.map λx=>x.cps.toList)=cy f:=by
  refine kE ?_ ?_
  ·have:=h.map λx:Str=>x.cps.toList;rw[ZM]at this;have e3:((λx:Str=>x.cps.toList) ∘ sx)=id:=by
    funext s;exact wJ s
   rw[e3,WR]at this;exact this
  ·rw[Xd];exact i
 rw[e,e2]
def Pz(s:Tx):Bool:=decide (s.length<=dq)&&s.all (λc=>decide (c<1114112))
def B6(h:Pz s=M):nI s:=by
 unfold Pz at h;simp at h;exact h
section
variable{X:Cx}
theorem sZ{H:Hp}:∀{ss:List Tx},(∀s∈ss,nI s)->RpL G H (ss.map λs=>V.str (sx s)) (ss.map T.str) (ss.map λ_=>[])
 |[],_=>.nil
 |s :: ss,h=>.cons (.str s (h s (Zu ..))) (sZ λx a=>h x (Zt _ a))
theorem qz{α β:Type}:∀(l:List α),(l.map λ_=>([]:List β)).flatten=[]
 |[]=>rfl
 |_ :: l=>by simp
theorem tZ:∀{d:List V}{l:Vo}{f:Xq}{b:List Tx},RpL G H d l f->strs? l=Z b->∀s∈b,nI s
 |_,_,_,_,.nil,e,s,a=>by cases e;simp at a
 |_,_,_,_,.cons (t:=t) r q,e,s,a=>by
  cases t with
  |str x =>
   obtain⟨g,e1,e2⟩:=Zs.mp e;subst e2;rcases Zj.mp a with rfl | a
   ·exact r.str_inv.2
   ·exact tZ q e1 s a
  |_=>cases e
def lD{G:Gx}{O:Gn}{U:VS.Env}{H0 H:Hp}{ss:List Tx}{Q:VK}(k:∀v f F,aJ H f->Rp G f v (.lst ((cy ss).map T.str)) F->Fp O U H0 .fr F->Q v f)(j:aJ H0 H)(h:∀s∈ss,nI s) :
  ∀(l:KF)(d:List Str),H l=Y->d.Perm (ss.map sx)->d.Pairwise (λa b=>¬b.cps.toList<a.cps.toList)->Q (.ref l) (upd H l (.lst (d.map V.str))):=λq d g o hw=>by
 rw[xS o hw];have i:aJ H (upd H q (.lst (((cy ss).map sx).map V.str))):=bQ g;have m:=sZ (G:=G) (H:=upd H q (.lst (((cy ss).map sx).map V.str))) λs n=>h s ((gh ss).mem_iff.mp n);have r:Rp G (upd H q (.lst (((cy ss).map sx).map V.str))) (.ref q) (.lst ((cy ss).map T.str)) (q :: ((cy ss).map λ_=>[]).flatten):=.lst (by rw[ay,ZM];rfl) m;rw[qz]at r;exact k _ _ _ i r (Fp.new (j.free g) (by simp) Fp.nil)
theorem keys_str:∀{a:List Key}{b:List Tx},strs? (a.map aQ)=Z b->a=(b.map sx).map Sum.inr
 |[],_,e=>by cases e;rfl
 |.inl i :: a,_,e=>by cases e
 |.inr x :: a,b,e=>by
  obtain⟨d,e1,e2⟩:=Zs.mp (show (strs? (a.map aQ)).map (x.cps.toList :: ·)=Z b from e);subst e2;rw[keys_str e1];simp[sx]
def kj:bootBuiltins ("sorted" : Str)=Z (.builtin "sorted"):=by decide +kernel
end
end VS
end
section
namespace ST
open PySem PySem.Spec PyProof.Rows
noncomputable def Kv(w:SZ):Bool:=w.params.followText "set-order"
structure Tb(w:SZ)(n:Nat)(t:SetTable):Prop where
 fit:t.fits n=true
 led:t.led=!Kv w
 pl:n≠0->t.plain=false
noncomputable def OK(w:SZ)(l:List (Int×KM)):Prop:=∀e∈l,∃x a,e=(hashStr w x,Value.str x a)
noncomputable def nm(l:List (Int×KM)):List Str:=l.map λe=>strOf e.2
structure Ts(w:SZ)(h:SL)(a:KF)(ss:List Str)(es:Array (Int×KM))(ep:Nat)(t:SetTable):Prop where
 at_:h.get? a=some { cls:=.type "set",dict:=none,data:=.set es ep t }
 tb:Tb w es.size t
 KQ:OK w es.toList
 pm:(nm es.toList).Perm ss
 nd:ss.Nodup
 Jc:es.size<scanBound
def OK.of(h:OK w l):ElemsOf (strKind prog w) l:=λe he=>by
 obtain⟨x,a,rfl⟩:=h e he;exact⟨⟨x,strKind_is prog w x a,rfl⟩,rfl⟩
def yg(h:OK w l)(he:e∈l):(strKind prog w).is k e.2=M↔strOf e.2=k:=by
 obtain⟨x,b,rfl⟩:=h e he;constructor
 ·intro a;obtain⟨u,e⟩:=W7 (show Value.isStrOf k (.str x b)=M from a);cases e;rfl
 ·intro a;cases a;exact strKind_is prog w _ b
def CH(t:SetTable)(n:Nat):(t.orStandIn n).led=t.led/\(t.plain=B->(t.orStandIn n).plain=B):=by
 unfold SetTable.orStandIn;by_cases a:t.fits n=M
 ·rw[Zn a];exact⟨rfl,λq=>q⟩
 ·rw[Zm a];exact⟨rfl,λ_=>rfl⟩
def zw(t:SetTable)(a:Array (Int×KM))(h:Int)(x:KM):(layNew t a h x).2.1.led=t.led/\(t.plain=B->(layNew t a h x).2.1.plain=B):=by
 unfold layNew;split
 ·exact CH _ _
 ·exact⟨rfl,λ_=>rfl⟩
def vq(t:SetTable)(b:Array (Int×KM))(n:Nat):(relayAll t b n).2.1.led=t.led/\(t.plain=B->(relayAll t b n).2.1.plain=B):=by
 unfold relayAll;cases a:t.relaid (b.map λy=>y.1) n with
 |none=>exact⟨rfl,λ_=>rfl⟩
 |some p =>
  obtain⟨d,ord⟩:=p;have e:d.led=t.led/\d.plain=t.plain:=by
   unfold SetTable.relaid SetTable.laid at a;cases f:SetTable.layClean (SetTable.sizeAbove n-1) (b.map λy=>y.1) with
   |none=>rw[f]at a;cases a
   |some o =>
    rw[f]at a;cases a;exact⟨rfl,rfl⟩
  dsimp only;split
  ·exact⟨e.1,λq=>by rw[e.2];exact q⟩
  ·exact⟨rfl,λ_=>rfl⟩
def vU{s:GM}(T:Ts w s.heap a i v P t)(hr:i.length+1<scanBound)(h:∀u Gf IP Kt t' b,Heap.SameBut a s.heap u->Ts w u a Gf IP Kt t'->(∀y,y∈Gf↔y∈i\/y=x)->Gf.length<=i.length+1->Q b { s with heap:=u }) :
  On (IR prog w) A (setAddHashed a (.str x p) (hashStr w x)) Q E s:=by
 have SV:=T.KQ.of (prog:=prog);have Mx:=strKind_is prog w x p;have hsz:v.size=i.length:=by rw[← T.pm.length_eq];simp[nm]
 unfold setAddHashed setAddHashedIn;refine Yp (Zy (Xw T.at_ rfl T.tb.fit ?_));dsimp only;rw[byScan_of (knd:=strKind prog w) rfl T.Jc SV,Zn rfl];unfold setAddByScan;refine Zy (Zy (Wm (Zy (wpAny_setScan_of (knd:=strKind prog w) Mx T.at_ rfl T.tb.fit SV ?_))));cases O:List.findIdx? (λe=>(strKind prog w).is x e.2) v.toList with
 |some j =>
  obtain⟨hj,U7,_⟩:=List.findIdx?_eq_some_iff_getElem.mp O;have hx:x∈i:=T.pm.mem_iff.mp (ZU.mpr ⟨_,Yy hj,(yg T.KQ (Yy hj)).mp U7⟩);refine Zr (Zr ?_);exact h s.heap i v P t _ (Heap.SameBut.refl a s.heap) T (λy=>⟨.inl,λz=>z.elim id λe=>e ▸ hx⟩) (Y5 _)
 |none =>
  have hx:x∉i:=λC=>by
   obtain⟨e,he,q⟩:=ZU.mp (T.pm.mem_iff.mpr C);have:=List.findIdx?_eq_none_iff.mp O e he;rw[(yg T.KQ he).mpr q]at this;cases this
  have F:=layNew_perm t v (hashStr w x) (.str x p);have S:=layNew_fits t v (hashStr w x) (.str x p);have U:=zw t v (hashStr w x) (.str x p);dsimp only;generalize layNew t v (hashStr w x) (.str x p)=L at F S U ⊢;obtain⟨g,X,wd,gv⟩:=L;dsimp only at F S U ⊢;rw[Array.toList_push]at F;have RF:OK w g.toList:=λe he=>by
   rcases ZW.mp (F.mem_iff.mp he) with q | q
   ·exact T.KQ e q
   ·exact⟨x,p,Zf.mp q⟩
  have Sd:(nm g.toList).Perm (i++[x]):=(F.map _).trans (by
   rw[ZF];exact T.pm.append_right _)
  have Ma:(i++[x]).Nodup:=ZQ.mpr ⟨T.nd,by simp,λy hy z hz e=>hx (by rw[← Zf.mp hz,← e];exact hy)⟩;have Uh:g.size=i.length+1:=by
   have:=Sd.length_eq;simpa[nm] using this
  have ML:g.size<scanBound:=by rw[Uh];exact hr
  have fin:∀(n:Array (Int×KM))(Oe:Nat)(d:SetTable)(u:SL)(b:Bool),n.toList.Perm g.toList->d.fits n.size=M->d.led=t.led->d.plain=B->Heap.SameBut a s.heap u →
    u.get? a=Z { cls:=.type "set",dict:=Y,data:=.set n Oe d }->Q b { s with heap:=u }:=λn Oe d u b p2 f2 N J sb D =>
   h u (i++[x]) n Oe d b sb ⟨D,⟨f2,N.trans T.tb.led,λ_=>J⟩,λe he=>RF e (p2.mem_iff.mp he),(p2.map _).trans Sd,Ma,by
    rw[← ZC,p2.length_eq,ZC];exact ML⟩ (λy=>by simp) (by simp)
  have rest:∀(d:SetTable),d.fits g.size=M->d.led=t.led->d.plain=B->On (IR prog w) A (do
    storeSet a g d
    if (!wd&&d.tooFull)=M then
     let r:=relayAll d g (SetTable.grown g.size)
     (match r.2.2 with
      |true=>rule "set.scan.the-table-gave-way"
      |false=>pure ())
     storeSet a r.1 r.2.1
     pure (Z M)
    else pure (Z M)) (λo l=>∃b,o=Z b/\Q b l) E s:=λd f2 N J=>by
   refine Zy (wpAny_storeSet_of T.at_ rfl ?_ (Wa ML));have D:(s.heap.update a (Obj.putSet g d)).get? a=Z { cls:=.type "set",dict:=Y,data:=.set g (P+1) d }:=Yr _ T.at_ rfl;have R4:Heap.SameBut a s.heap (s.heap.update a (Obj.putSet g d)):=Xl ..;by_cases hq:(!wd&&d.tooFull)=M
   ·rw[Zn hq];have rp:=relayAll_perm d g (SetTable.grown g.size);have rf:=relayAll_fits d g (SetTable.grown g.size);have H:=vq d g (SetTable.grown g.size);generalize relayAll d g (SetTable.grown g.size)=R at rp rf H ⊢;obtain⟨n,G,V0⟩:=R;dsimp only at rp rf H ⊢;have Ro:n.size<scanBound:=by rw[← ZC,rp.length_eq,ZC];exact ML
    have g3:((s.heap.update a (Obj.putSet g d)).update a (Obj.putSet n G)).get? a=Z { cls:=.type "set",dict:=Y,data:=.set n (P+1+1) G }:=Yr _ D rfl;have st:On (IR prog w) A (storeSet a n G >>= λ_=>pure (Z M)) (λo l=>∃b,o=Z b/\Q b l) E { s with heap:=s.heap.update a (Obj.putSet g d) } :=
     Zy (wpAny_storeSet_of D rfl (Zr ⟨M,rfl,fin n _ G _ _ rp rf (H.1.trans N) (H.2 J) (R4.trans (Xl ..)) g3⟩) (Wa Ro))
    cases V0 with
    |true=>exact Zy (Wm st)
    |false=>exact Zy (Zr st)
   ·rw[Zm hq];exact Zr ⟨M,rfl,fin g _ d _ _ (YD _) f2 N J R4 D⟩
  have out:∀(m:Sem (Option Bool)),On (IR prog w) A m (λo l=>∃b,o=Z b/\Q b l) E s->On (IR prog w) A m (λo l=>On (IR prog w) A (match o with | some added=>pure added | none=>setAddHashedIn a (.str x p) (hashStr w x) 99999) Q E l) E s:=λm C =>
   Y3 C (λo l ⟨b,e,q⟩=>by subst e;exact Zr q) λ_ _ e=>e
  refine out _ ?_;have mid:∀(m:Sem Unit),(∀(s1:GM)(Q1:Unit->GM->Prop),Q1 () s1->On (IR prog w) A m Q1 E s1)->∀(f:Unit->Sem (Option Bool)),On (IR prog w) A (f ()) (λo l=>∃b,o=Z b/\Q b l) E s->On (IR prog w) A (m>>=f) (λo l=>∃b,o=Z b/\Q b l) E s:=λm C f O=>Zy (C s _ O);refine mid _ (λs1 Q1 q1=>by cases gv<;>first | exact Zr q1 | exact Wm q1) _ ?_;by_cases hp:X.plain=M
  ·rw[Zn hp];refine Zy (m:=hashByValue 8 (.str x p)) (Zr ?_);simp only[Xm,↓reduceIte];exact rest { X with plain:=false } (SetTable.fits_plain_off S) U.1 rfl
  ·rw[Zm hp];refine Zy (Zr ?_);simp only[↓reduceIte];exact rest X S U.1 (by simpa using hp)
theorem qD{prog:P3}{w:SZ}{A:Re}{R:Result->GM->Prop}{I S:KF}{fp N:W6}{G:Array GenState->Array GenState->Prop}{n:Nat}{P:Nat->KM->Prop}{St:Nat->GM->Prop}{r:List Str}(W:WalksS prog w A.in1 I fp N G n P St)(a:S∉fp)(U:n=r.length)(hP:∀i v,P i v->∃x t,v=.str x t/\r[i]?=Z x)(j:n+1<scanBound) :
  ∀(k i:Nat)(s:GM)(d:List Str)(l:Array (Int×KM))(p:Nat)(t:SetTable),i+k=n->St i s->Ts w s.heap S d l p t->(∀y,y∈d↔y∈r.take i)->d.length<=i →
   (∀f q L J u,Moved (S :: N) G s f->Ts w f.heap S q L J u->(∀y,y∈q↔y∈r)->q.length<=n->R (.ok (.ret .none)) f) →
   codeAny (IR prog w) A (.builtin "set.update.loop" ⟨[.ref S,.ref I],[]⟩) R s
 |0,i,s,d,l,p,t,hk,st,T,z,X,D=>by
  have hi:i=n:=by omega
  subst hi;refine YQ F.entry_set_update_loop ?_;rw[Ym W5];refine Zy (m:=pyNext (.ref I)) (W.done s _ _ st λf g=>Zr (D f d l p t (g.mono λb j=>Zt _ j) ⟨g.heap S _ (λh=>a (W.sub _ h)) T.at_,T.tb,T.KQ,T.pm,T.nd,T.Jc⟩ (λy=>?_) X));rw[z y,U,List.take_length]
 |k+1,i,s,d,l,p,t,hk,st,T,z,X,D=>by
  refine YQ F.entry_set_update_loop ?_;rw[Ym W5];refine Zy (m:=pyNext (.ref I)) (W.item i s _ _ (by lia) st λv s1 pv OT g=>?_);obtain⟨x,O,rfl,hx⟩:=hP i v pv;have T1:Ts w s1.heap S d l p t:=⟨g.heap S _ (λh=>a (W.sub _ h)) T.at_,T.tb,T.KQ,T.pm,T.nd,T.Jc⟩
  refine Zy (m:=holding [Value.str x O] (setAdd S (.str x O))) (Yp ?_);unfold setAdd;refine Yp (Zy (wpAny_pyHash_str (vU (s:={ s1 with toks:=s1.toks+1 }) T1 (by lia) λh' q L J u b Q T2 Kn G5=>?_)));refine Zr ⟨Xr W5 _,qD W a U hP j k (i+1) _ q L J u (by lia) (W.frame _ s1 _ _ OT (Y5 _) λc C o e=>?_) T2 (λy=>?_) (by lia) λs2 Ui JG Oe t2 UH T3 Vb LN=>?_⟩
  ·rw[Q.2 c λH=>a (H ▸ C)];exact e
  ·rw[Kn y,z y,List.take_add_one,hx,ZW];simp
  ·refine D s2 Ui JG Oe t2 (Moved.trans W.gtrans (Moved.then_heap (g.mono λb j=>Zt _ j) (Y5 _) λc o C e=>?_) UH) T3 Vb LN;rw[Q.2 c λH=>C (by rw[H];exact Zu)];exact e
abbrev bare(w:SZ):Obj:={ cls:=.type "set",dict:=Y,data:=.set #[] 0 (.fresh 0 0 (!Kv w)) }
def zh{s:GM}(v:KM){Q:Z1}(h:Q (.ref s.heap.objs.size) { s with heap:=s.heap.push (bare w) }) :
  codeAny (IR prog w) A (.call (.builtin "set.__new__") ⟨[.type "set",v],[]⟩) (wants Q E) s:=by
 refine codeAny_of_tree (Zy (m:=checkBuiltinCall "set.__new__" ⟨[.type "set",v],[]⟩) (wpAny_of_eq (F.newCall_set_1 v) (Zr ⟨Xr F.plain_set_new _,YQ F.entry_set_new ?_⟩)));rw[Ym F.plain_set_new];have own:=sub_set_self;cases s;unfold Builtin.«set.__new__» Builtin.Frozenset.newClass
 wp_walk
 refine Wv (Zr ?_);simp only[newObj];exact Zy (wpAny_alloc (Zr (Zr h)))
theorem Ts.bare(h:SL):Ts w (h.push (ST.bare w)) h.objs.size [] #[] 0 (.fresh 0 0 (!Kv w)) :=
 ⟨Zh _ L,⟨rfl,rfl,λe=>absurd L e⟩,λe he=>by simp at he,YD _,YL,by decide⟩
end ST
end
section
namespace ST
open PySem PySem.Spec PyProof.Rows
def lB:Slot "set_iterator" "__next__" "set_iterator.__next__" := .of (owner := "set_iterator") (n := "__next__") (by rw[XA,Y9];kernel_rfl) (by decide +kernel) (by decide +kernel)
 (by decide +kernel) (by first | exact .inl (by decide +kernel) | exact .inr (by decide +kernel)) (by rw[Wj];kernel_rfl)
def tF:Slot "set_iterator" "__iter__" "set_iterator.__iter__" := .of (owner := "set_iterator") (n := "__iter__") (by rw[XA,Y9];kernel_rfl) (by decide +kernel) (by decide +kernel)
 (by decide +kernel) (by first | exact .inl (by decide +kernel) | exact .inr (by decide +kernel)) (by rw[Wj];kernel_rfl)
def AN:entryFor table "set_iterator.__next__" = Z Builtin.«set_iterator.__next__» := entryFor_of_fast (by kernel_rfl)
def AR:entryFor table "set_iterator.__iter__" = Z Builtin.«dict_keyiterator.__iter__» := entryFor_alias (id' := "dict_keyiterator.__iter__") (by kernel_rfl) L (by decide +kernel) (by kernel_rfl)
def zK:entryFor table "set.__iter__" = Z Builtin.«frozenset.__iter__» := entryFor_alias (id' := "frozenset.__iter__") (by kernel_rfl) L (by decide +kernel) (by kernel_rfl)
def AS(v:KM):argsOk "set_iterator.__next__" ⟨[v],[]⟩:=by unfold argsOk;kernel_rfl
def AG(v:KM):argsOk "set_iterator.__iter__" ⟨[v],[]⟩:=by unfold argsOk;kernel_rfl
def wp_choose(b:n≠0)(h:∀i d,i<n->Q i { s with drawn:=d }):On (IR prog w) A (choose a n) Q E s:=λΓ p _=>by
 show n≠0/\_;exact⟨b,h _ _ (Nat.mod_lt _ (YM b))⟩
theorem pQ{α:Type}:∀(l:List α){i:Nat}(h:i<l.length),(l[i] :: l.eraseIdx i).Perm l
 |a :: l,0,_=>YD _
 |a :: l,i+1,h=>((List.Perm.swap _ _ _).trans ((pQ l (by simpa using h)).cons a))
def AV{α:Type}:∀(n:Nat)(a:List α)(s:GM)(Q:List α->GM->Prop),n=a.length->(∀b d,b.Perm a->Q b { s with drawn:=d })->On (IR prog w) A (drawOrder n a) Q E s:=by
 intro n
 induction n with
 |zero =>
  intro a s Q e h;cases a with
  |nil=>exact Zr (h [] s.drawn (YD _))
  |cons x a=>exact absurd e (by simp)
 |succ n g =>
  intro a s Q e h;cases a with
  |nil=>exact absurd e (by simp)
  |cons x a =>
   unfold drawOrder;refine Zy (wp_choose (by simp) λi d f=>?_);rw[Zq f];refine Zy (g _ _ _ (by rw[List.length_eraseIdx,Zn f];simp at e ⊢;omega) λb l j=>Zr (h _ l ?_));exact(List.Perm.cons _ j).trans (pQ _ f)
noncomputable abbrev KC(first:KM)(i:Nat)(a:KF)(n b:Nat):Obj:={ cls:=.type "set_iterator",data:=.fields #[first,.int i 0,.ref a,.int n 0,.int b 0] }
def vJ{t:SetTable}(h:t.fits n=M):¬((t.place.size != n||decide (t.fill > t.mask))=M):=by
 unfold SetTable.fits at h;simp at h;simp[h.1];exact h.2
def wO{A:Re}{s:GM}(g:A.handled=Y)(h:∀(d:SL)(x:KF),(∀b o,s.heap.get? b=Z o->d.get? b=Z o)->(∃o,d.get? x=Z o/\o.cls=.type "StopIteration")->f (.ref x) { s with heap:=d }) :
  On (IR prog w) A (newExc (.type "StopIteration") [] >>= λe=>raiseNew e) Q f s:=by
 simp only[newExc,newTuple];refine Zy (Zy (Yd (Zy (m:=firstArgMember _ _) (wpAny_of_eq (a:=Value.none) (by first | rfl | (simp only[firstArgMember];rfl)) (Yd ?_ (by size_fits)))) (by size_fits)));simp only[raiseNew];refine Zy (wpAny_handled ?_);rw[g];exact Zy (Zr (wpAny_throw (h _ _ (λb o e=>Zw _ (Zw _ e)) ⟨_,Zh _ L,rfl⟩)))
def uG{A:Re}{s:GM}(j:s.heap.get? I=Z { cls:=.type "set_iterator",data:=.fields l })(h:On (IR prog w) A.in1 (Builtin.«set_iterator.__next__» ⟨[.ref I],[]⟩) (λf a=>∃v,f=.done (.ret v)/\Q (Z v) a) (λe a=>∃x,e=.ref x/\(∃o,a.heap.get? x=Z o/\o.cls=.type "StopIteration")/\Q Y a) s) :
  On (IR prog w) A (pyNext (.ref I)) Q E s:=by
 unfold pyNext;have ty:s.TypeIs (.ref I) "set_iterator" := ⟨_,j,rfl⟩
 refine Zy (wpAny_attempt (Xj (name:=Str.ofString "__next__") ty lB (YO lB ty AN (Y3 h (λf a g=>?_) λe a he=>?_) (AS _))))
 ·obtain⟨v,rfl,q⟩:=g;exact⟨v,rfl,Zr q⟩
 ·obtain⟨x,rfl,⟨o,d,i⟩,q⟩:=he;exact Zy (Ww (T := "StopIteration") (b:=M) ⟨o,d,i⟩ WD (Zr q))
noncomputable abbrev nA(a:Array (Int×KM))(b:Nat)(t:SetTable):Obj:={ cls:=.type "set",dict:=Y,data:=.set a b t }
def mF{A:Re}{s:GM}{q:Vv}(C:A.handled=Y)(v:s.heap.get? a=Z (nA f m t))(r:t.fits f.size=M)(l:s.heap.get? I=Z (KC (.ref p) i a f.size m))(y:s.heap.get? p=Z n)(D:n.data=.seq (q.map λ(k:Nat)=>rawInt k).toArray u)(H:∀j x,q[i]?=Z j->f[j]?=Z x->∀d,Heap.SameBut I s.heap d->d.get? I=Z (KC (.ref p) (i+1) a f.size m)->Q (Z x.2) { s with heap:=d })(G:∀j,q[i]?=Z j->j<f.size)(F:q[i]?=Y->∀d,(∀b o,b≠I->s.heap.get? b=Z o->d.get? b=Z o)->Q Y { s with heap:=d }) :
  On (IR prog w) A (pyNext (.ref I)) Q E s:=by
 refine uG l ?_;unfold Builtin.«set_iterator.__next__»
 wp_walk
 rw[Zm (vJ r)];refine Zr (Zr ?_);dsimp only;rw[Zm (by simp)];refine Zy (X8 y D ?_);dsimp only;rw[YX];cases g:q[i]? with
 |some j =>
  have e1:(q.map λ(k:Nat)=>rawInt k).toArray[i]?=Z (rawInt j):=by simp[g]
  rw[e1];have z:=G j g;unfold setNextDrawn;refine Zy (Zy (Xw v L r ?_));dsimp only;rw[YX,Zm (by simp)];show On _ _ (match f[(j:Int).toNat]? with | some (_,x)=>pure x | _=>unsupported "internal:set_iterator") _ _ _;rw[YX];cases h:f[j]? with
  |none=>rw[Ya z]at h;cases h
  |some x =>
   refine Zr (Zy (Xk l L (by show 1<5;decide) (Zr ⟨_,rfl,H j x g h _ (Xl ..) ?_⟩)));exact Yr _ l L
 |none =>
  have e1:(q.map λ(k:Nat)=>rawInt k).toArray[i]?=Y:=by simp at g ⊢;exact g
  rw[e1];dsimp only;have J:=Yr (Obj.mapFields (·.setIfInBounds 0 (rawInt 0))) l L;refine Zy (Xk l L (by show 0<5;decide) (Zy (Xk J L (by show 2<5;decide) (wO C λd x kp h=>⟨x,rfl,h,F g d λb o hb e=>kp b o ?_⟩))));exact(YW _ _ (YR hb)).trans ((YW _ _ (YR hb)).trans e)
def gw{prog:P3}{w:SZ}{A:Re}{s:GM}{I a:KF}{i h m:Nat}{g:Array (Int×KM)}{t:SetTable}{r:Option (KM×Nat)}{Q:Vw->GM->Prop}(u:A.handled=Y)(z:s.heap.get? a=Z (nA g h t))(v:t.fits g.size=M)(f:s.heap.get? I=Z (KC (.int m 0) i a g.size h))(q:∀(Q:Option (KM×Nat)->GM->Prop)(E:Z1),Q r s->On (IR prog w) A.in1 (setNext a m i h) Q E s)(l:∀x nx,r=Z (x,nx)->∀d,Heap.SameBut I s.heap d->d.get? I=Z (KC (.int nx 0) (i+1) a g.size h)->Q (Z x) { s with heap:=d })(j:r=Y->∀d,(∀b o,b≠I->s.heap.get? b=Z o->d.get? b=Z o)->Q Y { s with heap:=d }) :
  On (IR prog w) A (pyNext (.ref I)) Q E s:=by
 refine uG f ?_;unfold Builtin.«set_iterator.__next__»
 wp_walk
 rw[Zm (vJ v)];refine Zr (Zr ?_);dsimp only;rw[Zm (by simp)];simp only[YX];refine Zy (q _ _ ?_)
 match r,l,j with
 |some (x,nx),l,_ =>
  have n:=Yr (Obj.mapFields (·.setIfInBounds 0 (rawInt nx))) f L;have y:=Yr (Obj.mapFields (·.setIfInBounds 1 (rawInt ((i:Int)+1)))) n L;exact Zy (Xk f L (by show 0<5;decide) (Zy (Xk n L (by show 1<5;decide) (Zr ⟨x,rfl,l x nx L _ (Heap.SameBut.trans (Xl ..) (Xl ..)) y⟩))))
 |none,_,j =>
  refine Zy (Xk f L (by show 2<5;decide) (wO u λd x kp p=>⟨x,rfl,p,j L d λb o hb e=>kp b o ?_⟩));exact(YW _ _ (YR hb)).trans e
theorem tR{α:Type}(f:Nat->Nat):∀(n k:Nat)(l:List α)(out:Array α),l.length=n->(pickOrder.go f n k l out).toList.Perm (out.toList++l)
 |0,k,l,out,h=>by
  cases l with
  |nil=>unfold pickOrder.go;simp
  |cons a l=>simp at h
 |n+1,k,l,out,h=>by
  have b:f k%l.length<l.length:=Nat.mod_lt _ (by lia);unfold pickOrder.go;rw[Zq b];dsimp only;refine(tR f n (k+1) _ _ (by rw[List.length_eraseIdx,Zn b];lia)).trans ?_;rw[Array.toList_push,Z4];exact List.Perm.append_left _ (pQ l b)
def kg{α:Type}(f:Nat->Nat)(a:Array α):(pickOrder f a).toList.Perm a.toList:=by
 unfold pickOrder;simpa using tR f a.size 0 a.toList #[] L
def uz{s:GM}(m:Kv w=M)(j:s.heap.get? a=Z (nA b d t))(l:t.fits b.size=M)(Q:Option (KM×Nat)->GM->Prop)(E:Z1)(h:Q (((pickOrder (w.params.setOrder a d) b)[i]?).map λe=>(e.2,f)) s):On (IR prog w) A (setNext a f i d) Q E s:=by
 have g:∀(Q:Bool->GM->Prop),Q M s->On (IR prog w) A setsByText Q E s:=λQ q=>Zy (Wv (Zr (by show Q (Kv w) s;rw[m];exact q)));unfold setNext;refine Zy (Xw j L l (Zy (g _ ?_)));dsimp only;rw[Zn L,Zm (by simp)];unfold setWalk;refine Zy (Zy (Xw j L l (Zy (g _ ?_))));rw[Zn L];exact Zy (Wv (Zr (Zr h)))
def xX{s:GM}(o:Kv w=B)(l:s.heap.get? a=Z (nA d f t))(n:t.fits d.size=M)(m:t.led=M)(r:d.size<=1)(Q:Option (KM×Nat)->GM->Prop)(E:Z1)(h:Q (match d[SetTable.below t.place e]?,t.place[SetTable.below t.place e]? with | some (_,x),some j=>some (x,j+1) | _,_=>none) s):On (IR prog w) A (setNext a e i f) Q E s:=by
 have g:∀(Q:Bool->GM->Prop),Q B s->On (IR prog w) A setsByText Q E s:=λQ q=>Zy (Wv (Zr (by show Q (Kv w) s;rw[o];exact q)));unfold setNext;refine Zy (Xw l L n (Zy (g _ ?_)));dsimp only;rw[Zm ZY];have p:∀b:Bool,¬((b&&decide (d.size > 1))=M):=λb=>by cases b<;>simp<;>omega
 refine(show On _ _ (if (!t.plain&&decide (d.size > 1))=M then _ else _) _ _ _ from ?_);rw[Zm (p _)];refine Zy (show On _ _ (if (!t.led && !d.isEmpty)=M then _ else _) _ _ _ from ?_);rw[Zm (by rw[m];simp)];exact Zr (Zr h)
end ST
end
section
namespace ST
open PySem PySem.Spec PyProof.Rows
def xw{α:Type}{a:Array α}(h:a.size=1):∃x,a=#[x]:=by
 obtain⟨l⟩:=a
 match l,h with
 |[x],_=>exact⟨x,rfl⟩
noncomputable abbrev Gs:Array GenState->Array GenState->Prop:=λa b=>b=a
def iY{n:W6}{j:Array (Int×KM)}{ep:Nat}{t:SetTable}{l:Vx}(first:Nat->KM)(d:SL->Prop)(y:I∈n)(D:a∈n)(F:a≠I)(u:∀h f:SL,d h->(∀b∈n,b≠I->∀o,h.get? b=Z o->f.get? b=Z o)->d f)(step:∀(i:Nat)(s:GM)(Q:Vw->GM->Prop)(E:Z1),i<j.size->s.heap.get? a=Z (nA j ep t)->s.heap.get? I=Z (KC (first i) i a j.size ep)->d s.heap →
   (∀v f,l[i]?=Z v->Heap.SameBut I s.heap f->f.get? I=Z (KC (first (i+1)) (i+1) a j.size ep)->Q (Z v) { s with heap:=f })->On (IR prog w) A (pyNext (.ref I)) Q E s)(stop:∀(s:GM)(Q:Vw->GM->Prop)(E:Z1),s.heap.get? a=Z (nA j ep t)->s.heap.get? I=Z (KC (first j.size) j.size a j.size ep)->d s.heap →
   (∀f,(∀b o,b≠I->s.heap.get? b=Z o->f.get? b=Z o)->Q Y { s with heap:=f })->On (IR prog w) A (pyNext (.ref I)) Q E s) :
  WalksS prog w A I n [I] Gs j.size (λi v=>l[i]?=Z v) (λi s=>s.heap.get? a=Z (nA j ep t)/\s.heap.get? I=Z (KC (first i) i a j.size ep)/\d s.heap) where
 sub:=λb hb=>by rw[Zf.mp hb];exact y
 grefl:=λ_=>rfl
 gtrans:=λ_ _ _ p q=>q.trans p
 frame:=λi s f G st _ kp=>⟨kp a D _ st.1,kp I y _ st.2.1,u _ _ st.2.2 λb hb _ o e=>kp b hb o e⟩
 item:=λi s Q E C st m=>step i s Q E C st.1 st.2.1 st.2.2 λv f z r g=>m v _ z ⟨(r.2 a F).trans st.1,g,u _ _ st.2.2 λb _ hb o e=>(r.2 b hb).trans e⟩ ⟨λb o hb e=>(r.2 b λq=>hb (by rw[q];exact Zf.mpr L)).trans e,rfl,rfl,rfl,Zl _⟩
 done:=λs Q E st m=>stop s Q E st.1 st.2.1 st.2.2 λf kp=>m _ ⟨λb o hb e=>kp b o (λq=>hb (by rw[q];exact Zf.mpr L)) e,rfl,rfl,rfl,Zl _⟩
 self:=λi s Q E st m=>Wb ⟨_,st.2.1,rfl⟩ tF (YO tF ⟨_,st.2.1,rfl⟩ AR (show On _ _ (ret (.ref I)) _ _ _ from Zr ⟨_,rfl, "set_iterator",_,⟨_,st.2.1,rfl⟩,lB.lookup,m⟩) (AG _))
def Ready(b:P3)(w:SZ)(d:Nat)(a:KF)(e:Array (Int×KM))(I:KF)(s:GM):Prop :=
 ∃(ord:Vx)(p:KF),ord.Perm (e.toList.map (·.2))/\d<=I/\d<=p/\∃St:Nat->GM->Prop,(∀A:Re,A.handled=Y->WalksS b w A I [I,a,p] [I] Gs e.size (λi v=>ord[i]?=Z v) St)/\St 0 s
def yr{s:GM}(T:Ts w s.heap a ss l ep t)(h:∀(I:KF)(p:SL) d,(∀b o,s.heap.get? b=Z o->p.get? b=Z o)->Ready prog w s.heap.objs.size a l I { s with heap:=p,drawn:=d }->I<p.objs.size->Q (.ref I) { s with heap:=p,drawn:=d }) :
  On (IR prog w) A (pyIter (.ref a)) Q E s:=by
 have J:s.heap.get? a=Z (nA l ep t):=T.at_;have G0:=Za J;have ty:s.TypeIs (.ref a) "set" := ⟨_,J,rfl⟩
 refine Wb ty F.slot_set_iter (YO F.slot_set_iter ty zK ?_ (F.args_set_iter_1 _));unfold Builtin.«frozenset.__iter__» Builtin.Frozenset.slot0 Builtin.Frozenset.sizeOf setEntries;refine Zy (m:=(do Builtin.Frozenset.addrOf (← slotArgs "__iter__" 0 ⟨[.ref a],[]⟩).1)) (Zr ?_);refine Zy (Zy (Zy (Xw J L T.tb.fit (Zr (Zr ?_)))));unfold setDrawn;have z:∀(Q:Bool->GM->Prop)(E:Z1),Q (Kv w) s->On (IR prog w) A.in1 setsByText Q E s:=λQ E q=>Zy (Wv (Zr q));refine Zy (Zy (Xw J L T.tb.fit (Zy (z _ _ (Zr ?_)))));refine(show On _ _ (if (!Kv w&&(!t.plain&&decide (l.size > 1)))=M then _ else _) _ _ _ from ?_);dsimp only;have fin:∀(first:KM)(n:SL)(d:_),(∀b o,s.heap.get? b=Z o->n.get? b=Z o)->Ready prog w s.heap.objs.size a l n.objs.size { s with heap:=n.push (KC first 0 a l.size ep),drawn:=d } →
   On (IR prog w) A.in1 (do
    let e ← setEpoch a
    let v ← newFields "set_iterator" [first,rawInt 0,Value.ref a,rawInt l.size,rawInt e]
    ret v) (λf s'=>∃v,f=.done (.ret v)/\∃T' r,s'.TypeIs v T'/\typeLookup (Value.type T') (Str.ofString "__next__")=pure (Z r)/\Q v s') E { s with heap:=n,drawn:=d }:=λfirst n d kp rd=>by
  refine Zy (wpAny_setEpoch_of (s:={ s with heap:=n,drawn:=d }) (kp _ _ J) rfl T.tb.fit (Zy (Yd (Zr ⟨_,rfl, "set_iterator",_,⟨_,Zh _ L,rfl⟩,lB.lookup,?_⟩))));exact h n.objs.size _ d (λb o e=>Zw _ (kp b o e)) rd (by rw[Z9];exact Yz _)
 have HI:a≠s.heap.objs.size:=Zg G0;cases hb:Kv w with
 |true =>
  rw[Zm (by simp)];refine Zy (Zr (fin (rawInt 0) s.heap s.drawn (λb o e=>e) ⟨(pickOrder (w.params.setOrder a ep) l).toList.map (·.2),s.heap.objs.size,(kg _ _).map _,Zl _,Zl _,_,λP G =>
   iY (ep:=ep) (t:=t) (λ_=>rawInt 0) (λ_=>True) (by simp) (by simp) HI (λ_ _ _ _=>trivial) ?step ?stop,⟨Zw _ J,Zh _ L,trivial⟩⟩))
  case step =>
   intro i s1 N O D n h2 _ q;have hl:(pickOrder (w.params.setOrder a ep) l).size=l.size:=by rw[← ZC,(kg _ l).length_eq,ZC]
   refine gw G n T.tb.fit h2 (λQ E C=>uz hb n T.tb.fit Q E C) (λx nx e p z g=>?_) λe=>?_
   ·rw[Ya (by lia)]at e;cases e;exact q _ p (by rw[ZZ,Z5,Ya (by lia)];rfl) z g
   ·rw[Ya (by lia)]at e;cases e
  case stop =>
   intro s1 N O n h2 _ q;have hl:(pickOrder (w.params.setOrder a ep) l).size=l.size:=by rw[← ZC,(kg _ l).length_eq,ZC]
   refine gw G n T.tb.fit h2 (λQ E C=>uz hb n T.tb.fit Q E C) (λx nx e p z g=>?_) λe=>q;rw[XB (by exact XT hl)]at e;cases e
 |false =>
  by_cases n:l.size > 1
  ·rw[Zn (by rw[T.tb.pl (by exact Nat.ne_zero_of_lt n)];simp[n])];refine Zy (AV _ _ _ _ (by simp) λq d C=>Zy (Yd (fin _ _ d (λb o e=>Zw _ e) ?_) ?_))
   ·have SE:q.length=l.size:=by rw[C.length_eq,Z3]
    have SD:∀j∈q,j<l.size:=λj hj=>Yc.mp (C.mem_iff.mp hj);refine⟨q.map λj=>((l[j]?).map (·.2)).getD .none,s.heap.objs.size,?_,by rw[Z9];exact Y5 _,Zl _,_,λP G =>
     iY (ep:=ep) (t:=t) (λ_=>.ref s.heap.objs.size) (λh=>h.get? s.heap.objs.size=Z { cls:=.type "tuple",data:=.seq (q.map λ(k:Nat)=>rawInt k).toArray }) (by simp) (by simp)
      (by rw[Z9];exact Zg (YY G0)) (λx y e k=>k _ (by simp) (by rw[Z9];exact Zg (Yz _)) _ e) ?step ?stop,⟨Zw _ (Zw _ J),Zh _ L,Zw _ (Zh _ L)⟩⟩
    case step =>
     intro i s1 N O D u H R q1;refine mF G u T.tb.fit H R L (λj x e1 e2 p z g=>q1 _ p ?_ z g) (λj e=>SD j (YK e)) λe=>?_
     ·rw[ZZ,e1];simp[e2]
     ·rw[Zq (by lia)]at e;cases e
    case stop =>
     intro s1 N O u H R q1;refine mF G u T.tb.fit H R L (λj x e1 e2 p z g=>?_) (λj e=>SD j (YK e)) λe=>q1;rw[ZD (by exact XT SE)]at e1;cases e1
    refine(C.map _).trans (List.Perm.of_eq ?_);apply Wo;intro i;rw[ZZ,ZZ];by_cases D:i<l.size
    ·rw[List.getElem?_range D,Z5,Ya D];simp[D]
    ·rw[ZD (by rw[Z3];exact ZL D),Z5,XB (by exact ZL D)];rfl
   ·show _<=KB;have SE:q.length=l.size:=by rw[C.length_eq,Z3]
    have:=Wa T.Jc;simp;lia
  ·rw[Zm (by simp[n])];have JE:t.led=M:=by rw[T.tb.led,hb];rfl
   have JB:t.place.size=l.size:=by
    have:=T.tb.fit;unfold SetTable.fits at this;simp at this;exact this.1
   have QX:∀(i S:Nat)(s1:GM),s1.heap.get? a=Z (nA l ep t)->∀(P:Re)(Q:Option (KM×Nat)->GM->Prop)(E:Z1),Q (match l[SetTable.below t.place S]?,t.place[SetTable.below t.place S]? with | some (_,x),some j=>some (x,j+1) | _,_=>none) s1 →
     On (IR prog w) P (setNext a S i ep) Q E s1:=λi S s1 g P Q E C=>xX hb g T.tb.fit JE (by exact ZL n) Q E C
   by_cases h0:l.size=0
   ·have he:l=#[]:=Array.eq_empty_of_size_eq_zero h0;refine Zy (Zr (fin (rawInt 0) s.heap s.drawn (λb o e=>e) ⟨[],s.heap.objs.size,by rw[he];exact YD _,Zl _,Zl _,_,λP G =>
     iY (ep:=ep) (t:=t) (λ_=>rawInt 0) (λ_=>True) (by simp) (by simp) HI (λ_ _ _ _=>trivial) ?step ?stop,⟨Zw _ J,Zh _ L,trivial⟩⟩))
    case step=>exact λi s1 N O D=>absurd D (by lia)
    case stop =>
     intro s1 N O u H _ q;refine gw G u T.tb.fit H (QX l.size 0 s1 u _) (λx nx e p z g=>?_) λe=>q;rw[XB (by lia)]at e;cases e
   ·have Lc:l.size=1:=by lia
    obtain⟨x0,M0⟩:∃x,l=#[x]:=xw Lc;obtain⟨U,X⟩:∃j,t.place=#[j]:=xw (by exact Eq.trans JB Lc);have b0:SetTable.below t.place 0=0:=by rw[X];simp[SetTable.below,SetTable.below.go]
    have b1:SetTable.below t.place (U+1)=1:=by rw[X];simp[SetTable.below,SetTable.below.go]
    refine Zy (Zr (fin (rawInt 0) s.heap s.drawn (λb o e=>e) ⟨[x0.2],s.heap.objs.size,by rw[M0];exact YD _,Zl _,Zl _,_,λP G =>
     iY (ep:=ep) (t:=t) (λi=>.int ((if i=0 then 0 else U+1:Nat):Int) 0) (λ_=>True) (by simp) (by simp) HI (λ_ _ _ _=>trivial) ?step ?stop,⟨Zw _ J,Zh _ L,trivial⟩⟩))
    case step =>
     intro i s1 N O D u H _ q;have Vn:i=0:=by lia
     subst Vn;refine gw G u T.tb.fit H (QX 0 0 s1 u _) (λx nx e p z g=>?_) λe=>?_
     ·rw[b0,M0,X]at e;cases e;exact q x0.2 p L z g
     ·rw[b0,M0,X]at e;cases e
    case stop =>
     intro s1 N O u H _ q;rw[Lc]at H;have R:s1.heap.get? s.heap.objs.size=Z (KC (.int ((U+1:Nat):Int) 0) 1 a l.size ep):=by rw[Lc];exact H
     refine gw G u T.tb.fit R (QX 1 (U+1) s1 u _) (λx nx e p z g=>?_) λe=>q;rw[b1,XB (by exact ZL n)]at e;cases e
def vY{s:GM}(d:s.TypeIs (.ref a) "set")(h:Q B s):On (IR prog w) A (Builtin.List.listLengthHint (.ref a)) Q E s:=by
 unfold Builtin.List.listLengthHint;refine Zy (wpAny_specialOf d PySem.F.slot_set_len.lookup ?_);generalize f:("set.__len__" : String)=nm
 wp_delta
 rw[show splitId nm=Z ("set", "__len__") from by subst f;decide +kernel];subst f;exact Zy (Ww (T := "set") (b:=M) d sub_set_self (wpAny_ite_split (λe=>absurd e (by decide)) λ_=>wpAny_ite_split (λ_=>Zy (wpAny_typeOf d (Zr h))) λe=>absurd (by decide +kernel) e))
def zM{A:Re}{s:GM}(hh:A.handled=Y)(T:Ts w s.heap a D l N t)(h:∀(X:SL) d (tk:Nat) (C:Vx),(∀b o,s.heap.get? b=Z o->X.get? b=Z o)->(∀v∈C,∃x u,v=Value.str x u)->(C.map strOf).Perm D->R C { s with heap:=X,drawn:=d,toks:=tk }) :
  On (IR prog w) A (collect (.ref a)) R E s:=by
 have S:s.heap.get? a=Z (nA l N t):=T.at_;have G0:=Za S;have hz:=Wa T.Jc;unfold collect;refine Zy (wpAny_runValue (YQ entry_proto_collect' ?_));rw[Ym PySem.F.plain_proto_collect];refine Zy (m:=newList []) (Yd (Zr ⟨Xr PySem.F.plain_list_iadd _,YQ entry_list_iadd' ?_⟩));rw[Ym PySem.F.plain_list_iadd];refine(show On _ A.in1 (Builtin.List.listExtendWith (.ref s.heap.objs.size) (.ref a) (.ref s.heap.objs.size)) _ _ _ from ?_);have L0:(s.heap.push { cls:=.type "list",data:=.seq ([]:Vx).toArray }).get? s.heap.objs.size=Z { cls:=.type "list",data:=.seq #[] }:=Zh _ L;have O:Ts w (s.heap.push { cls:=.type "list",data:=.seq ([]:Vx).toArray }) a D l N t:=⟨Zw _ S,T.tb,T.KQ,T.pm,T.nd,T.Jc⟩
 unfold Builtin.List.listExtendWith;have ty:Shared.TypeIs { s with heap:=s.heap.push { cls:=.type "list",data:=.seq ([]:Vx).toArray } } (.ref a) "set" := ⟨_,O.at_,rfl⟩
 refine Zy (wpAny_typeOf (T := "set") ty ?_);rw[Zm (by
  have:Builtin.List.listSameRef (.ref s.heap.objs.size) (.ref a)=B:=by simp[Builtin.List.listSameRef];exact Xp G0
  rw[this];decide)]
 refine Zy (yr O λI G d kp rd hI=>?_);obtain⟨ord,p,P,VT,HR,St,W,st⟩:=rd;have T7:Shared.TypeIs { s with heap:=G,drawn:=d } (.ref a) "set" := ⟨_,kp _ _ O.at_,rfl⟩
 refine Zy (Yp (vY T7 ?_));have S8:s.heap.objs.size<I:=ZR (by rw[Z9];exact Yz _) VT;have JB:s.heap.objs.size<p:=ZR (by rw[Z9];exact Yz _) HR;have off:s.heap.objs.size∉[I,a,p]:=by
  simp only[Zj,Yt,or_false,not_or];exact⟨Zg S8,Xp G0,Zg JB⟩
 have W1:=W A.in1 hh;have loop:∀(f:SL)(c:Nat),(∀b o,b≠s.heap.objs.size->G.get? b=Z o->f.get? b=Z o)->f.get? s.heap.objs.size=Z { cls:=.type "list",data:=.seq #[] c } →
   codeAny (IR prog w) A (.builtin "list.extend.loop" ⟨[.ref s.heap.objs.size,.ref I,.ref s.heap.objs.size],[]⟩) (λr g=>∃acc z,r=.ok (.ret (.ref s.heap.objs.size))/\g.heap.get? s.heap.objs.size=Z { cls:=.type "list",data:=.seq acc z }/\R acc.toList g) { s with heap:=f,drawn:=d }:=λf c y j=>by
  refine codeAny_extend_loopS W1 hz s.heap.objs.size off _ l.size 0 _ #[] c L (YT _) (W1.frame 0 _ f s.toks st (Zl _) λb hb o e=>y b o (λq=>off (q ▸ hb)) e) j (ItemsOf.nil _) λg acc z n J U=>⟨acc,z,rfl,J,?_⟩
  obtain⟨h3,H,d3,PD,Uy⟩:=g;have e1:H=s.gens:=n.gens;have e2:d3=d:=n.drawn;have e3:Uy=s.os:=n.os;subst e1 e2 e3;have Og:acc.toList=ord:=by
   apply Wo;intro i;rw[Z5];cases e:acc[i]? with
   |some v=>exact(U.2 i v e).symm
   |none =>
    have h4:acc.size<=i:=Array.getElem?_eq_none_iff.mp e;have h5:ord.length=l.size:=by rw[P.length_eq];simp
    exact(ZD (by rw[h5,← U.1];exact h4)).symm
  refine h h3 d3 PD acc.toList (λb o e=>?_) (λv Q=>?_) ?_
  ·have hb:=Za e;refine n.heap b o (λHo=>?_) (y b o (Zg hb) (kp b o (Zw _ e)));simp only[Zj,Yt,or_false]at Ho;rcases Ho with q | q
   ·exact Zg hb q
   ·exact Zg (Wt hb S8) q
  ·rw[Og]at Q;obtain⟨e,he,rfl⟩:=ZU.mp (P.mem_iff.mp Q);obtain⟨x,u,rfl⟩:=T.KQ e he;exact⟨x,u,rfl⟩
  ·rw[Og];refine(P.map strOf).trans (List.Perm.trans (List.Perm.of_eq ?_) T.pm);rw[ZM];rfl
 have gL:=kp _ _ L0;have end_:∀(f:SL)(c:Nat),(∀b o,b≠s.heap.objs.size->G.get? b=Z o->f.get? b=Z o)->f.get? s.heap.objs.size=Z { cls:=.type "list",data:=.seq #[] c }->_:=λf c y j =>
  X9 (loop f c y j) (R':=λr g=>match r with | .ok (.ret v)=>On (IR prog w) A (match v with | .ref a=>load a >>= λo=>(match o.data with | .seq xs _=>pure xs.toList | _=>unsupported "internal:collect") | _=>unsupported "internal:collect") R E g | .ok _=>False | .error e=>E e g) λr g hq=>by
   obtain⟨acc,z,e,J,q⟩:=hq;subst e;exact Zy (wpAny_load J (Zr q))
 rw[Zn (by decide)];have j:=Yr (Obj.mapSeq (·.push Value.none)) gL L;have H:=Yr (Obj.mapSeq (·.pop)) j L;refine Zy (Wm (Zy ?_));refine(show On _ _ (updateSeq s.heap.objs.size (·.push .none) >>= λ_=>updateSeq s.heap.objs.size (·.pop)) _ _ _ from ?_);refine Zy (wpAny_updateSeq gL L (wpAny_updateSeq (hz:=by seq_fits) j L (Zr ⟨Xr PySem.F.plain_extend_loop _,end_ _ _ (λb o hb e=>?_) H⟩)));exact(YW _ _ (YR hb)).trans ((YW _ _ (YR hb)).trans e)
end ST
end
section
namespace L2
open PySem PySem.Spec PyProof.Rows TS
section
variable{X:Cx}
noncomputable def zT(w:SZ)(a:KF)(b:List Str):HO:=.ext λ_ h=>∃ss d e t,ST.Ts w h a ss d e t/\∀y,y∈ss↔y∈b
def Inv.drew(I:Inv X a J H s)(d:Drawn):Inv X a J H { s with drawn:=d } :=
 ⟨I.ok,I.os,I.bare,I.base,I.loc,I.cell,I.free,I.G1,I.pin,I.xt,I.len⟩
end
end L2
namespace VS
open PySem PySem.Spec PyProof.Rows L2
section
variable{X:Cx}
theorem gI:∀(l:List Tx)(x:Tx),x∈dedup l↔x∈l
 |[],x=>by simp[dedup]
 |a :: l,x=>by
  simp only[dedup,Zj,YU,gI l x,ne_eq,decide_not,Bool.not_eq_eq_eq_not,Bool.not_true,decide_eq_false_iff_not];by_cases h:x=a
  ·simp[h]
  ·simp[h]
theorem iM:∀(l:List Tx),(dedup l).Nodup
 |[]=>by simp[dedup]
 |a :: l=>by
  simp only[dedup,Zd];exact⟨by simp,(iM l).filter _⟩
def Dv:bootBuiltins ("set" : Str)=Z (.type "set"):=by decide +kernel
def E3{a b:Tx}(h:sx a=sx b):a=b:=by
 have:=congrArg (λs:Str=>s.cps.toList) h;simpa[sx] using this
end
inductive Hz(G:Gx)(H:Hp):List Ky->V->V->Prop
 |nil (v:V):Hz G H [] v v
 |fld {c k:Nat} {a dx:KF} {fs:List (Str×V)} {u w:V} {ks:List Ky}:H a=some (.ins (G.ct (c+1)).1 dx fs)->fs.lookup ((G.ct (c+1)).2 k)=some u->Hz G H ks u w->Hz G H (.fld k :: ks) (.ref a) w
 |ix {a:KF} {vs:List V} {i:Int} {j:Nat} {u w:V} {ks:List Ky}:H a=some (.lst vs)->Hw vs.length i=some j->vs[j]?=some u->Hz G H ks u w->Hz G H (.at (.int i) :: ks) (.ref a) w
 |key {a:KF} {bt:List (Key×V)} {k:Key} {u w:V} {ks:List Ky}:H a=some (.dK bt)->fX bt k=some u->Hz G H ks u w->Hz G H (.at (aQ k) :: ks) (.ref a) w
 |un {v w:V} {ks:List Ky}:Hz G H ks v w->Hz G H (.un :: ks) v w
section
def uk{f:Xq}{i j:Nat}{F h:W6}(d:f.flatten.Nodup)(b:f[i]?=Z F)(e:f[j]?=Z h)(n:i≠j){a:KF}(g:a∈F):a∉h:=by
 intro hb
 induction f generalizing i j with
 |nil=>simp at b
 |cons G Gs l =>
  rw[ZI,ZQ]at d;cases i with
  |zero =>
   simp at b;subst b;cases j with
   |zero=>exact n L
   |succ j=>exact d.2.2 a g a (cY (by simpa using e) hb) L
  |succ i =>
   cases j with
   |zero =>
    simp at e;subst e;exact d.2.2 a hb a (cY (by simpa using b) g) L
   |succ j=>exact l d.2.1 (by simpa using b) (by simpa using e) (by lia)
def cf{d:Xq}(h:a∈(d.set j g).flatten):a∈g\/∃i F,i≠j/\d[i]?=Z F/\a∈F:=by
 obtain⟨i,F,b,f⟩:=fH h;by_cases e:i=j
 ·subst e;rw[List.getElem?_set_self' ]at b;cases q:d[i]? with
  |none=>rw[q]at b;cases b
  |some _=>rw[q]at b;cases b;exact .inl f
 ·rw[Y8 (YR e)]at b;exact .inr ⟨i,F,e,b,f⟩
theorem dv:∀{p:Xq}{j:Nat}{f:W6},p.flatten.Nodup->f.Nodup->(∀i F,i≠j->p[i]?=Z F->∀a∈F,a∉f)->(p.set j f).flatten.Nodup
 |[],_,_,h,_,_=>by simpa using h
 |G :: Gs,0,f,h,o,d=>by
  rw[ZI,ZQ]at h;rw[List.set_cons_zero,ZI,ZQ];refine⟨o,h.2.1,λa g b hb e=>?_⟩;subst e;obtain⟨i,F,m,l⟩:=fH hb;exact d (i+1) F (by lia) (by simpa using m) a l g
 |G :: Gs,j+1,f,h,o,d=>by
  rw[ZI,ZQ]at h;rw[List.set_cons_succ,ZI,ZQ];refine⟨h.1,dv h.2.1 o λi F n q=>d (i+1) F (by lia) (by simpa using q),λa g b hb e=>?_⟩;subst e;rcases cf hb with z | ⟨i,F,n,m,l⟩
  ·exact d 0 G (by lia) L a g z
  ·exact h.2.2 a g a (cY m l) L
theorem RpL.each:∀{e:List V}{f:Vo}{g:Xq},RpL G H e f g->(∀(i:Nat) v t F,e[i]?=Z v->f[i]?=Z t->g[i]?=Z F->Rp G H v t F->Rp G h v t F)->RpL G h e f g
 |_,_,_,.nil,_=>.nil
 |_,_,_,.cons r q,k=>.cons (k 0 _ _ _ L L L r) (RpL.each q λi v t F a b c d=>k (i+1) v t F (by simpa using a) (by simpa using b) (by simpa using c) d)
theorem RpL.setAt:∀{e:List V}{f:Vo}{m:Xq}{j:Nat}{u:V}{o:T}{p:W6},RpL G H e f m->e[j]?=Z u->Rp G l u o p->(∀(i:Nat) v t F,i≠j->e[i]?=Z v->f[i]?=Z t->m[i]?=Z F->Rp G H v t F->Rp G l v t F)->RpL G l e (f.set j o) (m.set j p)
 |_,_,_,_,_,_,_,.nil,h,_,_=>by simp at h
 |_,_,_,0,_,_,_,.cons r q,h,g,k=>by
  simp at h;subst h;exact .cons g (RpL.each q λi v t F a b c d=>k (i+1) v t F (by lia) (by simpa using a) (by simpa using b) (by simpa using c) d)
 |_,_,_,j+1,_,_,_,.cons r q,h,g,k=>.cons (k 0 _ _ _ (by lia) L L L r) (RpL.setAt q (by simpa using h) g λi v t F n a b c d=>k (i+1) v t F (by lia) (by simpa using a) (by simpa using b) (by simpa using c) d)
def oF(O:H a=Z o)(L:RpL G H s J d)(e:(a :: d.flatten).Nodup)(P:s[j]?=Z u)(A:d[j]?=Z D)(g:Chg G H u D E q f):q a=Z o/\RpL G q s (J.set j E) (d.set j f)/\(a :: (d.set j f).flatten).Nodup/\(∀b∈a :: (d.set j f).flatten,b∈a :: d.flatten\/H b=Y)/\∀b o,b∉a :: d.flatten->H b=Z o->q b=Z o:=by
 rw[Zd]at e;have p:∀b∈D,b∈d.flatten:=λb hb=>cY A hb;have C:∀i F,i≠j->d[i]?=Z F->∀b∈F,b∉f:=λi F n N b hb R=>by
  rcases g.sub b R with z | z
  ·exact uk e.2 N A n hb z
  ·exact Gk.p0 (L.GF b (cY N hb)) z
 refine⟨g.keep a o (λz=>e.1 (p a z)) O,L.setAt P g.rp (λi v t F n m l Q r=>r.keep g.kept λb hb w y=>g.keep b w (uk e.2 Q A n hb) y),?_,λb hb=>?_,λb w hb y=>g.keep b w (λz=>hb (Zt _ (p b z))) y⟩
 ·rw[Zd];refine⟨λh=>?_,dv e.2 g.nd C⟩;rcases cf h with z | ⟨i,F,n,m,l⟩
  ·rcases g.sub a z with z | z
   ·exact e.1 (p a z)
   ·rw[O]at z;cases z
  ·exact e.1 (cY m l)
 ·rcases Zj.mp hb with rfl | hb
  ·exact .inl Zu
  ·rcases cf hb with z | ⟨i,F,n,m,l⟩
   ·rcases g.sub b z with z | z
    ·exact .inl (Zt _ (p b z))
    ·exact .inr z
   ·exact .inl (Zt _ (cY m l))
theorem pI{α β:Type}:∀(d:List α)(bs:List β)(i:Nat)(a:α)(y:β),d[i]?=Z a->(d.zip bs).set i (a,y)=d.zip (bs.set i y)
 |[],_,_,_,_,h=>by simp at h
 |a :: d,[],i,_,_,_=>by cases i<;>simp
 |a :: d,b :: bs,0,_,y,h=>by simp at h;subst h;rfl
 |a :: d,b :: bs,i+1,_,y,h=>by
  have:=pI d bs i _ y (by simpa using h);simp[this]
theorem jM{α β:Type}(p:α->Bool):∀{e:List α}{bs:List β}{i:Nat},e.length=bs.length->(e.zip bs).findIdx? (λq=>p q.1)=Z i->∃a b,e[i]?=Z a/\bs[i]?=Z b/\p a=M/\(e.zip bs).find? (λq=>p q.1)=Z (a,b)
 |[],[],_,_,h=>by simp at h
 |a :: e,b :: bs,i,f,h=>by
  rw[ZV,WE]at h;by_cases d:p a=M
  ·rw[Zn d]at h;cases h;exact⟨a,b,rfl,rfl,d,by simp[d]⟩
  ·rw[Zm d]at h;obtain⟨j,g,rfl⟩:=Zs.mp h;obtain⟨s,r,o,n,m,l⟩:=jM p (by simpa using f) g;exact⟨s,r,by simpa using o,by simpa using n,m,by simp[d,l]⟩
def jS(k a:Key):eqT (aQ a) (aQ k)=M↔a=k:=by
 cases k with
 |inl i=>cases a<;>simp[aQ]
 |inr x =>
  obtain⟨⟨x⟩⟩:=x;cases a with
  |inl j=>simp[aQ]
  |inr y=>obtain⟨⟨y⟩⟩:=y;simp[aQ]
theorem ug:∀{ns:List Key}{d:Vo}{a:List V}{i:Nat},ns.length=d.length->ns.length=a.length->((ns.map aQ).zip d).findIdx? (λq=>eqT q.1 (aQ k))=Z i->a[i]?=Z u->fX (ns.zip a) k=Z u
 |[],_,_,_,_,_,h,_=>by simp at h
 |n :: ns,t :: d,v :: a,i,m,l,h,e=>by
  rw[Zi,ZV,WE]at h;by_cases b:eqT (aQ n) (aQ k)=M
  ·rw[Zn b]at h;cases h;simp at e;subst e;exact iA ((jS k n).mp b)
  ·rw[Zm b]at h;obtain⟨j,g,rfl⟩:=Zs.mp h;have f:n≠k:=λz=>b ((jS k n).mpr z);have:fX ((n :: ns).zip (v :: a)) k=fX (ns.zip a) k:=by simp[fX,f]
   rw[this];exact ug (by simpa using m) (by simpa using l) g (by simpa using e)
 |_ :: _,[],_,_,h,_,_,_=>by simp at h
 |_ :: _,_ :: _,[],_,_,h,_,_=>by simp at h
def dI(r:Rp G H v (.obj (c+1) (e :: g)) F):∃(i:Nat)(a p:KF)(b:Bool)(f:Vv)(d:List V)(j:Vo)(o:Xq),c+1=i+1/\v=.ref a/\e=(0,.bl b)/\g=f.zip j/\F=a :: o.flatten ∧
  H a=Z (.ins (G.ct (i+1)).1 p ((f.map (G.ct (i+1)).2).zip d))/\f.length=d.length/\(b=M->G.me 0=Z (.ref a))/\RpL G H d j o:=by
 generalize n:T.obj (c+1) (e :: g)=z at r;cases r with
 |ins h l m q =>
  cases n;exact⟨_,_,_,_,_,_,_,_,rfl,rfl,rfl,rfl,rfl,h,l,m,q⟩
 |_=>cases n
def De(r:Rp G H v (.obj 0 [(0,.bl M),(m,t)]) F):∃a,v=.ref a/\G.me m=Z (.ref a)/\Rp G H (.ref a) t F:=by
 generalize b:T.obj 0 [(0,.bl M),(m,t)]=z at r;cases r with
 |mk h q =>
  cases b;exact⟨_,rfl,h,q⟩
 |_=>cases b
def qW{G:Gx}{c a:Nat}(h:∀c k m:Nat,(G.ct c).2 k=(G.ct c).2 m->k=m){e:Vv}{d:List V}{f:Vo}{u:V}{i:Nat}(n:e.length=d.length)(b:(e.zip f).findIdx? (λq=>q.1==a)=Z i)(o:e[i]?=Z a)(g:d[i]?=Z u):((e.map (G.ct c).2).zip d).lookup ((G.ct c).2 a)=Z u:=by
 induction e generalizing d f i with
 |nil=>simp at o
 |cons l v p =>
  cases d with
  |nil=>simp at n
  |cons t bs =>
   cases f with
   |nil=>simp at b
   |cons s f =>
    rw[Zi,ZV,Yh];rw[ZV,WE]at b;by_cases q:(l==a)=M
    ·rw[Zn q]at b;cases b;have:l=a:=by simpa using q
     subst this;simp at g;simp[g]
    ·rw[Zm q]at b;obtain⟨j,r,rfl⟩:=Zs.mp b;have:((G.ct c).2 a==(G.ct c).2 l)=B:=by
      rw[ZJ];intro z;exact q (by simpa using(h c _ _ z).symm)
     rw[this];exact p (by simpa using n) r (by simpa using o) (by simpa using g)
def D4{α:Type}{f:T->Option (T×α)}{y:α}(e:pm f (.un :: d) t=Z (a,y)):∃m x z,t=.obj 0 [(0,.bl M),(m,x)]/\pm f d x=Z (z,y)/\a=.obj 0 [(0,.bl M),(m,z)]:=by
 cases t with
 |obj c fs =>
  cases c with
  |succ c=>cases e
  |zero =>
   cases fs with
   |nil=>cases e
   |cons q fs =>
    obtain⟨n,v⟩:=q;cases n with
    |succ n=>cases e
    |zero =>
     cases v with
     |bl b =>
      cases b with
      |false=>cases e
      |true =>
       cases fs with
       |nil=>cases e
       |cons g fs =>
        obtain⟨m,x⟩:=g;cases fs with
        |cons _ _=>cases e
        |nil =>
         obtain⟨⟨z,h⟩,e1,e2⟩:=Zs.mp e;cases e2;exact⟨_,_,_,rfl,e1,rfl⟩
     |_=>cases e
 |_=>cases e
def mZ{G:Gx}{α:Type}{f:T->Option (T×α)}:∀(ks:List Ky){v:V}{t t':T}{F:W6}{y:α},(∀c k k':Nat,(G.ct c).2 k=(G.ct c).2 k'->k=k')->Rp G H v t F->F.Nodup->pm f ks t=Z (t',y) →
  ∃w x A C,Hz G H ks v w/\Rp G H w x A/\A.Nodup/\f x=Z (C,y)/\∀q o,Chg G H w A C q o->∃F',Chg G H v F t' q F':=by
 intro ks
 induction ks with
 |nil=>intro v t t' F y _ r nd e;exact⟨v,t,F,t',.nil v,r,nd,e,λq o g=>⟨o,g⟩⟩
 |cons ky ks ih =>
 intro v t t' F y inj r nd e;cases ky with
 |fld k =>
  cases t with
  |obj c Rl =>
   cases c with
   |zero=>cases e
   |succ c =>
   cases Rl with
   |nil=>cases e
   |cons q0 fs =>
   obtain⟨i,h1,e⟩:=Zz.mp e;obtain⟨p,h2,e⟩:=Zz.mp e;obtain⟨⟨z,y'⟩,e1,e2⟩:=Zs.mp e;cases e2;obtain⟨c',a,dx,b,ns,vs,U,Fs,ec,rfl,rfl,rfl,rfl,N,X,hb,d⟩:=dI r;cases ec;have Jz:ns.length=U.length:=X.trans d.len.1;obtain⟨L,D,g1,g2,g3,g4⟩:=jM (λn=>n==k) Jz h1;have ek:L=k:=by simpa using g3
   subst ek;have ep:p=(L,D):=by
    have:(ns.zip U)[i]?=Z (L,D):=by rw[Y0];exact⟨g1,g2⟩
    rw[this]at h2;exact(Zk h2).symm
   subst ep;obtain⟨u,Fi,J,E,u3⟩:=d.get i g2;obtain⟨w,x,A,C,S,R,Q,P,O⟩:=ih inj u3 (((Zd.mp nd).2).sublist (cN E)) e1;refine⟨w,x,A,C,.fld (c:=c) N (qW inj X h1 g1 J) S,R,Q,P,λq o g=>?_⟩;obtain⟨TM,h⟩:=O q o g;obtain⟨s1,s2,s3,s4,s5⟩:=oF N d nd J E h;refine⟨_,h.kept,s5,h.GF,?_,s3,s4⟩;rw[pI ns U i L z g1];exact .ins s1 X hb s2
  |_=>cases e
 |un =>
  obtain⟨m,x,z,rfl,e1,rfl⟩:=D4 e;obtain⟨a,rfl,hm,rx⟩:=De r;obtain⟨w,D,A,C,S,R,Q,P,O⟩:=ih inj rx nd e1;refine⟨w,D,A,C,.un S,R,Q,P,λq o g=>?_⟩;obtain⟨F',g'⟩:=O q o g;exact⟨F',g'.kept,g'.keep,g'.GF,.mk hm g'.rp,g'.nd,g'.sub⟩
 | «at» k =>
  cases t with
  |lst l =>
   cases k with
   |int i =>
    obtain⟨j,h1,e⟩:=Zz.mp e;obtain⟨D,h2,e⟩:=Zz.mp e;obtain⟨⟨z,y'⟩,e1,e2⟩:=Zs.mp e;cases e2;obtain⟨a,vs,Fs,rfl,rfl,N,d⟩:=r.lst_inv;obtain⟨u,Fi,J,E,u3⟩:=d.get j h2;obtain⟨w,x,A,C,S,R,Q,P,O⟩:=ih inj u3 (((Zd.mp nd).2).sublist (cN E)) e1;refine⟨w,x,A,C,.ix N (by rw[d.len.1];exact h1) J S,R,Q,P,λq o g=>?_⟩;obtain⟨TM,h⟩:=O q o g;obtain⟨s1,s2,s3,s4,s5⟩:=oF N d nd J E h;exact⟨_,h.kept,s5,h.GF,.lst s1 s2,s3,s4⟩
   |_=>cases e
  |dct kd l =>
   cases kd with
   |zero =>
    have hk:gK k=M/\((l.findIdx? λp=>eqT p.1 k).bind λi=>(l[i]?).bind λp=>(pm f ks p.2).map λz=>(T.dct 0 (l.set i (p.1,z.1)),z.2))=Z (t',y):=by
     cases k with
     |int i=>exact⟨rfl,e⟩
     |str s=>exact⟨rfl,e⟩
     |_=>cases e
    obtain⟨hk,e⟩:=hk;obtain⟨i,h1,e⟩:=Zz.mp e;obtain⟨p,h2,e⟩:=Zz.mp e;obtain⟨⟨z,y'⟩,e1,e2⟩:=Zs.mp e;cases e2;obtain⟨a,ns,vs,U,Fs,rfl,rfl,N,X,rfl,d⟩:=dD r;have Jz:(ns.map aQ).length=U.length:=by rw[Zx];exact X.trans d.len.1
    obtain⟨L,D,g1,g2,g3,g4⟩:=jM (λn=>eqT n k) Jz h1;have ep:p=(L,D):=by
     have:((ns.map aQ).zip U)[i]?=Z (L,D):=by rw[Y0];exact⟨g1,g2⟩
     rw[this]at h2;exact(Zk h2).symm
    subst ep;obtain⟨kk,Ll⟩:∃kk:Key,k=aQ kk:=by
     cases k with
     |int i=>exact⟨.inl i,rfl⟩
     |str s=>exact⟨.inr (sx s),by simp[aQ,sx]⟩
     |_=>cases hk
    subst Ll;obtain⟨u,Fi,J,E,u3⟩:=d.get i g2;obtain⟨w,x,A,C,S,R,Q,P,O⟩:=ih inj u3 (((Zd.mp nd).2).sublist (cN E)) e1;refine⟨w,x,A,C,.key N ?_ S,R,Q,P,λq o g=>?_⟩
    ·exact ug (by simpa using Jz) X h1 J
    ·obtain⟨TM,h⟩:=O q o g;obtain⟨s1,s2,s3,s4,s5⟩:=oF N d nd J E h;refine⟨_,h.kept,s5,h.GF,?_,s3,s4⟩;rw[pI (ns.map aQ) U i L z g1];exact .dct s1 X s2
   |succ kd=>cases e
  |_=>cases e
end
section
def Hz.same{H:Hp}(e:aJ H d)(p:Hz G H b v w):Hz G d b v w:=by
 induction p with
 |nil v=>exact .nil v
 |fld h l _ a=>exact .fld (e _ _ h) l a
 |ix h l m _ a=>exact .ix (e _ _ h) l m a
 |key h l _ a=>exact .key (e _ _ h) l a
 |un _ a=>exact .un a
theorem Hz.split:∀{ks:List Ky}{v:V},Hz G H (ks++[k]) v w->∃u,Hz G H ks v u/\Hz G H [k] u w
 |[],v,p=>⟨v,.nil v,p⟩
 |_ :: ks,_,.fld h l p=>let ⟨u,a,b⟩:=Hz.split (ks:=ks) p;⟨u,.fld h l a,b⟩
 |_ :: ks,_,.ix h l m p=>let ⟨u,a,b⟩:=Hz.split (ks:=ks) p;⟨u,.ix h l m a,b⟩
 |_ :: ks,_,.key h l p=>let ⟨u,a,b⟩:=Hz.split (ks:=ks) p;⟨u,.key h l a,b⟩
 |_ :: ks,_,.un p=>let ⟨u,a,b⟩:=Hz.split (ks:=ks) p;⟨u,.un a,b⟩
theorem gD:∀{way:List IJ}{f:List Ky},keys (way++[s]) U=Z f->∃g k,keys way U=Z g/\keys [s] U=Z [k]/\f=g++[k]
 |[],f,e=>by
  cases s with
  |fld k=>cases e;exact⟨[],.fld k,rfl,rfl,rfl⟩
  |un=>cases e;exact⟨[],.un,rfl,rfl,rfl⟩
  |ix c =>
   obtain⟨x,j,i⟩:=Zz.mp (show (c U).bind (λx=>(keys [] U).map (Ky.at x.2 :: ·))=Z f from e);cases i;exact⟨[],.at x.2,rfl,by simp[keys,j],rfl⟩
 |.fld k :: way,f,e=>by
  obtain⟨m,j,i⟩:=Zs.mp (show (keys (way++[s]) U).map (Ky.fld k :: ·)=Z f from e);obtain⟨g,l,a,b,c⟩:=gD j;exact⟨.fld k :: g,l,by simp[keys,a],b,by rw[← i,c];rfl⟩
 |.un :: way,f,e=>by
  obtain⟨m,j,i⟩:=Zs.mp (show (keys (way++[s]) U).map (Ky.un :: ·)=Z f from e);obtain⟨g,l,a,b,c⟩:=gD j;exact⟨.un :: g,l,by simp[keys,a],b,by rw[← i,c];rfl⟩
 |.ix c :: way,f,e=>by
  obtain⟨x,n,h⟩:=Zz.mp (show (c U).bind (λx=>(keys (way++[s]) U).map (Ky.at x.2 :: ·))=Z f from e);obtain⟨m,j,i⟩:=Zs.mp h;obtain⟨g,l,a,b,d⟩:=gD j;exact⟨.at x.2 :: g,l,by simp[keys,n,a],b,by rw[← i,d];rfl⟩
def OQ(G:Gx)(i:Nat)(a:List IJ):TE:=λJ H Q=>∃O U t b v w,SR G O U J H/\U[i]?=Z (Z (.ow t))/\J[i]?=Z (Z v)/\keys a U=Z b/\Hz G H b v w/\∀d,aJ H d->Q w d
def Jf(G:Gx)(X:Cx)(e:Expr)(i:Nat)(a:List IJ):Prop:=PE X e (OQ G i a)
def PE.JV(h:PE X e t)(w:∀J H Q,OQ G i a J H Q->t J H Q):Jf G X e i a:=λb s J H Q I q=>h b s J H Q I (w J H Q q)
variable{X:Cx}
def bJ(i:Nat)(j:{`q7,X.N[i]?=Z x})(f:HU X.env.scope x:=by exact .inl L)(h:{`q7,K3 x})(a:{`q7,K4 x}):Jf G X (.Name x pos) i [] :=
 PE.JV (eQ j f h a) λJ H Q g=>by
  obtain⟨O,U,t,d,v,w,s,p,o,n,m,l⟩:=g;cases (show Z ([]:List Ky)=Z d from n);cases m;exact⟨v,o,l H (aJ.refl _)⟩
structure G6(G:Gx)(K:X3)(k:Nat)(f:Str):Prop where
 nm:∀c,(G.ct (c+1)).2 k=f
 cl:∀c,Hs K (G.ct (c+1)).1
 no:∀c,aU K (G.ct (c+1)).1 f
def eU(k:Nat)(F:G6 G X.K k f)(h:Jf G X e i way)(n:{`q7,UF e f X.env (eval e X.env)=eval e X.env}):Jf G X (.Attribute e f pos) i (way++[.fld k]) :=
 PE.JV (yS h n) λJ H Q m=>by
  obtain⟨O,U,t,N,v,w,s,A,z,y,r,p⟩:=m;obtain⟨D,l,a,b,rfl⟩:=gD y;cases (show Z [Ky.fld k]=Z [l] from b);obtain⟨u,p1,j⟩:=r.split;refine⟨O,U,t,D,v,u,s,A,z,a,p1,λE d=>?_⟩;cases j with
  |@fld c _ a C fs L _ _ o g q =>
   cases q;rw[F.nm c]at g;exact⟨a,_,C,fs,w,rfl,d a _ o,F.cl c,F.no c,g,p E d⟩
def Bd(hr:pe F X.A)(h:Jf G X e i way)(hb:PV G X b c)(S:jQ b)(hK:X.K=G.K):Jf G X (.Subscript e b pos) i (way++[.ix c]) :=
 PE.JV (uv (JI.or pR (pj (jd hr))) h hb S) λJ H Q hq=>by
  obtain⟨O,U,t,ks,v,w,s,h1,h2,h3,h4,h5⟩:=hq;obtain⟨JO,L,a,b',rfl⟩:=gD h3;obtain⟨⟨E,x⟩,ec,e2⟩:=Zz.mp (show (c U).bind (λx=>(keys [] U).map (Ky.at x.2 :: ·))=Z [L] from b');cases e2;obtain⟨u,p1,D⟩:=h4.split;refine⟨O,U,t,JO,v,u,s,h1,h2,a,p1,λH1 d=>⟨O,U,E,x,s.same d,ec,λy H2 F2 o r2 f2=>?_⟩⟩;have C:=(D.same d).same o;have q:=h5 H2 (d.trans o);cases C with
  |@ix a p N j r _ _ l g R f =>
   cases f;refine .inl (.inl ⟨a,p,N,w,rfl,r2.int_inv,Gw.of l,mV g R,q⟩)
  |@key a bt m r _ _ l g f =>
   cases f;refine .inr ⟨a,w,rfl,?_,q⟩;have P:y=kV m:=by
    cases m with
    |inl n=>exact r2.int_inv
    |inr z =>
     have:=r2.str_inv.1;rw[this];simp[kV,sx]
   rw[P,← g];exact fB.k l
@[simp] def g9(i:Nat)(a:List IJ)(f:T->Vq->Option (T×Val))(h:GG)(U:VS.Env):Option (Val×VS.Env):=match U[i]? with
 |some (some (.ow t))=>(keys a U).bind λg=>(h U).bind λd=>(pm (λx=>f x d) g t).map λz=>(z.2,U.set i (Z (.ow z.1)))
 |_=>Y
noncomputable def jq(G:Gx):Prop:=∀c k a:Nat,(G.ct c).2 k=(G.ct c).2 a->k=a
def xI{pos apos:Pos}(Jq:jq G)(pa:PlainAttrs p)(d:Slot p a m)(KD:typeOf (.builtin m)=pure (.type "method_descriptor"))(hm:OG X m r)(ok:xq G r f)(hT:∀H v t F l z,Rp G H v t F->f t l=Z z->Ls G.K p v H)(ho:Jf G X o i way)(ha:GY G X (e :: es) cs)(hK:X.K=G.K)(Gr:UF o a X.env (eval o X.env)=eval o X.env)(GI:((backTo cg (Pi (e :: es) X.env)).all (λx=>!x.1)&&(backToKw cg (SB [] X.env)).all (λx=>x.1.isSome)
   && decide ((e :: es).length+([]:List Keyword).length+(if ([]:List Keyword).isEmpty then 0 else 1)<30))=M)(Gd:(apos.endLine==cg.line)=M)(hs:K1 e es X)(Gm:K2 cg es X)(JA:swapsWith (.Call (.Attribute o a apos) (e :: es) [] cg) Y pos.line X.env=pure B) :
  PSV G X (.Expr (.Call (.Attribute o a apos) (e :: es) [] cg) pos) (sX (g9 i way f cs)) :=
 PS.weak (iV (nX pa d KD hm ho ha Gr GI Gd hs Gm) JA) λD J H hq=>by
  obtain⟨O,U,out,s,e,k⟩:=hq;refine L2.jL λP_ k_=>?_;unfold sX g9 at e;obtain⟨⟨x',U'⟩,e1,e2⟩:=Zs.mp e;split at e1
  ·rename_i t h;obtain⟨E,ek,e3⟩:=Zz.mp e1;obtain⟨l,el,e4⟩:=Zz.mp e3;obtain⟨⟨t',x2⟩,e5,e6⟩:=Zs.mp e4;cases e6;cases e2;obtain⟨v,L,h2⟩:=s.rp _ _ h;obtain⟨w,x,F1,R,w1,A,w3,y,S⟩:=mZ E Jq h2 (s.nd i t h) e5;refine k_ ?_;refine⟨O,U,t,E,v,w,s,h,L,ek,w1,λH0 j=>⟨by rw[hK];exact hT H0 w x _ l _ (A.same j) y,O,U,l,s.same j,el,λvs H' Fs q1 q2 C=>?_⟩⟩;refine ok O U H H' w x R F1 l vs Fs x2 _ A w3 ⟨j.trans q1,q2,⟨λn v' q a1 a2=>(C.each n v' q a1 a2).back j,C.nd⟩⟩ y λu N q g=>?_;obtain⟨F2,g2⟩:=S N q g;obtain⟨Q,P⟩:=s.mut h L g2;exact k _ J N Q P
  ·cases e1
end
section
variable{X:Cx}
def jv(k v:Val):T->Option (T×Unit)
 |.lst l=>match k.2 with
  |.int n=>(fit v).bind λt=>(Hw l.length n).map λj=>(.lst (l.set j t),())
  |_=>Y
 |.dct 0 l=>if gK k.2/\FZ v.2/\l.length<dq then Z (.dct 0 (dput l k.2 v.2),()) else Y
 |_=>Y
def eE(i:Nat)(a:List IJ)(k e:Ex)(U:VS.Env):Option Out:=(e U).bind λv=>match U[i]? with
 |some (some (.ow t))=>(keys a U).bind λf=>(k U).bind λd=>(pm (jv d v) f t).map λz=>.nx (U.set i (Z (.ow z.1)))
 |_=>Y
theorem RpL.putAt:∀{d:List V}{f:Vo}{g:Xq}(j:Nat){u:V}{x:T}{F:W6},RpL G H d f g->Rp G H u x F->RpL G H (d.set j u) (f.set j x) (g.set j F)
 |_,_,_,_,_,_,_,.nil,_=>.nil
 |_,_,_,0,_,_,_,.cons r q,a=>.cons a q
 |_,_,_,j+1,_,_,_,.cons r q,a=>.cons r (RpL.putAt j q a)
theorem uw{kk:Key}(n:Rp G H l t []):∀{a:List Key}{h:List V}{ts:Vo}{Fs:Xq},a.length=h.length->RpL G H h ts Fs →
  ∃d g f,(a.zip h).map (λm=>if m.1=kk then (m.1,l) else m)=a.zip d/\a.length=d.length/\((a.map aQ).zip ts).map (λp=>if eqT p.1 (aQ kk) then (p.1,t) else p)=(a.map aQ).zip g/\RpL G H d g f/\f.flatten.Sublist Fs.flatten
 |[],[],_,_,_,.nil=>⟨[],[],[],rfl,rfl,rfl,.nil,XC _⟩
 |k :: a,v :: h,_,_,D,.cons (t:=C) (F:=F) (ts:=ts) (Fs:=Fs) r q=>by
  obtain⟨d,g,f,A,y,w,u,s⟩:=uw n (by simpa using D) q;by_cases j:k=kk
  ·have e:eqT (aQ k) (aQ kk)=M:=(jS kk k).mpr j;refine⟨l :: d,t :: g,[] :: f,?_,by simp[y],?_,.cons n u,?_⟩
   ·rw[ZV,Zi,A,ZV];simp[j]
   ·rw[Zi,ZV,Zi,w,ZV];simp[e]
   ·rw[ZI,ZI];exact s.trans (YA _ _)
  ·have e:¬eqT (aQ k) (aQ kk)=M:=λz=>j ((jS kk k).mp z);refine⟨v :: d,C :: g,F :: f,?_,by simp[y],?_,.cons r u,?_⟩
   ·rw[ZV,Zi,A,ZV];simp[j]
   ·rw[Zi,ZV,Zi,w,ZV];simp[e]
   ·rw[ZI,ZI];exact List.Sublist.append (XC _) s
theorem qN{kk:Key}:∀{a:List Key}{d:List V}{f:Vo},a.length=d.length->a.length=f.length->((a.zip d).any λg=>decide (g.1=kk))=(((a.map aQ).zip f).any λp=>eqT p.1 (aQ kk))
 |[],_,_,_,_=>by simp
 |k :: a,v :: d,t :: f,l,j=>by
  rw[Zi,ZV,ZV,YG,YG,qN (by simpa using l) (by simpa using j)];have:decide (k=kk)=eqT (aQ k) (aQ kk):=by rw[XJ,decide_eq_true_eq];exact(jS kk k).symm
  rw[this]
 |_ :: _,[],_,h,_=>by simp at h
 |_ :: _,_ :: _,[],_,h=>by simp at h
def pf{kk:Key}(u:Rp G H q t []){a:List Key}{g:List V}(d:a.length=g.length)(l:RpL G H g j s) :
  ∃(r:List Key)(f:List V)(n:Vo)(m:Xq),putK (a.zip g) kk q=r.zip f/\r.length=f.length/\dput ((a.map aQ).zip j) (aQ kk) t=(r.map aQ).zip n/\RpL G H f n m/\m.flatten.Sublist s.flatten:=by
 have an:=qN (kk:=kk) d (d.trans l.len.1);unfold putK dput;rw[an];by_cases h:(((a.map aQ).zip j).any λp=>eqT p.1 (aQ kk))=M
 ·rw[Zn h,Zn h];obtain⟨f,n,m,A,z,y,w,v⟩:=uw (kk:=kk) u d l;exact⟨a,f,n,m,A,z,y,w,v⟩
 ·rw[Zm h,Zm h];refine⟨a++[kk],g++[q],j++[t],s++[[]],?_,by simp[d],?_,l.append (.cons u .nil),by simp⟩
  ·rw[List.zip_append d];rfl
  ·rw[ZF,List.zip_append (by rw[Zx];exact d.trans l.len.1)];rfl
def Be:zB:=λo i v H Q=>Bc o i v H Q\/∃a d,o=.ref a/\rP H a i v d/\Q d
def v7(n:X.A.units+1<cLine):Cp X Be:=by
 intro d s J H o i v m iv u Q I j l f h;rcases h with h | ⟨a,r,rfl,g,q⟩
 ·exact set_list d s J H o i v m iv u Q I j l f h
 ·cases j;exact vw n I g l f λt p=>⟨r,p,q⟩
def jZ{pos:Pos}(Jq:jq G)(hr:pe kr X.A)(ho:Jf G X o i way)(hk:PV G X b ck)(he:PV G X e ce)(ha:∀v,assign (.Subscript o b pos') X.env v=(do
   let ov ← holding [v] (eval o X.env)
   let iv ← holding [v,ov] (eval b X.env)
   standAt pos'
   holding [v,ov,iv] (setItem ov iv v)
   release [v,ov,iv] []):=by exact λ_=>rfl)(hs:{`q7,swapsWithSole [.Subscript o b pos'] e pos.line X.env=pure B})(hw:{`q7,swappedStores [.Subscript o b pos'] e X.env=pure Y})(P:{`q7,(assignEach [.Subscript o b pos'] X.env).map (·.2)=[assign (.Subscript o b pos') X.env]}):PSV G X (.Assign [.Subscript o b pos'] e pos) (eE i way ck ce) :=
 PS.weak (oR he (rY ho hk (v7 (jd hr)) ha) hs hw P) λD J H hq=>by
  obtain⟨O,U,out,s,e,k⟩:=hq;refine L2.jL λP_ k_=>?_;unfold eE at e;obtain⟨⟨mv,m⟩,ev,e⟩:=Zz.mp e;split at e
  ·rename_i t ht;obtain⟨ks,ek,e⟩:=Zz.mp e;obtain⟨⟨mk,q⟩,Ll,e⟩:=Zz.mp e;obtain⟨⟨t',y'⟩,e5,e6⟩:=Zs.mp e;cases e6;obtain⟨v,g1,g2⟩:=s.rp _ _ ht;obtain⟨w,x,F1,x3,w1,w2,w3,N,w5⟩:=mZ ks Jq g2 (s.nd i t ht) e5;refine k_ ?_;refine⟨O,U,mv,m,s,ev,λxv H1 Fv Hh rv fv=>?_⟩;refine⟨O,U,t,ks,v,w,s.same Hh,ht,g1,ek,w1.same Hh,λH2 GS=>⟨O,U,mk,q,(s.same Hh).same GS,Ll,λkv f Fk HQ rk fk=>?_⟩⟩;have y:aJ H f:=(Hh.trans GS).trans HQ;have Kz:Rp G f xv m Fv:=(rv.same GS).same HQ;have fin:∀R L,Chg G H w F1 x3 R L->D.nx J R:=λR L g=>by
    obtain⟨F2,LU⟩:=w5 R L g;obtain⟨z1,z2⟩:=s.mut ht g1 LU;exact k _ J R z1 z2
   refine L2.jL λP_ k_=>?_;cases x with
   |lst l =>
    cases q with
    |int n =>
     obtain⟨tt,et,e7⟩:=Zz.mp (show ((fit (mv,m)).bind λt=>(Hw l.length n).map λj=>(T.lst (l.set j t),()))=Z (x3,y') from N);obtain⟨j,ej,e8⟩:=Zs.mp e7;cases e8;have em:=lu et;cases em;obtain⟨a,p,Fs,rfl,rfl,S,C⟩:=w2.lst_inv;have Q:f a=Z (.lst p):=y a _ S;have nd:=Zd.mp w3;have na:a∉Fv:=λz=>by rw[fv.2 a z]at S;cases S
     have E:Gk (f a):=by rw[Q];exact True.intro
     have off:∀d∈Fs.flatten,d∉Fv:=λd hb hv=>Gk.p0 (C.GF d hb) (fv.2 d hv);refine k_ ?_;refine .inl ⟨a,p,n,j,rfl,rk.int_inv,Q,by rw[← sI,C.len.1];exact ej,fin _ (a :: (Fs.set j Fv).flatten) ?_⟩;have keep:∀{u:V}{x:T}{F:W6},Rp G f u x F->a∉F->Rp G (upd f a (.lst (p.set j xv))) u x F:=λr hn=>r.keep (Kept.upd (.inl E)) λd hb o' JC=>by rw[aE (λz=>hn (by rw[← z];exact hb))];exact JC
     refine Chg.upd y Zu E (.lst ay ((((C.same y).off E nd.1)).putAt j (keep Kz na))) ?_ ?_
     ·rw[Zd];refine⟨λh=>?_,dv nd.2 fv.1 λi' L _ hi d hb=>off d (cY hi hb)⟩;rcases cf h with z | ⟨i',L,_,P,h2⟩
      ·exact na z
      ·exact nd.1 (cY P h2)
     ·intro d hb;rcases Zj.mp hb with rfl | hb
      ·exact .inl Zu
      ·rcases cf hb with z | ⟨i',L,_,P,h2⟩
       ·exact .inr (fv.2 d z)
       ·exact .inl (Zt _ (cY P h2))
    |_=>cases N
   |dct kd l =>
    cases kd with
    |zero =>
     have hc:(gK q=M/\FZ m=M/\l.length<dq)/\x3=.dct 0 (dput l q m):=by
      have L3:(if gK q/\FZ m/\l.length<dq then Z (T.dct 0 (dput l q m),()) else Y)=Z (x3,y'):=N;split at L3
      ·rename_i hc;cases L3;exact⟨hc,rfl⟩
      ·cases L3
     obtain⟨⟨c1,c2,c3⟩,rfl⟩:=hc;have eF:=Kz.FZ c2;subst eF;obtain⟨a,ns,p,ts,Fs,rfl,rfl,S,hl,rfl,C⟩:=dD w2;obtain⟨kk,rfl,Ku⟩:=cP rk c1;subst Ku;have Q:f a=Z (.dK (ns.zip p)):=y a _ S;have E:Gk (f a):=by rw[Q];exact True.intro
     have nd:=Zd.mp w3;obtain⟨Mg,HN,HC,Hr,q1,q2,q3,q4,q5⟩:=pf (kk:=kk) Kz hl (C.same y);have ln:(ns.zip p).length<sizeLine:=by
      have:((ns.map aQ).zip ts).length<16777216:=c3;rw[Yo,Zx]at this;rw[Yo];have:=C.len.1;have:(KB:Nat)=16777216:=rfl;lia
     refine k_ ?_;refine .inr ⟨a,_,rfl,rP.k Q ln,fin _ (a :: Hr.flatten) ?_⟩;rw[q1,q3];refine Chg.upd y Zu E (.dct ay q2 (q4.off E λz=>nd.1 (q5.subset z))) ?_ ?_
     ·exact Zd.mpr ⟨λz=>nd.1 (q5.subset z),nd.2.sublist q5⟩
     ·intro d hb;rcases Zj.mp hb with rfl | hb
      ·exact .inl Zu
      ·exact .inl (Zt _ (q5.subset hb))
    |succ n=>cases N
   |_=>cases N
  ·cases e
end
def CF{K:X3}{b:Vu}(e:yj H)(d:Gw K H a (b.map V.int)):kJ K H a b:=by
 rcases d with h | h
 ·rcases h with h | h
  ·rcases e a with z | ⟨o,f,z⟩
   ·rw[z]at h;cases h
   ·rw[z]at h;cases h
  ·exact .inl h
 ·exact .inr h
def Cg{G:Gx}(d:g [.scr b]=Z (.fr,.bl M))(f:yj H)(e:Gw G.K H a (b.map V.int)):Iq G g [.ref a] H (λv _=>v=.bl M) E :=
 ⟨[.scr b],[[]],.fr,.bl M,.cons (.scr (CF f e)) .nil,d,λv h F _ r _=>r.Hb⟩
noncomputable def Ob(K:X3):Gx:=⟨K,λ_=>(0,λk=>⟨#[k]⟩),λ_=>Y⟩
def wk{l:PySem.W.OpenLaw}{d:DefRec}{K:Params->X3}{g:Fn}{x:Str}{k:Nat}(m:l.most=Z 63)(v:d.params.defaults=[])(j:pe k callerA)(o:∀ns:Vu,g [.scr ns]=Z (.fr,.bl M))(F:∀(w:SZ)(mg:Wu)(e:KF)(h:SL),(K w.params).In h->h.Ns mainGlobals mg->mg d.name=Z (.ref e) →
   ∃fd:Pv,(∀(s:GM)(u:KM),BindsTo s fd ⟨[u],[]⟩ [(x,u)])/\∀base:SL,(K w.params).In base->base.Ns mainGlobals mg->FnOk l.prog w (K w.params) mg base GX k e fd [x] (Iq (Ob (K w.params)) g)) :
  PySem.W.WalkO q b t (λw h=>(K w.params).In h) l.row.toRowW d [] (λf i=>PySem.call f i) :=
 L2.iY (n:=63) (k:=k) (x:=x) (CX:=λ_=>GX) (sp:=λw=>Iq (Ob (K w.params)) g) m (by decide) v j (λ_ _ h=>h) F (λw H a ns _ r p=>Cg (G:=Ob (K w.params)) (o ns) r p) λ_ _ _ _ _ z=>z
end VS
end
section
namespace L2
open PySem PySem.Spec PyProof.Rows
section
variable{X:Cx}
def rQ(z:X.calm=M):cB X (.type "list") (λf H Q=>∃x:Str,f=[.str x]/\x.cps.size<=KB/\∀l,H l=Y->Q (.ref l) (upd H l (.lst (x.cps.toList.map λc=>V.str ⟨#[c]⟩)))):=by
 intro j s J H f C Q I p h;obtain⟨x,rfl,m,q⟩:=h;obtain⟨u,rfl,t,rfl⟩:=vals1 p;refine call_list_str (I.ok.hd z) x t (λA D acc c kp g o=>?_) m;have y:aO (x.cps.toList.map λc=>V.str ⟨#[c]⟩) acc.toList:=by
  have key:∀(b:Vv)(a:Vx),b.length=a.length->(∀(i:Nat)(v:KM),a[i]?=Z v->∃c u,b[i]?=Z c/\v=.str ⟨#[c]⟩ u)->aO (b.map λc=>V.str ⟨#[c]⟩) a:=by
   intro b
   induction b with
   |nil =>
    intro a e _;cases a with
    |nil=>exact .nil
    |cons v a=>simp at e
   |cons c b r =>
    intro a e hg;cases a with
    |nil=>simp at e
    |cons v a =>
     obtain⟨d,u,e1,e2⟩:=hg 0 v L;cases e1;exact .cons ⟨u,e2⟩ (r a (by simpa using e) λi w hw=>by simpa using hg (i+1) w (by simpa using hw))
  refine key _ _ (by rw[ZC,ZC,o.1]) λi v n=>?_;rw[Z5]at n;obtain⟨d,u,e1,e2⟩:=o.2 i v n;exact⟨d,u,by rw[Z5];exact e1,e2⟩
 refine⟨.ref s.heap.objs.size,_,I.laid kp (Zl _) (show bF X.prog X.w _ A _ (.lst (x.cps.toList.map λc=>V.str ⟨#[c]⟩)) from⟨by rw[Zx,ZC];exact m,acc.toList,c,y,g⟩),rfl,q _ (I.xt.fresh (Zl _))⟩
end
end L2
namespace VS
open PySem PySem.Spec PyProof.Rows L2
section
variable{X:Cx}
def ju:Vq->Vp
 |[(m,.lst l)]=>Ir m l
 |[(m,.tup l)]=>Ir m l
 |[(_,.str s)]=>Ir .fr (s.map λc=>.str [c])
 |_=>Y
def xx:dW G (λg H Q=>Bp G.K g H Q\/∃x:Str,g=[.str x]/\x.cps.size<=KB/\∀l,H l=Y->Q (.ref l) (upd H l (.lst (x.cps.toList.map λc=>V.str ⟨#[c]⟩)))) ju:=by
 intro O U j H l d f m t Q A e k;unfold ju at e;split at e
 ·exact .inl (uB O U j H _ d f m t Q A e k)
 ·exact .inl (uB O U j H _ d f m t Q A e k)
 ·rename_i D x;obtain⟨v,F,rfl,rfl,i⟩:=(show RpL G H d [.str x] f from A.rp).one;have h:=i.str_inv.2;refine .inr ⟨sx x,by rw[i.str_inv.1],?_,λq u=>?_⟩
  ·have:=h.1;simp only[sx,Zb];exact this
  ·have C:(sx x).cps.toList.map (λc=>V.str ⟨#[c]⟩)=(x.map λc=>[c]).map λs=>V.str (sx s):=by
    simp[sx]
   have z:(x.map λc=>T.str [c])=(x.map λc=>[c]).map T.str:=by simp
   rw[C];rw[z]at e;have n:=sZ (G:=G) (H:=H) (ss:=x.map λc=>[c]) λs r=>by
    obtain⟨c,w,rfl⟩:=ZU.mp r;exact⟨by show 1<=dq;decide,λy o=>by rw[Zf.mp o];exact h.2 c w⟩
   refine i4 A.same e n ?_ k q u;rw[qz];exact Fp.nil
 ·cases e
def o5(d:X.mg "list" = Y)(h:GY G X [e] cs)(f:{`q2,Gl X "list"})(i:{`q2,X.K=G.K})(g:{`q2,X.calm=M})(he:{`q2,K1 e [] X}):PV G X (.Call (.Name "list" p) [e] [] pos) (eN ju cs) :=
 iW (oN.or (rQ g)) (i ▸ xx) f d AW h (he:=he) (hpl:=rfl)
theorem RpL.erase{H:Hp}:∀{d:List V}{f:Vo}{g:Xq}(n:Nat),RpL G H d f g->RpL G H (d.eraseIdx n) (f.eraseIdx n) (g.eraseIdx n)
 |_,_,_,_,.nil=>by simpa using RpL.nil
 |_,_,_,0,.cons r q=>q
 |_,_,_,n+1,.cons r q=>.cons r (RpL.erase n q)
theorem mG:∀(l:Vo)(k:Nat),cL l=M->cL (l.eraseIdx k)=M
 |[],k,h=>h
 |t :: l,0,h=>(Ze.mp h).2
 |t :: l,k+1,h=>by
  have h:=Ze.mp h;exact Ze.mpr ⟨h.1,mG l k h.2⟩
end
end VS
end
section
namespace ST
open PySem PySem.Spec PyProof.Rows
noncomputable abbrev dO(a:Array DictEntry)(b:Nat):Obj:={ cls:=.type "dict",data:=.dict a b }
noncomputable abbrev kO(d:KF)(i n a:Nat):Obj:={ cls:=.type "dict_keyiterator",data:=.fields #[.ref d,.int i 0,.int n 0,.int a 0] }
def wN{s:GM}(f:(d==sysModules)=B)(a:s.heap.get? d=Z (dO b e))(q:Q (.ref s.heap.objs.size) { s with heap:=s.heap.push (kO d 0 b.size e) }) :
  On (IR prog w) A (pyIter (.ref d)) Q E s:=by
 have ty:s.TypeIs (.ref d) "dict" := ⟨_,a,rfl⟩
 refine Wb ty F.slot_dict_iter (YO F.slot_dict_iter ty F.entry_dict_iter (show On _ _ (Builtin.«dict.__iter__» _) _ _ _ from ?_) (F.args_dict_iter_1 _));unfold Builtin.«dict.__iter__» Builtin.Dict.dictSlotNone Builtin.Dict.showsAll;refine Zy (Zy (wpAny_notOrdered_dict ty (show On _ _ (pure (Value.ref d)) _ _ s from Zr (Zy (m:=Builtin.Dict.addrOf (.ref d)) (Zr ?_)))));rw[Zm (by rw[f];exact ZY)];exact Zy (Zr (Zy (wpAny_dictEntries a L (Zy (wpAny_dictEpoch a L (Zy (Yd (Zr ⟨_,rfl, "dict_keyiterator",_,⟨_,Zh _ L,rfl⟩,XW.lookup,q⟩))))))))
def qR{A:Re}{s:GM}{h:Array DictEntry}(t:A.handled=Y)(l:s.heap.get? I=Z (kO d i h.size m))(n:s.heap.get? d=Z (dO h m))(y:∀e,h[i]?=Z e->∀a,Heap.SameBut I s.heap a->a.get? I=Z (kO d (i+1) h.size m)->Q (Z e.key) { s with heap:=a })(u:h[i]?=Y->∀a,(∀b o,b≠I->s.heap.get? b=Z o->a.get? b=Z o)->Q Y { s with heap:=a }):On (IR prog w) A (pyNext (.ref I)) Q E s:=by
 have ty:s.TypeIs (.ref I) "dict_keyiterator" := ⟨_,l,rfl⟩
 unfold pyNext;refine Zy (wpAny_attempt (Xj (name:=Str.ofString "__next__") ty XW (YO XW ty F.entry_dict_keyiterator_next (Y3
  (Q:=λf j=>∃v,f=.done (.ret v)/\Q (Z v) j) (E:=λe j=>∃x,e=.ref x/\(∃o,j.heap.get? x=Z o/\o.cls=.type "StopIteration")/\Q Y j) ?_ (λf j ⟨v,e,q⟩=>⟨v,e,Zr q⟩) λe j ⟨x,e1,⟨o,g,c⟩,q⟩=>?_) (F.args_dict_keyiterator_next_1 _))))
 ·refine Zy (Zr (Zy (Zy (Zy (Ws ty (Zr (Zy (wpAny_fieldsOf l L ?_))))))));have own:Builtin.Dict_items.ownsTuple "dict_keyiterator" = B:=rfl;simp only[own,Xm,↓reduceIte];refine(show On _ _ (if (Value.ref d==Value.none)=M then _ else _) _ _ s from ?_);rw[Zm (λe:(Value.ref d==Value.none)=true=>ZY e)];refine Zy (Zr (Zy (wpAny_dictEntries n L ?_)));rw[Zm (by simp)];refine Zy (Zr (Zy (wpAny_dictEpoch n L ?_)));rw[Zm (by simp)];refine Zr ?_;simp only[show ¬((i:Int)<0) from by lia,↓reduceIte,YX];cases he:h[i]? with
  |some e =>
   dsimp only;have p:(s.heap.update I (Obj.mapFields (·.setIfInBounds 1 (rawInt ((i:Int)+1))))).get? I=Z (kO d (i+1) h.size m):=Yr _ l L;refine Zy (Zy (Ws ty (Zr (Zy (wpAny_isOneOf_keyiter ty ?_)))));refine(show On _ _ (setField (.ref I) 1 (rawInt ((i:Int)+1))>>=_) _ _ s from Zy (Xk l L (by show 1<4;decide) (Zy (Yp ?_))));refine Zy (wpAny_isOneOf_keyiter (s:={ s with heap:=s.heap.update I (Obj.mapFields (·.setIfInBounds 1 (rawInt ((i:Int)+1)))) }) ⟨_,p,rfl⟩ ?_);refine(show On _ _ (pure e.key) _ _ _ from Zr (Zr ⟨_,rfl,y e he _ (Xl ..) p⟩))
  |none =>
   dsimp only;refine Zy (Zy (Ws ty (Zr ?_)));refine(show On _ _ (setField (.ref I) 0 .none>>=_) _ _ s from Zy (Xk l L (by show 0<4;decide) (wO t λa x kp r=>⟨x,rfl,r,u he a λb o hb e=>kp b o ?_⟩)));rw[YW _ _ (YR hb)];exact e
 ·subst e1;exact Zy (Ww (T := "StopIteration") (b:=M) ⟨o,g,c⟩ WD (Zr q))
end ST
end
section
namespace VS
open PySem PySem.Spec PyProof.Rows L2
section
variable{X:Cx}
def Rp.IA{ts:Vo}(r:Rp G H v (.tup ts) F):∃b vs Fs,v=.ref b/\H b=Z (.tup vs)/\RpL G H vs ts Fs:=by
 cases r with
 |tup h q=>exact⟨_,_,_,rfl,h,q⟩
end
end VS
end
section
namespace L2
open PySem PySem.Spec PyProof.Rows
section
variable{X:Cx}
def vQ{o:Obj}(h:o.ExactDict)(e:o.data=.dict g i):o=ST.dO g i:=by
 obtain⟨c,d,l,j⟩:=o;obtain⟨f,b,a⟩:=h;simp only at f b a e;subst f b a e;rfl
end
end L2
end
section
namespace VS
open PySem PySem.Spec PyProof.Rows L2 TS
noncomputable def lL(a b:Tx):Prop:=a.length<b.length\/a.length=b.length/\a<b
end VS
end
section
namespace VS
open PySem PySem.Spec PyProof.Rows L2
section
variable{X:Cx}
def mL{b:Expr}(s:PV G X a i)(o:PV G X b f)(n:PV G X c d)(l:lastMarks [.LtE,.Lt] [b,c]=B):Iw G X (.Compare a [.LtE,.Lt] [b,c] pos) (ki oLe oLt i f d) :=
 PT.weak (wu BR pN s o n l) λJ H Q h=>pV h (λU m r e=>by
  unfold ki at e;obtain⟨x,A,e⟩:=Zz.mp e;obtain⟨y,w,e⟩:=Zz.mp e;obtain⟨⟨t,z⟩,u,e⟩:=Zz.mp e;cases z with
  |bl q =>
   cases q with
   |false=>cases e;exact⟨_,rfl⟩
   |true =>
    obtain⟨j,v,e⟩:=Zz.mp (show (d U).bind (λz=>oLt y z)=Z (m,r) from e);exact iF y j m r e
  |_=>cases e) λQ h=>xo EG um h
def Da{pos:Pos}(h:PV G X e a)(i:swapsWith e Y pos.line X.env=pure B):PSV G X (.Expr e pos) (sX (xP a)) :=
 PS.weak (iV h i) λD J H d=>by
  obtain⟨O,U,out,s,e,k⟩:=d;unfold sX xP at e;obtain⟨⟨v,l⟩,e1,e2⟩:=Zs.mp e;obtain⟨⟨m,t⟩,e3,f⟩:=Zs.mp e1;cases f;cases e2;exact⟨O,U,m,t,s,e3,λv j F e1 r1 f1=>k O J j (s.same e1) (GU.same e1)⟩
end
section
variable{X:Cx}
def wa{j pos'}(g:PV G X a ca):Iw G X (.Compare a [.Is] [.Constant .none j pos'] pos) (uO ca) :=
 PT.weak (vO (CY g)) λJ H Q h=>Bx h (λU m r e=>by
  unfold uO at e;obtain⟨x,_,e⟩:=Zz.mp e;cases e;exact⟨_,rfl⟩) λQ f=>by
   obtain⟨O,U,m,r,s,e,q⟩:=f;unfold uO at e;obtain⟨⟨n,x⟩,i,e⟩:=Zz.mp e;cases e;refine⟨O,U,n,x,s,i,λv d F e1 r1 f1=>?_⟩;show Q (.bl (decide (v=.non))) d;rw[tQ r1];exact q _ d _ e1 (.bl _) Fp.nil
def la{j pos'}(g:PV G X a ca):Iw G X (.Compare a [.IsNot] [.Constant .none j pos'] pos) (fG ca) :=
 PT.weak (vO (zR g)) λJ H Q h=>Bx h (λU m r e=>by
  unfold fG at e;obtain⟨x,_,e⟩:=Zz.mp e;cases e;exact⟨_,rfl⟩) λQ f=>by
   obtain⟨O,U,m,r,s,e,q⟩:=f;unfold fG at e;obtain⟨⟨n,x⟩,i,e⟩:=Zz.mp e;cases e;refine⟨O,U,n,x,s,i,λv d F e1 r1 f1=>?_⟩;show Q (.bl (!decide (v=.non))) d;rw[tQ r1];exact q _ d _ e1 (.bl _) Fp.nil
def mh(i:Nat)(k e:Ex)(U:VS.Env):Option Out:=(e U).bind λv=>match U[i]? with
 |some (some (.ow (.dct 0 l)))=>(k U).bind λd=>if gK d.2/\FZ v.2/\l.length<dq then Z (.nx (U.set i (Z (.ow (.dct 0 (dput l d.2 v.2)))))) else Y
 |_=>Y
def xU{pos:Pos}(i:Nat)(hr:pe kr X.A)(hk:PV G X b ck)(he:PV G X e ce)(hN:X.N[i]?=Z x)(hv:HU X.env.scope x)(hd:K3 x)(p:K4 x)(ha:∀v,assign (.Subscript (.Name x p1) b pos') X.env v=(do
   let h ← holding [v] (eval (.Name x p1) X.env)
   let iv ← holding [v,h] (eval b X.env)
   standAt pos'
   holding [v,h,iv] (setItem h iv v)
   release [v,h,iv] []))(hs:swapsWithSole [.Subscript (.Name x p1) b pos'] e pos.line X.env=pure B)(hw:swappedStores [.Subscript (.Name x p1) b pos'] e X.env=pure Y)(h1:(assignEach [.Subscript (.Name x p1) b pos'] X.env).map (·.2)=[assign (.Subscript (.Name x p1) b pos') X.env]):PSV G X (.Assign [.Subscript (.Name x p1) b pos'] e pos) (mh i ck ce) :=
 PS.weak (oR he (rY (eQ hN hv hd p) hk (v7 (jd hr)) ha) hs hw h1) λD J H hq=>by
  obtain⟨O,U,out,s,e,k⟩:=hq;unfold mh at e;obtain⟨⟨mv,m⟩,ev,e⟩:=Zz.mp e;split at e
  ·rename_i l o;obtain⟨⟨mk,tk⟩,Ll,e⟩:=Zz.mp e;split at e
   ·rename_i hc;obtain⟨c1,c2,c3⟩:=hc;cases e;obtain⟨w,y,S⟩:=s.rp _ _ o;have q:=s.nd i _ o;refine⟨O,U,mv,m,s,ev,λxv H1 Fv L rv fv=>⟨w,y,O,U,mk,tk,s.same L,Ll,λkv d Fk P rk fk=>?_⟩⟩;have n:aJ H d:=L.trans P;have E:Rp G d xv m Fv:=rv.same P;have eF:=E.FZ c2;subst eF;obtain⟨a,ns,j,r,Fs,rfl,C,GE,hl,rfl,t⟩:=dD S;rw[C]at q;obtain⟨kk,rfl,Ku⟩:=cP rk c1;subst Ku;have F:d a=Z (.dK (ns.zip j)):=n a _ GE;have u:Gk (d a):=by rw[F];exact True.intro
    have nd:=Zd.mp q;obtain⟨Mg,HN,HC,Hr,q1,q2,q3,q4,f⟩:=pf (kk:=kk) E hl (t.same n);have ln:(ns.zip j).length<sizeLine:=by
     have:((ns.map aQ).zip r).length<16777216:=c3;rw[Yo,Zx]at this;rw[Yo];have:=t.len.1;have:(KB:Nat)=16777216:=rfl;lia
    refine .inr ⟨a,_,rfl,rP.k F ln,?_⟩;have g:Chg G H (.ref a) (O i) (.dct 0 (dput ((ns.map aQ).zip r) (aQ kk) m)) (upd d a (.dK (putK (ns.zip j) kk xv))) (a :: Hr.flatten):=by
     rw[C,q1,q3];refine Chg.upd n Zu u (.dct ay q2 (q4.off u λz=>nd.1 (f.subset z))) ?_ ?_
     ·exact Zd.mpr ⟨λz=>nd.1 (f.subset z),nd.2.sublist f⟩
     ·intro bb hb;rcases Zj.mp hb with rfl | hb
      ·exact .inl Zu
      ·exact .inl (Zt _ (f.subset hb))
    obtain⟨R,Q⟩:=s.mut o y g;exact k _ J _ R Q
   ·cases e
  ·cases e
end
end VS
end
section
namespace DP
open PySem PySem.Spec PyProof.Rows
def AI:typeLookup (.type "tuple") "keys" = pure Y:=by rw[XA,Y9];kernel_rfl
def zX{A:Re}{h:SL}{os}(l:h.get? a=Z { cls:=.type "tuple",dict:=Y,data:=.seq i k,slots:=j })(q:A.handled=Y)(p:∀f b e,Heap.NewExcOf h f e "AttributeError" → E (.ref e) ⟨f,g,d,b,os⟩):On (IR prog w) A (getAttrBy (.ref a) (.str "keys" u) B) Q E ⟨h,g,d,o,os⟩:=by
 have m:∀b,(⟨h,g,d,b,os⟩:GM).TypeIs (.ref a) "tuple" := λ_=>⟨_,l,rfl⟩
 have f1:=Wk;have y:=Wc.lookup;have v:=Wc.bind (.ref a);have t:=am_tuple_getattr_none;unfold getAttrBy
 repeat (any_goals (first | assumption | exact m _ | ((with_reducible show On _ _ (call (Value.builtin "tuple.__getattribute__") _ _) _ _ _);refine call_meets Wc (m _) am_entry_tuple_getattribute (F.args_tuple_getattribute_2 _ _) (meets_getattribute_miss_tuple a i k j "keys" _ AI (by decide +kernel)) ⟨l,q,λf b e n=>?_⟩) | wp_step))
 obtain⟨s,r,he⟩:=n.there;show On _ _ (getattributeRaised _ _ _ _ _ _ _) _ _ _;unfold getattributeRaised
 repeat (any_goals (first | assumption | wp_step))
 exact p _ _ _ n.of
end DP
end
section
namespace DP
open PySem PySem.Spec PyProof.Rows L2
def uY{A:Re}{h:SL}{os}(n:h.get? a=Z { cls:=.type "tuple",dict:=Y,data:=.seq j k,slots:=m })(r:A.handled=Y)(o:∀b i e,Heap.NewExcOf h b e "AttributeError" → Q Y ⟨b,g,d,i,os⟩):On (IR prog w) A (getAttr? (.ref a) "keys") Q E ⟨h,g,d,l,os⟩:=by
 have f1:=Wk;unfold getAttr? getAttrBy?
 repeat (any_goals (first | assumption | (with_reducible refine zX n (by assumption) λb i e f=>?_) | wp_step))
 obtain⟨⟨oc,q,s,t⟩,p,ge,ce,_,_⟩:=f.there;dsimp only at ce;subst ce
 repeat (any_goals (first | assumption | wp_step))
 exact o _ _ _ f
def gY:entryFor table "dict.update.loop" = Z Builtin.«dict.update.loop» := entryFor_of_tree (by kernel_rfl)
def cF:plainId "dict.update.loop" = M:=by decide +kernel
section
theorem loop{prog:P3}{w:SZ}{A:Re}{R:Result->GM->Prop}{I:KF}{fp wr:W6}{G:Array GenState->Array GenState->Prop}{n:Nat}{P:Nat->KM->Prop}{St:Nat->GM->Prop}(W:WalksS prog w A.in1 I fp wr G n P St)(d:KF)(X:d∉fp)(O:SL)(a:Nat->Key×KM)(hP:∀i v,P i v->∃p m t l,v=.ref p/\O.get? p=Z { cls:=.type "tuple",dict:=Y,data:=.seq #[l,(a i).2] m,slots:=t }/\(aw prog w).is (a i).1 l=M/\p∉d :: wr)(g:n<=KB) :
  ∀(k i:Nat)(s:GM),n-i=k->i<=n->St i s->(∀b o,b∉d :: wr->O.get? b=Z o->s.heap.get? b=Z o)->s.heap.DictOf (aw prog w) d (merged [] ((List.range i).map a)) →
   (∀f,Moved (d :: wr) G s f->f.heap.DictOf (aw prog w) d (merged [] ((List.range n).map a))->R (.ok (.ret .none)) f) →
   codeAny (IR prog w) A (.builtin "dict.update.loop" ⟨[.ref d,.ref I,rawInt i,.none],[]⟩) R s:=by
 have U:d∉wr:=λh=>X (W.sub _ h);have q:∀b∈wr,b∈d :: wr:=λb g=>Zt _ g;intro k
 induction k with
 |zero =>
  intro i s hk hi N D F H;have Ho:i=n:=by lia
  subst Ho;refine YQ gY ?_;rw[Ym cF _];show On _ A.in1 (pyNext (.ref I)>>=_) _ _ s;refine Zy (W.done s _ _ N λf j=>?_);show On _ A.in1 (Builtin.Dict.addKeywords d [] >>= λ_=>ret Value.none) _ _ f;refine Zy (Zr ?_);exact Zr (H f (j.mono q) (by
   obtain⟨o,J,L,C,rest⟩:=F;exact⟨o,J,L,j.heap d _ U C,rest⟩))
 |succ k ih =>
  intro i s hk hi N D F H;have G0:i<n:=by omega
  refine YQ gY ?_;rw[Ym cF _];show On _ A.in1 (pyNext (.ref I)>>=_) _ _ s;refine Zy (W.item i s _ _ G0 N λv f VQ Mn j=>?_);obtain⟨p,m,t,l,rfl,hp,Vg,S⟩:=hP i v VQ;have NU:f.heap.get? p=Z { cls:=.type "tuple",dict:=Y,data:=.seq #[l,(a i).2] m,slots:=t }:=j.heap p _ (λz=>S (q p z)) (D p _ S hp);have Rb:f.heap.DictOf (aw prog w) d (merged [] ((List.range i).map a)):=by
   obtain⟨o,J,L,C,rest⟩:=F;exact⟨o,J,L,j.heap d _ U C,rest⟩
  show On _ A.in1 (holding [Value.ref p] _>>=_) _ _ f;refine Zy (Yp ?_);have ty:f.TypeIs (.ref p) "tuple" := ⟨_,NU,rfl⟩
  refine Zy (thn (Q:=λr y=>r=[l,(a i).2]/\y=f) ?pair λr y hr=>?rest)
  case pair =>
   refine wpAny_tryCatch ?_;unfold Builtin.Dict.pairItems
   repeat (any_goals (first | assumption | wp_step))
   exact⟨rfl,rfl⟩
  case rest =>
   obtain⟨rfl,rfl⟩:=hr;dsimp only;refine Yp ?_;refine wpAny_dictSet_pairs Vg Rb (λh' dd u=>?_) (by have:=merged_length_le (K:=Key) [] ((List.range i).map a);simp at this;lia);have e1:((i:Int)+1)=((i+1:Nat):Int):=by lia
   rw[e1];have Js:h'.DictOf (aw prog w) d (merged [] ((List.range (i+1)).map a)):=by
    rw[List.range_succ,ZF,show merged ([]:List (Key×KM)) ((List.range i).map a++[i].map a)=stored (merged [] ((List.range i).map a)) (a i).1 (a i).2 by unfold merged;rw[List.foldl_append];rfl];exact dd
   refine Zr ⟨Xr cF _,ih (i+1) _ (by omega) G0 (W.frame _ y _ _ Mn (Y5 _) λb g o e=>?_) (λb o g e=>?_) Js λNv QK Ra=>?_⟩
   ·rw[u.2 b (λh:b=d=>X (by rw[← h];exact g))];exact e
   ·rw[u.2 b (λh:b=d=>g (by rw[h];exact Zu))];exact j.heap b _ (λz=>g (q b z)) (D b o g e)
   ·refine H Nv (Moved.trans W.gtrans ((j.mono q).then_heap (Y5 _) λb o g e=>?_) QK) Ra;rw[u.2 b (λh:b=d=>g (by rw[h];exact Zu))];exact e
end
end DP
end
section
namespace DP
open PySem PySem.Spec PyProof.Rows L2
def nh:mroOf (.type "dict")=pure [.type "dict",.type "object"]:=by rw[mroOf_type];kernel_rfl
def kT:typeLookup (.type "dict") "__new__" = pure (Z (.builtin "dict.__new__")):=by rw[XA,Y9];kernel_rfl
def kM:TypeCalled "dict" "dict.__new__" "dict.__init__" :=
 ⟨by decide +kernel,by decide +kernel,⟨_,_,nh⟩,madeBy_type nh kT (by decide +kernel),by decide +kernel,by rw[Wj];kernel_rfl,F.slot_dict_init⟩
def hJ(a:KM):checkTypeCall "dict" ⟨[a],[]⟩=pure ():=by kernel_rfl
def lM(a:KM):checkBuiltinCall "dict.__new__" ⟨[.type "dict",a],[]⟩=pure ():=by kernel_rfl
def m9:entryFor table "dict.__new__" = Z Builtin.«dict.__new__» := entryFor_of_tree (by kernel_rfl)
def ie:plainId "dict.__new__" = M:=by decide +kernel
def nF:isSubtype (.type "dict") (.type "dict")=pure M:=by rw[Wj];kernel_rfl
def i9{s:GM}(a:KM)(h:b (.ref s.heap.objs.size) { s with heap:=s.heap.push { cls:=.type "dict",data:=.dict #[] } }) :
  codeAny (IR prog w) A (.call (.builtin "dict.__new__") ⟨[.type "dict",a],[]⟩) (wants b E) s:=by
 refine codeAny_of_tree (Zy (m:=checkBuiltinCall "dict.__new__" ⟨[.type "dict",a],[]⟩) (wpAny_of_eq (lM a) (Zr ⟨Xr ie _,YQ m9 ?_⟩)));rw[Ym ie];have own:=nF;have mro:=nh;cases s;unfold Builtin.«dict.__new__»
 wp_walk
 exact h
def vA{A:Re}{s:GM}{kv:Nat->Key×KM}(J:A.handled=Y)(H:s.heap.get? a=Z { cls:=.type "tuple",dict:=Y,data:=.seq j G,slots:=Uk })(U:j.size<=KB)(hp:∀(i:Nat)(v:KM),j[i]?=Z v->∃p m y r,v=.ref p/\s.heap.get? p=Z { cls:=.type "tuple",dict:=Y,data:=.seq #[r,(kv i).2] m,slots:=y }/\(aw prog w).is (kv i).1 r=M)(h:∀(l:SL)(C:Nat),l.DictOf (aw prog w) s.heap.objs.size (merged [] ((List.range j.size).map kv))->(∀b o,s.heap.get? b=Z o->l.get? b=Z o)->Q (.ref s.heap.objs.size) { s with heap:=l,toks:=C }) :
  On (IR prog w) A (call (.type "dict") [.ref a]) Q E s:=by
 refine callType_codes (Q₁:=λobj D=>obj=.ref s.heap.objs.size/\D={ s with heap:=s.heap.push { cls:=.type "dict",data:=.dict #[] } }) kM (hJ _) F.entry_dict_init (i9 _ ⟨rfl,rfl⟩) λobj D hq=>?_;obtain⟨rfl,rfl⟩:=hq;have ty:Shared.TypeIs { s with heap:=s.heap.push { cls:=.type "dict",data:=.dict #[] } } (.ref s.heap.objs.size) "dict" := ⟨_,Zh _ L,rfl⟩
 refine⟨ty,F.args_dict_init_2 _ _,?_⟩;obtain⟨f,g,d,C,os⟩:=s;have O:=Zw { cls:=.type "dict",data:=.dict #[] } H;unfold Builtin.«dict.__init__» Builtin.Dict.updateCommon Builtin.Dict.updateFrom;generalize eP:pyIter=Sv;generalize eG:getAttr?=ga
 repeat (any_goals (first | assumption | wp_step))
 subst eG;dsimp only at *;refine uY O (by simp[J]) λt T9 e ne=>?_;simp only[Option.isNone_none,if_true];refine Zy (Wm ?_);subst eP;have at2:=ne.keeps _ _ O;have dat:=ne.keeps f.objs.size { cls:=.type "dict",data:=.dict #[] } (Zh _ L);have u:=Za dat;have z:∀{b:KF}{o:Obj},f.get? b=Z o->b<f.objs.size:=λe=>Za e;have P:∀b o,f.get? b=Z o->t.get? b=Z o:=λb o e=>ne.keeps _ _ (Zw _ e);have tup:t.IsTuple a j:=⟨_,at2,rfl,G,rfl⟩
 refine Zy (wpAny_pyIter_tuple tup (Zr ⟨Xr cF _,?_⟩));have alt:=z H;have D0:(t.push { cls:=.type "tuple_iterator",data:=.fields #[.ref a,.int 0 0] }).DictOf (aw prog w) f.objs.size (merged [] ((List.range 0).map kv)):=by
  obtain⟨o,es,ep,ho,rest⟩:=(Heap.DictOf.new (knd:=aw prog w) f)
  exact⟨o,es,ep,Zw _ (ne.keeps _ _ ho),rest⟩
 refine loop (A:=A.in1) ((Walks.tuple (by simp[J]) t.objs.size a (Zg (Wt alt u)) j).toS) f.objs.size (by simp only[Zj,Yt,or_false,not_or];exact⟨Zg u,Xp alt⟩) f kv (λi v X=>?_) U j.size 0 _ (by lia) (YT _) ?_ (λb o hb e=>Zw _ (P b o e)) D0 λS n dd=>?_
 ·obtain⟨p,m,y,r,rfl,N,g2⟩:=hp i v X;have:=z N;exact⟨p,m,y,r,rfl,N,g2,by simp only[Zj,Yt,or_false,not_or];exact⟨Zg this,Zg (Wt this u)⟩⟩
 ·exact⟨⟨_,Zh _ L,rfl,rfl⟩,tup.push _⟩
 ·obtain⟨l,g',d',HP,NB⟩:=S;have e1:g'=g:=n.gens;have e2:d'=d:=n.drawn;have e3:NB=os:=n.os;subst e1 e2 e3;refine⟨rfl,h l HP dd λb o e=>n.heap b o (λR=>?_) (Zw _ (P b o e))⟩;have:=z e;simp only[Zj,Yt,or_false]at R;rcases R with q | q
  ·exact Zg this q
  ·exact Zg (Wt this u) q
end DP
end
section
namespace L2
open PySem PySem.Spec PyProof.Rows
section
variable{X:Cx}
abbrev JK:=KF×Key×V
def AY(I:Inv X a J H s){q:JK}(h:H q.1=Z (.tup [kV q.2.1,q.2.2])):∃b m i d,RelV q.2.2 b/\s.heap.get? q.1=Z { cls:=.type "tuple",dict:=Y,data:=.seq #[d,b] m,slots:=i }/\(aw X.prog X.w).is q.2.1 d=M:=by
 obtain⟨_,p,j,nd,⟨oc,o,r,l⟩,g,f,n,e⟩:=(show bF X.prog X.w H s.heap q.1 (.tup [kV q.2.1,q.2.2]) from I.xt _ _ h)
 have hd:=nd _ g;dsimp only at f e hd;subst f e hd;obtain⟨d,b,rfl,r1,r2⟩:=vals2 j;exact⟨b,n,l,d,r2,g,jc r1⟩
theorem rG(I:Inv X a J H s):∀(b:List JK),(∀q∈b,H q.1=Z (.tup [kV q.2.1,q.2.2])) →
  ∃i:List (Key×KM),Paired (λ(q:JK) (e:Key×KM)=>q.2.1=e.1/\RelV q.2.2 e.2/\∃m f d,s.heap.get? q.1=Z { cls:=.type "tuple",dict:=Y,data:=.seq #[d,e.2] m,slots:=f }/\(aw X.prog X.w).is e.1 d=M) b i
 |[],_=>⟨[],.nil⟩
 |q :: b,h=>by
  obtain⟨j,m,f,d,r,g,k⟩:=AY I (h q Zu);obtain⟨i,p⟩:=rG I b λx l=>h x (Zt _ l);exact⟨(q.2.1,j) :: i,.cons ⟨rfl,r,m,f,d,g,k⟩ p⟩
theorem ou(f:∀q d,R q d->q.2.1=d.1/\RelV q.2.2 d.2):∀{e:List JK}{g:List (Key×KM)},Paired R e g->∀{a:List (Key×V)}{b:List (Key×KM)},KV a b->KV (e.foldl (λacc q=>putK acc q.2.1 q.2.2) a) (merged b g)
 |_,_,.nil,_,_,r=>r
 |_,_,.cons (a:=q) (b:=d) h t,a,b,r=>by
  obtain⟨e1,e2⟩:=f _ _ h;have:=ou f t (r.put d.1 e2);simp only[Y2,merged];rw[e1];exact this
theorem qJ:∀(b:List JK)(a:List (Key×V)),(b.foldl (λacc q=>putK acc q.2.1 q.2.2) a).length<=a.length+b.length
 |[],a=>Zl _
 |q :: b,a=>by
  have e:=qJ b (putK a q.2.1 q.2.2);have d:=eK a q.2.1 q.2.2;simp only[Y2,ZX];lia
theorem Paired.at_{α β:Type}{R:α->β->Prop}:∀{l:List α}{m:List β},Paired R l m->∀(i:Nat){a:α},l[i]?=Z a->∃b,m[i]?=Z b/\R a b
 |_,_,.nil,i,a,h=>by simp at h
 |_,_,.cons r t,0,a,h=>by simp at h;subst h;exact⟨_,rfl,r⟩
 |_,_,.cons r t,i+1,a,h=>by simpa using Paired.at_ t i (by simpa using h)
def rO(P:X.calm=M):cB X (.type "dict") (λj H Q=>∃(p:KF)(b:List JK),j=[.ref p]/\H p=Z (.tup (b.map λq=>V.ref q.1))/\(∀q∈b,H q.1=Z (.tup [kV q.2.1,q.2.2])) ∧
  ∀l,H l=Y->Q (.ref l) (upd H l (.dK (b.foldl (λacc q=>putK acc q.2.1 q.2.2) [])))):=by
 intro r s J H j us Q I F h;obtain⟨p,b,rfl,O,N,q⟩:=h;obtain⟨u,rfl,G⟩:=F.one;cases G;obtain⟨y,t,o,nd,⟨oc,od,P2,ID⟩,g,A,n,z⟩:=(show bF X.prog X.w H s.heap p (.tup (b.map λq=>V.ref q.1)) from I.xt _ _ O)
 have hd:=nd _ g;dsimp only at A z hd;subst A z hd;obtain⟨e,pr⟩:=rG I b N;have l1:t.length=b.length:=by have:=o.length;simpa using this.symm
 have l2:e.length=b.length:=pr.length.symm;rw[Zx]at y;have U:(List.range t.toArray.size).map (λi=>(e[i]?).getD (.inl 0,.none))=e:=by
  apply Wo;intro i;rw[ZZ];by_cases d:i<e.length
  ·rw[List.getElem?_range (by simp;lia),Zq d];simp[d]
  ·rw[ZD (by simp;lia),ZD (by exact ZL d)];rfl
 refine DP.vA (kv:=λi=>(e[i]?).getD (.inl 0,.none)) (I.ok.hd P) g (by simp;lia) (λi v f=>?_) λh' D C kp=>?_
 ·rw[List.getElem?_toArray]at f;have d:i<b.length:=by have:=(Zc.mp f).1;lia
  obtain⟨w,e1,e2⟩:=Paired.at_ o i (a:=V.ref b[i].1) (by rw[ZZ,Zq d];rfl);rw[f]at e1;cases e1;obtain⟨kv,e3,e4,_,m,E,L,S,R⟩:=Paired.at_ pr i (Zq d);rw[e3];exact⟨b[i].1,m,E,L,e2,S,R⟩
 ·rw[U]at C;have rel:=ou (λ_ _ h=>⟨h.1,h.2.1⟩) pr (.nil:KV [] []);have ln:=qJ b [];exact⟨.ref s.heap.objs.size,_,I.laid (t':=D) kp (Zl _) (mJ (by simp at ln;exact Z2 ln y) (ZJ.mpr (YR (Zg I.big))) rel C),rfl,q _ (I.xt.fresh (Zl _))⟩
end
end L2
end
section
namespace VS
open PySem PySem.Spec PyProof.Rows L2
def pd:Vo->Option (List (T×T))
 |[]=>Z []
 |.tup [k,v] :: r=>if gK k/\FZ v then (pd r).map ((k,v) :: ·) else Y
 |_=>Y
def nc:Vq->Vp
 |[(_,.tup l)]=>(pd l).map λa=>(.fr,.dct 0 (a.foldl (λd q=>dput d q.1 q.2) []))
 |_=>Y
section
variable{X:Cx}
def zb(h:pd (t :: l)=Z d):∃k v a,t=.tup [k,v]/\gK k=M/\FZ v=M/\pd l=Z a/\d=(k,v) :: a:=by
 unfold pd at h;split at h
 ·rename_i b;cases b
 ·rename_i k v r b;cases b;split at h
  ·rename_i c;obtain⟨a,e1,e2⟩:=Zs.mp h;exact⟨k,v,a,rfl,c.1,c.2,e1,e2.symm⟩
  ·cases h
 ·cases h
theorem qj:∀{ts:Vo}{g:List V}{Gs:Xq}{a:List (T×T)},RpL G H g ts Gs->pd ts=Z a →
  ∃d:List JK,g=d.map (λq=>V.ref q.1)/\(∀q∈d,H q.1=Z (.tup [kV q.2.1,q.2.2]))/\Paired (λ(q:JK) (x:T×T)=>x.1=aQ q.2.1/\Rp G H q.2.2 x.2 []) d a
 |[],_,_,a,r,h=>by
  cases r;cases (show Z ([]:List (T×T))=Z a from h);exact⟨[],rfl,λq o=>by simp at o,.nil⟩
 |t :: ts,_,_,a,r,h=>by
  obtain⟨k,v,l,rfl,s,n,u,rfl⟩:=zb h;cases r with
  |cons r1 r2 =>
   obtain⟨d,e1,e2,e3⟩:=qj r2 u;obtain⟨b,vs,Fs,rfl,hb,q⟩:=Rp.IA r1;cases q with
   |cons j q =>
    cases q with
    |cons i q =>
     cases q;obtain⟨m,rfl,w⟩:=cP j s;have y:=i.FZ n;subst y;refine⟨(b,m,_) :: d,by rw[e1];rfl,λx f=>?_,.cons ⟨w,i⟩ e3⟩;rcases Zj.mp f with rfl | f
     ·exact hb
     ·exact e2 x f
theorem ni:∀{s:List JK}{n:List (T×T)},Paired (λ(q:JK) (x:T×T)=>x.1=aQ q.2.1/\Rp G H q.2.2 x.2 []) s n->∀{ns:List Key}{vs:List V}{ts:Vo}{Fs:Xq},ns.length=vs.length->RpL G H vs ts Fs->Fs.flatten=[] →
  ∃(l:List Key)(g:List V)(m:Vo)(f:Xq),s.foldl (λacc q=>putK acc q.2.1 q.2.2) (ns.zip vs)=l.zip g/\n.foldl (λd q=>dput d q.1 q.2) ((ns.map aQ).zip ts)=(l.map aQ).zip m/\l.length=g.length/\RpL G H g m f/\f.flatten=[]
 |_,_,.nil,ns,vs,ts,Fs,i,r,j=>⟨ns,vs,ts,Fs,rfl,rfl,i,r,j⟩
 |_,_,.cons (a:=q) (b:=x) h t,ns,vs,ts,Fs,i,r,j=>by
  obtain⟨P,g,m,f,A,z,y,w,o⟩:=pf (kk:=q.2.1) h.2 i r;rw[j]at o;have N:f.flatten=[]:=List.sublist_nil.mp o;obtain⟨C,u,v,O,L,J,F,E,D⟩:=ni t z w N;refine⟨C,u,v,O,?_,?_,F,E,D⟩
  ·rw[Y2,A];exact L
  ·rw[Y2,h.1,y];exact J
def wB:dW G (λi H Q=>∃(p:KF)(a:List JK),i=[.ref p]/\H p=Z (.tup (a.map λq=>V.ref q.1))/\(∀q∈a,H q.1=Z (.tup [kV q.2.1,q.2.2])) ∧
  ∀l,H l=Y->Q (.ref l) (upd H l (.dK (a.foldl (λacc q=>putK acc q.2.1 q.2.2) [])))) nc:=by
 intro O U P H l vs Fs m t Q A e k;unfold nc at e;split at e
 ·rename_i N ts;obtain⟨j,e1,e2⟩:=Zs.mp e;cases e2;obtain⟨v,F,rfl,rfl,r⟩:=(show RpL G H vs [.tup ts] Fs from A.rp).one;obtain⟨b,J,Gs,rfl,hb,q⟩:=Rp.IA r;obtain⟨a,rfl,C,pr⟩:=qj q e1;refine⟨b,a,rfl,hb,C,λl h=>?_⟩;obtain⟨ns,f,E,D,w,u,s,o,n⟩:=ni pr (ns:=[]) (vs:=[]) (ts:=[]) (Fs:=[]) L .nil L;have y:a.foldl (λacc q=>putK acc q.2.1 q.2.2) []=ns.zip f:=w;have z:j.foldl (λd q=>dput d q.1 q.2) []=(ns.map aQ).zip E:=u;rw[y];have g:aJ H (upd H l (.dK (ns.zip f))):=bQ h;refine k _ _ (l :: D.flatten) g (by rw[z];exact .dct ay s (o.same g)) ?_;rw[n];exact Fp.new (A.same.free h) (by simp) Fp.nil
 ·cases e
def pT:bootBuiltins ("dict" : Str)=Z (.type "dict"):=by decide +kernel
def zr(a:X.mg "dict" = Y)(f:GY G X [e] cs)(b:{`q2,Gl X "dict"})(d:{`q2,X.calm=M})(he:{`q2,K1 e [] X}):PV G X (.Call (.Name "dict" p) [e] [] pos) (eN nc cs) :=
 iW (rO d) wB b a pT f (he:=he) (hpl:=rfl)
end
end VS
end
section
namespace L2
open PySem PySem.Spec PyProof.Rows
section
variable{X:Cx}
def oX(I:Inv X pins J H s)(e:H d=Z (.dK a))(g:s.heap.get? d=Z o):Inv X pins J (upd H d (.frz o (.dK a))) s :=
 lC (t':=s.toks) I (by rw[e];exact True.intro) ⟨rfl,λ_ _=>rfl⟩ ⟨o,g⟩ ⟨g,I.xt d _ e⟩
end
def RU(d:KF)(o:Obj)(a:List (Key×V)):It :=
 ⟨λi H=>H d=Z (.frz o (.dK a))/\i<a.length,λi H x b=>b=H/\∃p,a[i]?=Z p/\x=kV p.1,λi H=>H d=Z (.frz o (.dK a))/\a.length<=i⟩
def zJ(h:kL k v=M):RelV (kV k) v:=by
 rcases bK h with⟨i,t,rfl,rfl⟩ | ⟨x,t,rfl,rfl⟩
 ·exact⟨t,rfl⟩
 ·exact⟨t,rfl⟩
def nY{P:P3}{w:SZ}{a:List DictEntry}{m:List (Key×KM)}(r:Pairs (aw P w) a m){i:Nat}{e:DictEntry}(h:a[i]?=Z e):∃q,m[i]?=Z q/\kL q.1 e.key=M:=by
 induction r generalizing i with
 |nil=>simp at h
 |@cons j b a l f g _ d =>
  cases i with
  |zero =>
   simp at h;subst h;exact⟨b,rfl,f⟩
  |succ i=>simpa using d (by simpa using h)
def CJ{l:List (Key×V)}{m:List (Key×KM)}(r:KV l m){i:Nat}{q:Key×KM}(h:m[i]?=Z q):∃p,l[i]?=Z p/\p.1=q.1:=by
 induction r generalizing i with
 |nil=>simp at h
 |@cons a f g e d t b =>
  cases i with
  |zero=>simp at h;subst h;exact⟨a,rfl,d.1⟩
  |succ i=>simpa using b (by simpa using h)
section
variable{X:Cx}
def BH{K:X3}(d j:KF){n:Array DictEntry}(f:KV U O)(he:Pairs (aw P w) n.toList O) :
  Turn P w K tg (RU d (ST.dO n t) U) [j] j (λi h=>h.get? j=Z (ST.kO d i n.size t)) where
 mem:=by simp
 obj:=λi h st b hb=>by
  rw[Zf.mp hb];exact⟨_,st,λv z=>by cases z⟩
 keep:=λi h m st k=>k j (by simp) _ st
 item:=by
  intro X A hw C y i a s J H E I r st hg;subst A hw C;obtain⟨N,f1,f2,L,G,D⟩:=r j (by simp);refine ST.qR (I.ok.hd y) st (show s.heap.get? d=Z (ST.dO n t) from(I.xt d _ hg.1).1) (λe l m Q g=>?_) λR=>?_
  ·have I1:Inv X a J H { s with heap:=m }:=I.turned (t':=s.toks) (λb o hb e=>(Q.2 b hb).trans e) N f1 L G D;rw[← Z5]at l;obtain⟨q,u,S⟩:=nY he l;obtain⟨p,hp,hb⟩:=CJ f u;exact⟨_,rfl,rm (s:={ s with heap:=m }) g rfl rfl rfl ⟨kV p.1,H,I1,by rw[hb];exact zJ S,⟨rfl,p,hp,rfl⟩,g,λb hb=>(r b hb).1⟩⟩
  ·exfalso;rw[← Z5,Yb,he.length,← XF f]at R;exact absurd hg.2 (by lia)
 done:=by
  intro X A hw C y i a s J H E I r st hg;subst A hw C;obtain⟨N,f1,f2,L,G,D⟩:=r j (by simp);refine ST.qR (I.ok.hd y) st (show s.heap.get? d=Z (ST.dO n t) from(I.xt d _ hg.1).1) (λe l m Q g=>?_) λR m kp=>⟨rfl,I.turned (t':=s.toks) (λb o hb e=>kp b o hb e) N f1 L G D⟩
  exfalso;rw[← Z5]at l;obtain⟨q,u,S⟩:=nY he l;have:=(Zc.mp u).1;have h2:=hg.2;rw[XF f]at h2;lia
 self:=λ_ _ _ _ _ st hQ=>Wb ⟨_,st,rfl⟩ F.slot_dict_keyiterator_iter (YO F.slot_dict_keyiterator_iter ⟨_,st,rfl⟩ F.entry_dict_keyiterator_iter (show On _ _ (ret (.ref j)) _ _ _ from Zr ⟨_,rfl, "dict_keyiterator",_,⟨_,st,rfl⟩,XW.lookup,hQ⟩) (F.args_dict_keyiterator_iter_1 _))
def US(e:TE):TI:=λJ H R=>e J H λx b=>∃d a,x=.ref d/\b d=Z (.dK a)/\∀o,R (RU d o a) (upd b d (.frz o (.dK a)))
def DY(m:PE X l i):PI X tg l (US i):=by
 intro a s J H R I h;refine thn (m a s J H _ I h) λv s1 ⟨x,A,f,r1,j⟩=>?_;obtain⟨d,w,ex,e,q⟩:=j;subst ex;cases r1;obtain⟨z,y,p,rel,o,t,u,g,ex,hd,_,he,r⟩:=rj f.xt e;have eo:=vQ ex hd;subst eo;refine ST.wN y g ?_;refine⟨s1.heap.objs.size,[s1.heap.objs.size],_,_,_,rfl,(oX f e g).kept (t':=s1.toks) λb o e=>Zw _ e,BH d _ rel he,Zh _ L,λb hb=>?_,q _⟩;have n:b=s1.heap.objs.size:=by simpa using hb
 subst n;exact(oX f e g).Lj (Zl _) ((oX f e g).xt.fresh (Zl _))
end
end L2
namespace VS
open PySem PySem.Spec PyProof.Rows L2
noncomputable def OU:T->Bool
 |.non=>M
 |.bl _=>M
 |.int _=>M
 |.str _=>M
 |_=>B
def A9(h:OU t=M)(r:Rp G H v t F):F=[]/\Rp G a v t []:=by
 cases r with
 |non=>exact⟨rfl,.non⟩
 |bl b=>exact⟨rfl,.bl b⟩
 |int i=>exact⟨rfl,.int i⟩
 |str s ok=>exact⟨rfl,.str s ok⟩
 |_=>cases h
end VS
end
section
namespace ST
open PySem PySem.Spec PyProof.Rows
def vo{A:Re}{s:GM}{y:Str}(S:A.handled=Y)(C:j=y.cps.toList.map λc=>(⟨#[c]⟩:Str))(hb:j.length+1<scanBound)(h:∀(l:SL)(G:Nat) ss es ep t,Ts w l s.heap.objs.size ss es ep t->(∀y,y∈ss↔y∈j)->(∀b o,s.heap.get? b=Z o->l.get? b=Z o)->Q (.ref s.heap.objs.size) { s with heap:=l,toks:=G }) :
  On (IR prog w) A (call (.type "set") [.str y n]) Q E s:=by
 have f:=F.called_set;obtain⟨c,tl,mro⟩:=f.mro;have made:=f.made;have sub:=f.sub;have nt:=f.notType;have cc:=f.canCreate;have tc:=F.typeCall_set_1 (.str y n);refine wpAny_call (codeAny_of_tree (Zr (show _/\codeAny _ _ (.builtin "type.__call__" _) _ _ from⟨Code.quiet_builtin _ (by decide +kernel),YQ F.entry_type_call ?_⟩)));rw[Around.under_plain (weight_type_call_type "set" [.str y n] []) L]
 repeat any_goals first | assumption | wp_step
 refine X9 (zh (.str y n) (E:=E) (Q:=λv s1=>v=.ref s.heap.objs.size/\s1={ s with heap:=s.heap.push (bare w) }) ⟨rfl,rfl⟩) λr s1 a=>?_
 match r,a with
 |.error e,a=>exact a
 |.ok (.ret v),⟨e1,e2⟩ =>
  subst e1 e2;have g:=Ts.bare (w:=w) s.heap;have ty:Shared.TypeIs { s with heap:=s.heap.push (bare w) } (.ref s.heap.objs.size) "set" := ⟨_,g.at_,rfl⟩
  have il:=f.init.lookup;have ib:=f.init.bind (.ref s.heap.objs.size)
  repeat any_goals first | assumption | wp_step
  refine X9 (codeAny_call_builtin (R:=wants (λv z=>v=.none/\Q (.ref s.heap.objs.size) z) E) f.init.plain F.entry_set_init (check_set_init_1 ty ?_)) λr2 z d=>?_
  ·have n1:=F.sub_str_set;have n2:isSubtype (.type "str") (.type "frozenset")=pure B:=by rw[Wj];kernel_rfl
   have n3:(Value.type "str" == Value.type "dict")=B:=rfl;unfold Builtin.«set.__init__» noKeywords Builtin.Frozenset.updateFrom;generalize X:pyIter=Sv
   wp_walk
   subst X;refine wpAny_pyIter_str λo St W G9=>Zy (wpAny_runValue ?_);have off:s.heap.objs.size∉[(s.heap.push (bare w)).objs.size]:=by
    rw[Z9];simp only[Zj,Yt,or_false];exact Zg (Yz _)
   have T1:Ts w ((s.heap.push (bare w)).push o) s.heap.objs.size [] #[] 0 (.fresh 0 0 (!Kv w)) :=
    ⟨Zw _ g.at_,g.tb,g.KQ,g.pm,g.nd,g.Jc⟩
   have N:y.cps.size=j.length:=by rw[C,Zx,ZC]
   have O:∀(i:Nat)(v:KM),SignAt y i v->∃x t,v=.str x t/\j[i]?=Z x:=λi v ⟨c,u,e1,e2⟩=>⟨_,u,e2,by rw[C,ZZ,Z5,e1];rfl⟩
   refine qD ((W _ (by simp[S])).toS) off N O (by lia) y.cps.size 0 _ [] #[] 0 _ (by exact Wg _) G9 T1 (by simp) (Zl _) λJ Gf IP Kt H m T P _=>?_;obtain⟨l,U,d',HP,NB⟩:=J;have e1:U=s.gens:=m.gens;have e2:d'=s.drawn:=m.drawn;have e3:NB=s.os:=m.os;subst e1 e2 e3;refine Zr (Zr ⟨rfl,h l HP Gf IP Kt H T P λb o e=>m.heap b o (λp=>?_) (Zw _ (Zw _ e))⟩);have D:=Za e;rw[Z9]at p;simp only[Zj,Yt,or_false]at p;rcases p with q | q
   ·exact Zg D q
   ·exact Zg (YY D) q
  ·match r2,d with
   |.error e,d=>exact d
   |.ok (.ret v),⟨e1,e2⟩ =>
    subst e1
    repeat any_goals first | assumption | wp_step
   |.ok .next,d=>exact d.elim
   |.ok .brk,d=>exact d.elim
   |.ok .cont,d=>exact d.elim
 |.ok .next,a=>exact a.elim
 |.ok .brk,a=>exact a.elim
 |.ok .cont,a=>exact a.elim
end ST
namespace L2
open PySem PySem.Spec PyProof.Rows TS
section
variable{X:Cx}
def sr(g:X.calm=M):cB X (.type "set") (λb H Q=>∃x:Str,b=[.str x]/\x.cps.size+1<scanBound/\∀l,H l=Y->Q (.ref l) (upd H l (zT X.w l (x.cps.toList.map λc=>(⟨#[c]⟩:Str))))):=by
 intro d s J H b z Q I e h;obtain⟨x,rfl,hb,q⟩:=h;obtain⟨u,rfl,t,rfl⟩:=vals1 e;refine ST.vo (I.ok.hd g) L (by rw[Zx,ZC];exact hb) λi A y v j t T f kp=>?_;exact⟨.ref s.heap.objs.size,_,I.laid kp (Zl _) (show bF X.prog X.w _ i _ (zT X.w s.heap.objs.size _) from⟨⟨y,v,j,t,T,f⟩,⟨_,T.at_⟩,λD C ⟨r,p,o,n,a,m⟩ k=>⟨r,p,o,n,⟨k _ a.at_,a.tb,a.KQ,a.pm,a.nd,a.Jc⟩,m⟩⟩),rfl,q _ (I.xt.fresh (Zl _))⟩
end
end L2
end
section
namespace L2
def Co{α:Type}{b:List α}(d:b.length=n+1):∃a t,b=a :: t/\t.length=n:=by
 obtain⟨a,t,e⟩:=List.exists_cons_of_length_eq_add_one d;subst e;exact⟨a,t,rfl,WB d⟩
def ng{α:Type}{b:List α}(d:b.length=1):∃a,b=[a]:=List.length_eq_one_iff.mp d
def eX{α:Type}{d:List α}(f:d.length=2):∃a b,d=[a,b]:=by
 obtain⟨a,t,rfl,e⟩:=Co f;obtain⟨b,rfl⟩:=ng e;exact⟨a,b,rfl⟩
def sS{α:Type}{d:List α}(f:d.length=3):∃a b c,d=[a,b,c]:=by
 obtain⟨a,t,rfl,e⟩:=Co f;obtain⟨b,c,rfl⟩:=eX e;exact⟨a,b,c,rfl⟩
def Er{α:Type}{e:List α}(g:e.length=4):∃a b c d,e=[a,b,c,d]:=by
 obtain⟨a,t,rfl,f⟩:=Co g;obtain⟨b,c,d,rfl⟩:=sS f;exact⟨a,b,c,d,rfl⟩
end L2
end
section
namespace VS
open PySem PySem.Spec PyProof.Rows L2
inductive Res where | ok (v:Val) | ex (x:Str)
inductive RQ where | ok (o:Out) | ex (x:Str) (U:VS.Env)
abbrev ExX:=VS.Env->Option Res
abbrev SxX:=VS.Env->Option RQ
end VS
end
section
namespace VS
open PySem PySem.Spec PyProof.Rows L2 PySem.F
section
variable{K:X3}
noncomputable def zx:Fn:=λa=>match a with
 |[.scr _]=>Z (.fr,.bl M)
 |_=>Y
end
end VS
end
section
namespace TS
open PySem PySem.Spec PyProof.Rows
def vb(o:∀v∈f,∃x t,v=Value.str x t){d:Array PP}(g:d.Perm (pairsOf f))(p:SortedToK strKind d (pairsOf f).size):((d.map (·.2)).toList.map strOf).Pairwise (λa b=>¬b.cps.toList<a.cps.toList):=by
 obtain⟨n,m⟩:=n8 g;rw[Xd,List.pairwise_iff_getElem];intro i j r l u;have key:∀i (h:i<(d.map (·.2)).toList.length),KK strKind d i=(strOf (d.map (·.2)).toList[i]).cps.toList:=λi h=>by
  have e:d[i]?=Z ((d.map (·.2)).toList[i],(d.map (·.2)).toList[i]):=by
   rw[← Z5,← m,ZZ,Zq h];rfl
  obtain⟨x,t,ex⟩:=o _ (n.mem_iff.mp (Yy h));unfold KK;rw[e];rw[ex];rfl
 have q:=p i j (XD u) (by rw[← g.size_eq];simpa using l);rw[key i r,key j l]at q;exact of_decide_eq_false q
def gR{A:Re}(u:∀(q:Re)(z:Z1),q.handled=A.handled->On (IR prog w) q (collect x) (λf s1=>(∀v∈f,∃x t,v=Value.str x t)/\f.length<64/\∀(out:Vx)(i:SL)(e:Nat),out.Perm f->(out.map strOf).Pairwise (λa b=>¬b.cps.toList<a.cps.toList)->(∀b o,s1.heap.get? b=Z o->i.get? b=Z o)->i.get? s1.heap.objs.size=Z (seqObj "list" out.toArray e)->Q (.ref s1.heap.objs.size) { s1 with heap:=i }) z s) :
  On (IR prog w) A (call (.builtin "sorted") [x]) Q E s:=by
 refine Calls.call_function_entry kind_sorted plain_sorted entry_sorted (args_sorted1 _) (show On _ _ (Builtin.«sorted» _) _ _ _ from ?_);unfold Builtin.«sorted»;refine Zy (m:=checkCount "sorted" 1 1 _) (Zr (Zy (Y3 (u A.in1 (λ_ _=>False) L) ?_ λ_ _ e=>e.elim)));rintro d s1 ⟨g,y,h⟩;refine Zy (wpAny_newList ?_ (by show d.length<=KB;rw[Xe];omega));have j:(s1.heap.push (seqObj "list" d.toArray 0)).get? s1.heap.objs.size=Z (seqObj "list" d.toArray 0):=Zh _ L;show On _ _ _ _ _ { s1 with heap:=s1.heap.push (seqObj "list" d.toArray 0) };refine Zy (Yp (YO slot_list_sort ⟨_,j,rfl⟩ entry_list_sort (list_sort_treeK strKind_oneLt j (strsAre_map _ g).keysOf (λD C rest e=>keyKind_strs (by rw[← e];exact strsAre_map _ g)) y λl p r=>⟨_,rfl,?_⟩) (args_list_sort _)));obtain⟨e,he⟩:=sortedHeap_at (out:=(arrOf l).map (·.2)) j;exact Zr ⟨_,rfl,h ((arrOf l).map (·.2)).toList _ e (n8 p).1 (vb g p r) (λb o n=>by
  have hb:=Za n;show (sortedHeap (s1.heap.push (seqObj "list" d.toArray 0)) s1.heap.objs.size d ((arrOf l).map (·.2))).get? b=Z o;rw[sortedHeap_old (Zg hb) (by rw[size_push'];exact YY hb),Heap.get?_push_ne _ _ _ (Zg hb)];exact n) he⟩
end TS
namespace L2
open PySem PySem.Spec PyProof.Rows TS
section
variable{X:Cx}
def ji(hc:X.calm=M):cB X (.builtin "sorted") (λC H Q=>∃p,∃(d:List Str)(j:List V),C=[.ref p]/\d.length<64/\d.length=j.length/\H p=Z (.dK ((d.map Sum.inr).zip j)) ∧
  ∀(l:KF)(A:List Str),H l=Y->A.Perm d->A.Pairwise (λa b=>¬b.cps.toList<a.cps.toList)->Q (.ref l) (upd H l (.lst (A.map V.str)))):=by
 intro f s J H C us Q I N h;obtain⟨p,d,j,rfl,MI,U,S,q⟩:=h;obtain⟨u,rfl,O⟩:=N.one;cases O;obtain⟨R,hS,z,rel,r⟩:=rj I.xt S;obtain⟨ep,r⟩:=r.dictAt;have Vi:z.length=d.length:=by
  have:=rel.length;rw[Yo,Zx]at this;lia
 have Vf:∀i:Nat,(z[i]?).map (λx=>x.1)=(d[i]?).map (Sum.inr:Str->Key):=λi=>by
  have E:((z.map (·.1)))[i]?=(d.map (Sum.inr:Str->Key))[i]?:=by
   rw[← rel.keys];rw[Vz (by rw[Zx];exact XT U)]
  rw[ZZ,ZZ]at E;exact E
 refine TS.gR λA' E' hA=>PySem.W.kdu_collect (PySem.W.kdl_dict hS) (hA.trans (I.ok.hd hc)) r (by rw[Yo,Zx]at R;lia) λF D acc kp G=>?_;have L:Inv X f J H { s with heap:=F,toks:=D }:=I.kept kp;have VM:acc.toList.length=d.length:=by rw[ZC,G.1,Vi]
 have each:∀i v,acc.toList[i]?=Z v->∃x t,v=Value.str x t/\d[i]?=Z x:=λi v g=>by
  rw[Z5]at g;obtain⟨k,x,e1,e2⟩:=G.2 i v g;have e3:=Vf i;rw[e1]at e3;cases o:d[i]? with
  |none=>rw[o]at e3;cases e3
  |some y =>
   rw[o]at e3;have e5:k=Sum.inr y:=Zk e3;subst e5;obtain⟨t,rfl⟩:=W7 (show Value.isStrOf y v=M from e2);exact⟨y,t,rfl,o⟩
 have g:∀v∈acc.toList,∃x t,v=Value.str x t:=λv n=>by
  obtain⟨i,hi,e⟩:=List.getElem_of_mem n;obtain⟨x,t,e1,_⟩:=each i v (by rw[Zq hi,e]);exact⟨x,t,e1⟩
 have es:acc.toList.map strOf=d:=by
  apply Wo;intro i;rw[ZZ];cases e:acc.toList[i]? with
  |none =>
   have:acc.toList.length<=i:=Yb.mp e;rw[Yb.mpr (by lia)];rfl
  |some v =>
   obtain⟨x,t,rfl,e1⟩:=each i v e;rw[e1];rfl
 refine⟨g,by omega,λout h2 e m P LG he=>?_⟩;have NS:∀v∈out,∃x t,v=Value.str x t:=λv n=>g v (m.mem_iff.mp n);have Qz:((out.map strOf).map V.str).length<=sizeLine:=by rw[Zx,Zx,m.length_eq,VM,Xe];omega
 exact⟨.ref F.objs.size,_,L.laid (t':=D) LG (Zl _) (show bF X.prog X.w _ h2 _ (.lst ((out.map strOf).map V.str)) from⟨Qz,out,e,mH NS,he⟩),rfl,q _ _ (L.xt.fresh (Zl _)) (by rw[← es];exact m.map _) P⟩
end
end L2
namespace VS
open PySem PySem.Spec PyProof.Rows L2
section
variable{X:Cx}
def gq:Vq->Vp
 |[(_,.dct 0 l)]=>(strs? (l.map (·.1))).bind λa=>if a.length<64/\a.all Pz=M then Z (.fr,.lst ((cy a).map .str)) else Y
 |_=>Y
def yK:dW G (λq H Q=>∃p,∃(d:List Str)(f:List V),q=[.ref p]/\d.length<64/\d.length=f.length/\H p=Z (.dK ((d.map Sum.inr).zip f)) ∧
  ∀(l:KF)(h:List Str),H l=Y->h.Perm d->h.Pairwise (λa b=>¬b.cps.toList<a.cps.toList)->Q (.ref l) (upd H l (.lst (h.map V.str)))) gq:=by
 intro O U E H l f C m t Q A e k;unfold gq at e;split at e
 ·rename_i D x;obtain⟨d,e1,e2⟩:=Zz.mp e;split at e2
  ·rename_i hb;cases e2;obtain⟨v,F,rfl,rfl,r⟩:=(show RpL G H f [.dct 0 x] C from A.rp).one;obtain⟨a,g,o,i,Gs,rfl,rfl,y,j,rfl,u⟩:=dD r;have z:g.length=i.length:=by rw[j,u.len.1]
   have e3:((g.map aQ).zip i).map (·.1)=g.map aQ:=Vz (by rw[Zx];exact XT z);rw[e3]at e1;have n:=keys_str e1;refine⟨a,d.map sx,o,rfl,by rw[Zx];exact hb.1,?_,by rw[← n];exact y,lD k A.same λs w=>B6 (Z6.mp hb.2 s w)⟩;rw[← j,n,Zx,Zx,Zx]
  ·cases e2
 ·cases e
def ui(a:X.mg "sorted" = Y)(f:GY G X [e] cs)(b:{`q2,Gl X "sorted"})(g:{`q2,X.K=G.K})(d:{`q2,X.calm=M})(he:{`q2,K1 e [] X}):PV G X (.Call (.Name "sorted" p) [e] [] pos) (eN gq cs) :=
 gx (ji d) yK b a kj f (he:=he) (hpl:=rfl)
end
noncomputable def Lb:T->Bool
 |.bl true=>M
 |_=>B
mutual
def eV:T->Bool
 |.tup l=>dz l
 |.lst l=>dz l
 |.dct _ l=>qb l
 |.obj _ l=>dA l
 |_=>M
def dz:Vo->Bool
 |[]=>M
 |t :: r=>eV t&&dz r
def qb:List (T×T)->Bool
 |[]=>M
 | (_,v) :: r=>eV v&&qb r
def dA:List (Nat×T)->Bool
 |[]=>M
 | (n,v) :: r=>(eV v && !(n==0&&Lb v))&&dA r
end
theorem gz:∀{b:Vo}{a:Vo},b.length=a.length->qb (b.zip a)=M->dz a=M
 |[],[],_,_=>rfl
 |_ :: _,[],h,_=>nomatch h
 |[],_ :: _,h,_=>nomatch h
 |k :: b,t :: a,h,e=>by
  have e:=Ze.mp (show (eV t&&qb (b.zip a))=M from e);exact Ze.mpr ⟨e.1,gz (WB h) e.2⟩
theorem dS:∀{b:Vv}{a:Vo},b.length=a.length->dA (b.zip a)=M->dz a=M
 |[],[],_,_=>rfl
 |_ :: _,[],h,_=>nomatch h
 |[],_ :: _,h,_=>nomatch h
 |k :: b,t :: a,h,e=>by
  have e:=Ze.mp (show ((eV t && !(k==0&&Lb t))&&dA (b.zip a))=M from e);exact Ze.mpr ⟨(Ze.mp e.1).1,dS (WB h) e.2⟩
section
theorem Rp.at{v:V}(m:Me)(r:Rp G H v t F):eV t=M->Rp (G.at m) H v t F :=
 Rp.rec (G:=G) (H:=H) (motive_1:=λv t F _=>eV t=M->Rp (G.at m) H v t F) (motive_2:=λg e j _=>dz e=M->RpL (G.at m) H g e j)
  (λ_=>.non) (λb _=>.bl b) (λi _=>.int i) (λs h _=>.str s h) (λh _=>.scr h) (λh _ d f=>.tup h (d f)) (λh _ d f=>.lst h (d f))
  (λh l q d f=>.dct h l (d (gz (by rw[Zx,l];exact q.len.1) f))) (λh l q d f=>.dctT h l (d (gz (by rw[Zx,l];exact q.len.1) f)))
  (λh l n q d f=>.dctN h l n (d (gz (by rw[Zx,l];exact q.len.1) f))) (λh l q d f=>.dctZ h l (d (gz (by rw[Zx,l];exact q.len.1) f))) (λh w _=>.exc h w)
  (λ{c a A b o g e j} h l y q d f=>by
   have f:=Ze.mp (show ((eV (.bl b) && !((0:Nat)==0&&Lb (.bl b)))&&dA (o.zip e))=M from f);have hb:b=B:=by
    cases b with
    |false=>rfl
    |true=>exact nomatch f.1
   refine .ins h l (λz=>?_) (d (dS (by rw[l];exact q.len.1) f.2));rw[hb]at z;cases z)
  (λ_ _ _ f=>nomatch f)
  (λ_=>.nil) (λ_ _ u p f=>by
   have f:=Ze.mp f;exact .cons (u f.1) (p f.2)) r
theorem RpL.at(m:Me):∀{b:List V}{a:Vo}{d:Xq},RpL G H b a d->dz a=M->RpL (G.at m) H b a d
 |_,_,_,.nil,_=>.nil
 |_,_,_,.cons r q,f=>by
  have f:=Ze.mp f;exact .cons (r.at m f.1) (RpL.at m q f.2)
mutual
theorem m6:∀t:T,FZ t=M->eV t=M
 |.non,_=>rfl
 |.bl _,_=>rfl
 |.int _,_=>rfl
 |.str _,_=>rfl
 |.scr _,_=>rfl
 |.tup l,h=>ud l h
 |.lst _,h=>by cases h
 |.dct _ _,h=>by cases h
 |.obj _ _,h=>by cases h
theorem ud:∀l:Vo,cL l=M->dz l=M
 |[],_=>rfl
 |t :: l,h=>by
  have h:=Ze.mp h;exact Ze.mpr ⟨m6 t h.1,ud l h.2⟩
end
end
def oS(k:Nat):T->Option T
 |.obj (_+1) (_ :: fs)=>(fs.findIdx? λp=>p.1==k).bind λi=>(fs[i]?).map (·.2)
 |_=>Y
def aW(k:Nat)(a:Ex):Ex:=λU=>(a U).bind λx=>(oS k x.2).map λt=>sub x.1 t
section
variable{X:Cx}
def w_fld(Jq:jq G)(F:G6 G X.K k f)(ha:PV G X a ca)(C:{`q7,UF a f X.env (eval a X.env)=eval a X.env}):PV G X (.Attribute a f pos) (aW k ca) :=
 PE.weak (yS ha C) λJ H Q hq=>by
  obtain⟨O,U,m,t,s,e,kq⟩:=hq;unfold aW at e;obtain⟨⟨mx,y⟩,ea,e1⟩:=Zz.mp e;obtain⟨z,d,e2⟩:=Zs.mp e1;refine⟨O,U,mx,y,s,ea,λv H' F' sm r1 f1=>?_⟩;unfold oS at d;split at d
  ·rename_i c q0 fs w;dsimp only at w;subst w;obtain⟨j,E,e3⟩:=Zz.mp d;obtain⟨p,D,e4⟩:=Zs.mp e3;subst e4;obtain⟨c',a,dx,b,ns,vs,q,Fs,ec,rfl,rfl,rfl,rfl,hA,A,C,r⟩:=dI r1;cases ec;have Jz:ns.length=q.length:=A.trans r.len.1;obtain⟨l,g,N,L,g3,g4⟩:=jM (λn=>n==k) Jz E;have ek:l=k:=by simpa using g3
   subst ek;have ep:p=(l,g):=by
    have:(ns.zip q)[j]?=Z (l,g):=by rw[Y0];exact⟨N,L⟩
    rw[this]at D;exact(Zk D).symm
   subst ep;obtain⟨u,Fi,S,R,h⟩:=r.get j L;have P:=qW (G:=G) (c:=c+1) Jq A E N S;rw[F.nm c]at P;refine⟨a,_,dx,_,u,rfl,hA,F.cl c,F.no c,P,?_⟩;have fp:=((f1.sub (Yw _ _)).sub (cN R)).up h;unfold VS.sub at e2;rw[e2]at fp;have et:g=t:=congrArg Prod.snd e2;rw[et]at h;exact kq u H' Fi sm h fp
  ·cases d
def iq(i k:Nat)(e:Ex)(U:VS.Env):Option Out:=(e U).bind λv=>match U[i]? with
 |some (some (.ow (.obj (c+1) (q :: fs))))=>(fit v).bind λt=>if fs.length<900/\(fs.all λp=>!(p.1==k))=M then Z (.nx (U.set i (Z (.ow (.obj (c+1) (q :: (fs++[(k,t)]))))))) else Y
 |_=>Y
theorem qZ{g:Nat->Str}{k:Nat}{v:V}(n:∀k m:Nat,g k=g m->k=m):∀{b:Vv}{d:List V}{j:Vo},b.length=d.length->b.length=j.length->((b.zip j).all λp=>!(p.1==k))=M->hV (g k) v ((b.map g).zip d)=((b++[k]).map g).zip (d++[v])
 |[],[],_,_,_,_=>rfl
 |[],_ :: _,_,h,_,_=>by simp at h
 |_ :: _,[],_,h,_,_=>by simp at h
 |_ :: _,_ :: _,[],_,h,_=>by simp at h
 |q :: b,t :: d,u :: j,s,r,l=>by
  rw[ZV,X7,Yg]at l;have ne:g q≠g k:=λz=>by
   have:=n _ _ z;subst this;simp at l
  rw[Zi,ZV,hV,Zm ne,qZ n (by simpa using s) (by simpa using r) l.2];rfl
def kh{pos:Pos}(i k:Nat)(Jq:jq G)(F:G6 G X.K k f)(he:PV G X e ce)(hN:{`q7,X.N[i]?=Z x})(hv:HU X.env.scope x:=by exact .inl L)(hd:{`q7,K3 x})(C:{`q7,K4 x})(hs:{`q7,swapsWith e (Z (.Attribute (.Name x p1) f pos')) pos.line X.env=pure B}):PSV G X (.Assign [.Attribute (.Name x p1) f pos'] e pos) (iq i k ce) :=
 PS.weak (Ca (eQ hN hv hd C) he hs) λD J H hq=>by
  obtain⟨O,U,out,s,e,kq⟩:=hq;unfold iq at e;obtain⟨⟨mv,h⟩,ev,e⟩:=Zz.mp e;split at e
  ·rename_i c q0 fs w;obtain⟨t,et,e⟩:=Zz.mp e;have em:=lu et;cases em;split at e
   ·rename_i l;cases e;obtain⟨v,g1,g2⟩:=s.rp _ _ w;refine⟨O,U,.fr,h,s,ev,λy Q S q ry n=>⟨v,g1,?_⟩⟩;obtain⟨c',a,P,b,ns,p,j,Fs,ec,rfl,rfl,rfl,eF,E,A,hb,r⟩:=dI g2;cases ec;have nd:=s.nd i _ w;rw[eF]at nd;have R:=Zd.mp nd;have Tc:Q a=Z (.ins (G.ct (c+1)).1 P ((ns.map (G.ct (c+1)).2).zip p)):=q a _ E;have u:Gk (Q a):=by rw[Tc];exact True.intro
    have Jz:ns.length=j.length:=A.trans r.len.1;have na:a∉S:=λz=>by rw[n.2 a z]at E;cases E
    have ln:((ns.map (G.ct (c+1)).2).zip p).length<1000:=by
     have:=l.1;rw[Yo]at this ⊢;rw[Zx];lia
    refine⟨a,_,P,_,rfl,Tc,F.cl c,F.no c,ln,?_⟩;have ep:=qZ (g:=(G.ct (c+1)).2) (k:=k) (v:=y) (Jq (c+1)) A Jz l.2;rw[F.nm c]at ep;rw[ep];have off:∀d∈Fs.flatten,d∉S:=λd hb hw=>Gk.p0 (r.GF d hb) (n.2 d hw);have g:Chg G H (.ref a) (O i) (.obj (c+1) ((0,.bl b) :: (ns.zip j++[(k,h)]))) (upd Q a (.ins (G.ct (c+1)).1 P (((ns++[k]).map (G.ct (c+1)).2).zip (p++[y])))) (a :: (Fs++[S]).flatten):=by
     rw[eF,show ns.zip j++[(k,h)]=(ns++[k]).zip (j++[h]) from by rw[List.zip_append Jz];rfl];refine Chg.upd q Zu u (.ins ay (by simp[A]) hb (((r.same q).off u R.1).append (.cons (ry.keep (Kept.upd (.inl u)) λd hb o ho=>by rw[aE (λz=>na (by rw[← z];exact hb))];exact ho) .nil))) ?_ ?_
     ·rw[Yf];refine Zd.mpr ⟨λm=>?_,ZQ.mpr ⟨R.2,by simpa using n.1,λb hb c l z=>?_⟩⟩
      ·rcases ZW.mp m with m | m
       ·exact R.1 m
       ·exact na (by simpa using m)
      ·subst z;exact off b hb (by simpa using l)
     ·intro d hb;rcases Zj.mp hb with rfl | hb
      ·exact .inl Zu
      ·rw[Yf]at hb;rcases ZW.mp hb with hb | hb
       ·exact .inl (Zt _ hb)
       ·exact .inr (n.2 d (by simpa using hb))
    obtain⟨z1,z2⟩:=s.mut w g1 g;exact kq _ J _ z1 z2
   ·cases e
  ·cases e
end
noncomputable abbrev qQ:=List (Nat×T)
noncomputable def Iu(a:KF):Me:=λk=>if k=0 then Z (.ref a) else Y
abbrev Mt:=qQ->Vo->Option (qQ×T)
noncomputable def Hi:List Bool->Xq->W6
 |b :: bs,F :: a=>(if b then F else [])++Hi bs a
 |_,_=>[]
noncomputable def Jy:List Bool->Xq->W6
 |b :: bs,F :: a=>(if b then [] else F)++Jy bs a
 |_,_=>[]
theorem gg:∀{f:List Bool}{e:Xq}{j:Nat}{F:W6},f[j]?=Z M->e[j]?=Z F->F.Sublist (Hi f e)
 |[],_,_,_,h,_=>by simp at h
 |_ :: _,[],_,_,_,h=>by simp at h
 |b :: bs,g :: e,0,F,d,a=>by
  simp at d a;subst d a;rw[Hi,Zn L];exact List.sublist_append_left _ _
 |b :: bs,g :: e,j+1,F,d,a=>by
  rw[Hi];exact(gg (by simpa using d) (by simpa using a)).trans (YA _ _)
theorem pM:∀{f:List Bool}{e:Xq}{j:Nat}{F:W6},f[j]?=Z B->e[j]?=Z F->F.Sublist (Jy f e)
 |[],_,_,_,h,_=>by simp at h
 |_ :: _,[],_,_,_,h=>by simp at h
 |b :: bs,g :: e,0,F,d,a=>by
  simp at d a;subst d a;rw[Jy];exact List.sublist_append_left _ _
 |b :: bs,g :: e,j+1,F,d,a=>by
  rw[Jy];exact(pM (by simpa using d) (by simpa using a)).trans (YA _ _)
theorem tY:∀{o:List Bool}{d:Xq}{i j:Nat}{F m:W6},(Hi o d).Nodup->o[i]?=Z M->o[j]?=Z M->d[i]?=Z F->d[j]?=Z m->i≠j->∀a∈F,a∉m
 |[],_,_,_,_,_,_,h,_,_,_,_=>by simp at h
 |_ :: _,[],_,_,_,_,_,_,_,h,_,_=>by simp at h
 |b :: bs,r :: d,0,0,F,m,_,_,_,_,_,n=>absurd L n
 |b :: bs,r :: d,0,j+1,F,m,nd,l,g,f,e,n=>λa p q=>by
  simp at l f;subst l f;rw[Hi,Zn L,ZQ]at nd;exact nd.2.2 a p a ((gg (by simpa using g) (by simpa using e)).subset q) L
 |b :: bs,r :: d,i+1,0,F,m,nd,l,g,f,e,n=>λa p q=>by
  simp at g e;subst g e;rw[Hi,Zn L,ZQ]at nd;exact nd.2.2 a q a ((gg (by simpa using l) (by simpa using f)).subset p) L
 |b :: bs,r :: d,i+1,j+1,F,m,nd,l,g,f,e,n=>by
  rw[Hi,ZQ]at nd;exact tY nd.2.1 (by simpa using l) (by simpa using g) (by simpa using f) (by simpa using e) (by lia)
theorem uh:∀{e:List Bool}{d:Xq}{a:KF},a∈Hi e d->∃(j:Nat)(F:W6),e[j]?=Z M/\d[j]?=Z F/\a∈F
 |[],_,_,h=>by simp[Hi]at h
 |_ :: _,[],_,h=>by simp[Hi]at h
 |b :: bs,l :: d,a,h=>by
  rw[Hi]at h;rcases ZW.mp h with h | h
  ·cases b with
   |true=>exact⟨0,l,rfl,rfl,h⟩
   |false=>simp at h
  ·obtain⟨j,F,i,g,f⟩:=uh h;exact⟨j+1,F,by simpa using i,by simpa using g,f⟩
noncomputable def lQ(b:Bool)(t:T):Vr:=Z (if b then .ow t else .pu t)
def xT(c:Nat)(U:VS.Env):Option qQ:=match (U[(0:Nat)]?:Option (Vr)) with
 |some (some (.ow (.obj a ((0,.bl true) :: fs))))=>if a=c+1 then Z fs else Y
 |_=>Y
def HG(c d f:Nat)(e:List Bool)(body:Sx):Mt:=λfs a=>if a.length+1=d/\e.length=a.length then
 (body ((Z (.ow (.obj (c+1) ((0,.bl M) :: fs))) :: List.zipWith lQ e a)++List.replicate (f-d) Y)).bind λo=>match o with
  |.rt v U=>(xT c U).bind λb=>if FZ v.2 then Z (b,v.2) else Y
  |.nx U=>(xT c U).map λb=>(b,.non)
  |_=>Y else Y
def Jx(G:Gx)(c:Nat)(d:List Bool)(g:Mt):Sp:=λl H Q _=>∃(a:KF)(i:List V)(fs:qQ)(f:Vo)(F:W6)(e:Xq)(j:qQ)(x:T),l=.ref a :: i/\Rp (G.at (Iu a)) H (.ref a) (.obj (c+1) ((0,.bl M) :: fs)) F ∧
 RpL (G.at (Iu a)) H i f e/\d.length=f.length/\(F++Hi d e).Nodup/\(∀b∈F++Hi d e,b∉Jy d e)/\g fs f=Z (j,x) ∧
 ∀u h m,Chg (G.at (Iu a)) H (.ref a) (F++Hi d e) (.obj (c+1) ((0,.bl M) :: j)) h m->Rp (G.at (Iu a)) h u x []->Q u h
section
def vK{g:List Bool}(r0:Rp G H v t F)(r:RpL G H J d f)(hm:g.length=d.length)(y:(F++Hi g f).Nodup)(X:∀b∈F++Hi g f,b∉Jy g f)(n nv:Nat)(hn:nv=J.length+1) :
  SR G (λi=>(F :: f).getD i []) ((Z (.ow t) :: List.zipWith lQ g d)++List.replicate (n-(d.length+1)) Y) ((v :: J).map Z++List.replicate (n-nv) Y) H ∧
  ∀a,bW (λi=>(F :: f).getD i []) ((Z (.ow t) :: List.zipWith lQ g d)++List.replicate (n-(d.length+1)) Y) a->a∈F++Hi g f:=by
 subst hn;have hl:=r.len;have O:(List.zipWith lQ g d).length=d.length:=by rw[List.length_zipWith,hm,XE]
 have back:∀{i:Nat}{c:Cell},((Z (Cell.ow t) :: List.zipWith lQ g d)++List.replicate (n-(d.length+1)) Y)[i]?=Z (Z c)->(i=0/\c=.ow t)\/∃(j:Nat)(b:Bool)(u:T),i=j+1/\g[j]?=Z b/\d[j]?=Z u/\c=(if b then .ow u else .pu u):=λ{i c} h=>by
  cases i with
  |zero=>exact .inl ⟨rfl,(Zk (Zk h)).symm⟩
  |succ j =>
   rw[Wh,Xs]at h;by_cases N:j<d.length
   ·rw[ZA (by rw[O];exact N),List.getElem?_zipWith]at h;have e1:g[j]?=Z g[j]:=Zq (by rw[hm];exact N);have e2:d[j]?=Z d[j]:=Zq N;rw[e1,e2]at h;exact .inr ⟨j,_,_,rfl,e1,e2,(Zk (Zk h)).symm⟩
   ·rw[Ys (by rw[O];exact ZL N),YI]at h;split at h<;>cases h
 have fp:∀{j:Nat}{u:T},d[j]?=Z u->∃w s,J[j]?=Z w/\f[j]?=Z s/\Rp G H w u s:=λ{j u} h=>r.get j h;have ow:∀{i:Nat}{u:T},((Z (Cell.ow t) :: List.zipWith lQ g d)++List.replicate (n-(d.length+1)) Y)[i]?=Z (Z (.ow u))->i=0\/∃j:Nat,i=j+1/\g[j]?=Z M/\d[j]?=Z u:=λ{i u} h=>by
  rcases back h with⟨p,l⟩ | ⟨j,b,U,p,l,o,A⟩
  ·exact .inl p
  ·cases b with
   |true=>cases A;exact .inr ⟨j,p,l,o⟩
   |false=>cases A
 rw[ZQ]at y;refine⟨⟨?_,λi c h=>?_,λi u h=>?_,λi j u c p l n=>?_⟩,λa ⟨i,u,p,l⟩=>?_⟩
 ·simp[O];lia
 ·rcases back h with⟨rfl,rfl⟩ | ⟨j,b,u,rfl,l,o,A⟩
  ·exact⟨v,rfl,r0⟩
  ·obtain⟨w,s,C,e,D⟩:=fp o;refine⟨w,?_,?_⟩
   ·rw[Zi,Wh,Xs,ZA (by rw[Zx];exact(Zc.mp C).1),ZZ,C];rfl
   ·show Rp G H w (i8 c) ((F :: f).getD (j+1) []);rw[Xz,Zv,e,A];cases b<;>exact D
 ·rcases ow h with rfl | ⟨j,rfl,l,o⟩
  ·exact y.1
  ·obtain⟨w,s,C,e,D⟩:=fp o;show ((F :: f).getD (j+1) []).Nodup;rw[Xz,Zv,e];exact y.2.1.sublist (gg l e)
 ·rcases ow p with rfl | ⟨i',rfl,S,a3⟩
  ·rcases back l with⟨rfl,_⟩ | ⟨Q,b,U,rfl,E,R,_⟩
   ·exact absurd L n
   ·obtain⟨w,s,C,e,D⟩:=fp R;intro a m;show a∉(F :: f).getD (Q+1) [];rw[Xz,Zv,e];intro q;cases b with
    |true=>exact y.2.2 a m a ((gg E e).subset q) L
    |false=>exact X a (Yq _ m) ((pM E e).subset q)
  ·obtain⟨w,Fi,C,e,D⟩:=fp a3;have ei:(F :: f).getD (i'+1) []=Fi:=by rw[Xz,Zv,e];rfl
   show ∀a∈(F :: f).getD (i'+1) [],_;rw[ei];rcases back l with⟨rfl,_⟩ | ⟨Q,b,U,rfl,E,R,_⟩
   ·exact λa m q=>y.2.2 a q a ((gg S e).subset m) L
   ·obtain⟨w',s,k1,P,k3⟩:=fp R;intro a m;show a∉(F :: f).getD (Q+1) [];rw[Xz,Zv,P];intro q;cases b with
    |true=>exact tY y.2.1 S E e P (λz=>n (by rw[z])) a m q
    |false=>exact X a (ZP _ ((gg S e).subset m)) ((pM E P).subset q)
 ·rcases ow p with rfl | ⟨j,rfl,o,A⟩
  ·exact Yq _ l
  ·obtain⟨w,s,C,e,D⟩:=fp A;have KL:a∈(F :: f).getD (j+1) []:=l;rw[Xz,Zv,e]at KL;exact ZP _ ((gg o e).subset KL)
def yp(h:xT c U=Z a):U[0]?=Z (Z (.ow (.obj (c+1) ((0,.bl M) :: a)))):=by
 unfold xT at h;split at h
 ·rename_i d f e;split at h
  ·rename_i b;cases h;rw[e,b]
  ·cases h
 ·cases h
end
section
variable{K:X3}
def Ek{G:Gx}{X:List Str}(ok:∀{sp:Sp},(∀j H Q E,sp j H Q E->j.length=X.length)->(∀(p:KM)(A:Re)(outer:List PySem.Env)(s:GM)(H:Hp)(j:List V)(Q:VK)(E:XK),pe k (A.deeper (envOfC d (ai C) s.heap.objs.size f p))->sp j H Q E →
   ∃t,HJ (i7 GX P w K mg base N d (ai C) f p A outer s H E).IV (aZ C) t/\t { nx:=λ_ g=>Q .non g,rt:=Q } (L2.start N j) H)->FnOk P w K mg base GX (k+1) f fd X sp)(hp:X.length=np)(hn:N.length=O)(hb:∀(a:KF)(p:KM)(A:Re)(outer:List PySem.Env)(s:GM)(H:Hp)(E:XK),pe k (A.deeper (envOfC d (ai C) s.heap.objs.size f p))->iw (G.at (Iu a)) (i7 GX P w K mg base N d (ai C) f p A outer s H E).IV (aZ C) l) :
  FnOk P w K mg base GX (k+1) f fd X (Jx G c mv (HG c np O mv l)):=by
 refine ok (λj H Q E h=>?_) λp A outer s H j Q E hr h=>?_
 ·obtain⟨a,J,fs,ts,F,Fs,Hy,y,rfl,r0,r,hm,nd,sp,e,q⟩:=h;unfold HG at e;split at e
  ·rename_i hl;rw[ZX,r.len.1,hl.1,hp]
  ·cases e
 ·obtain⟨a,J,fs,ts,F,Fs,Hy,y,rfl,r0,r,hm,nd,sp,e,q⟩:=h;refine⟨_,hb a p A outer s H E hr,?_⟩;unfold HG at e;split at e
  ·rename_i hl;obtain⟨o,e1,e2⟩:=Zz.mp e;obtain⟨s0,KA⟩:=vK r0 r hm nd sp O (J.length+1) L;rw[hl.1]at s0 KA;have e3:L2.start N (V.ref a :: J)=(V.ref a :: J).map Z++List.replicate (O-(J.length+1)) Y:=by
    unfold L2.start;rw[hn];rfl
   rw[e3];have fin:∀{m:VS.Env}{n:Gn}{J':L2.St}{g:Hp},xT c m=Z Hy->SR (G.at (Iu a)) n m J' g->GU (λi=>(F :: Fs).getD i []) ((Z (.ow (.obj (c+1) ((0,.bl M) :: fs))) :: List.zipWith lQ mv ts)++List.replicate (O-np) Y) H n m g →
     Chg (G.at (Iu a)) H (.ref a) (F++Hi mv Fs) (.obj (c+1) ((0,.bl M) :: Hy)) g (n 0):=λ{m n J' g} Mw D fr=>by
    have h0:=yp Mw;obtain⟨v',g1,g2⟩:=D.rp 0 _ h0;have LU:Rp (G.at (Iu a)) g v' (.obj (c+1) ((0,.bl M) :: Hy)) (n 0):=g2;obtain⟨c',a',dx,b,ns,j,HC,Hr,ec,rfl,eb,_,eF,hA,M5,U,ra⟩:=dI LU;have JF:b=M:=by cases eb;rfl
    have ea:Z (V.ref a)=Z (V.ref a'):=U JF;cases ea;refine⟨fr.kept,λS o' U ho=>(fr.keep S o' ho λz=>U (KA S z)).1,fr.GF,LU,D.nd 0 _ h0,λS U=>?_⟩;rcases fr.ow S ⟨0,_,h0,U⟩ with z | z
    ·exact .inl (KA S z)
    ·exact .inr z
   refine⟨_,_,o,s0,e1,?_⟩;cases o with
   |nx m =>
    obtain⟨V3,e4,R⟩:=Zs.mp e2;cases R;intro n J' g D fr;exact q .non g _ (fin e4 D fr) .non
   |rt v m =>
    obtain⟨V3,e4,R⟩:=Zz.mp e2;split at R
    ·rename_i hi;cases R;intro u g F' n J' D fr r' rf;have:=r'.FZ hi;subst this;exact q u g _ (fin e4 D fr) r'
    ·cases R
   |bk m=>cases e2
   |ct m=>cases e2
  ·cases e
def Tf{G:Gx}(F:Gv K x d g f n)(S:gV N h (ai g))(p:h.length=i)(q:N.length=j)(r:∀(a:KF)(o:KM)(A:Re)(outer:List PySem.Env)(s:GM)(H:Hp)(E:XK),pe k (A.deeper (envOfC d (ai g) s.heap.objs.size f o))->iw (G.at (Iu a)) (i7 GX P w K mg base N d (ai g) f o A outer s H E).IV (aZ g) e) :
  FnOk P w K mg base GX (k+1) f n h (Jx G c m (HG c i j m e)):=Ek (λl b=>F.ok S l b) p q r
structure JJ(K:X3)(x qual:Str)(st:Stmt)(f:KF)(fd:Pv):Prop where
 ex:∃(T:KF)(oc:KM)(od:Option KF)(kV doc pm:KM)(an:Option KF)(Ga ct:KM)(ID:Array (Vw))(o:Obj)(n:Nat),
  fd=PySem.W.fnOf x qual (cE st) (aZ st) (ai st) (.ref T) kV doc pm an Ga ct/\K.lookup f=some ⟨oc,od,.func fd,ID⟩/\PySem.W.codeIn K Ga qual=true/\K.lookup T=some o/\o.data=.seq #[.none] n
 kp:PySem.W.keepIn K (.ref f)=true
def JJ.ok(F:JJ K x a d f m)(S:gV N i (ai d))(j:∀b H Q E,g b H Q E->b.length=i.length)(u:∀(e:KM)(A:Re)(outer:List PySem.Env)(s:GM)(H:Hp)(b:List V)(Q:VK)(E:XK),pe k (A.deeper (envOfC a (ai d) s.heap.objs.size f e))->g b H Q E →
   ∃t,HJ (i7 GX P w K mg base N a (ai d) f e A outer s H E).IV (aZ d) t/\t { nx:=λ_ v=>Q .non v,rt:=Q } (L2.start N b) H):FnOk P w K mg base GX (k+1) f m i g:=by
 obtain⟨T,oc,y,kV,doc,pm,an,e,ct,z,o,n,rfl,lk,l,_⟩:=F.ex;refine Bl lk l S j λA outer s H b Q E p r=>?_;obtain⟨t,h,q⟩:=u e A outer s H b Q E p r;exact⟨t,h.IV,q⟩
def JJ.binds{e:List Str}(F:JJ K x a d f j)(h:∀(s:GM)(T:KF)(kV doc pm:KM)(an:Option KF)(g ct:KM)(o:Obj)(n:Nat)(b:Vx),K.In s.heap->K.lookup T=Z o->o.data=.seq #[.none] n->b.length=e.length->BindsTo s (PySem.W.fnOf x a (cE d) (aZ d) (ai d) (.ref T) kV doc pm an g ct) ⟨b,[]⟩ (e.zip b)):Binds K j e []:=by
 obtain⟨T,oc,q,kV,doc,pm,an,g,ct,r,o,n,rfl,lk,p,m,l⟩:=F.ex;intro s b X i;rw[ZE]at i ⊢;exact h s T kV doc pm an g ct o n b X m l i
end
def argsOk:List Bool->Vq->Bool
 |[],[]=>M
 |b :: bs,v :: a=>(if b then v.1 == .fr else FZ v.2)&&argsOk bs a
 |_,_=>B
def kN(c:Nat)(e:List Bool)(g:Mt)(a:Vq):T->Option (T×Val)
 |.obj d ((0,.bl b) :: fs)=>if d=c+1/\dA fs=M/\argsOk e a=M/\dz (trees a)=M then (g fs (trees a)).bind λz=>if dA z.1=M/\FZ z.2=M then Z (.obj d ((0,.bl b) :: z.1),(.fr,z.2)) else Y else Y
 |_=>Y
def bz(i:Nat)(a:List IJ)(c:Nat)(d:List Bool)(g:Mt)(f:GG)(U:VS.Env):Option (Val×VS.Env):=match (U[i]?:Option (Vr)) with
 |some (some (.ow t))=>(keys a U).bind λe=>(f U).bind λb=>(pm (kN c d g b) e t).map λz=>(z.2,U.set i (Z (.ow z.1)))
 |_=>Y
def tX(G:Gx)(x:Xx):TE:=λJ H Q=>∃O U v b,SR G O U J H/\x U=Z (v,b)/\FZ v.2=M/\∀u a d,SR G d b J a->GU O U H d b a->Rp G a u v.2 []->Q u a
def PX(G:Gx)(X:Cx)(e:Expr)(x:Xx):Prop:=PE X e (tX G x)
theorem jy:∀{d:List Bool}{a:Vq},argsOk d a=M->d.length=a.length
 |[],[],_=>rfl
 |[],_ :: _,h=>nomatch h
 |_ :: _,[],h=>nomatch h
 |b :: bs,v :: e,h=>by
  have h:=Ze.mp h;rw[ZX,ZX,jy h.2]
theorem mw:∀{e:List Bool}{d:Vq}{Fs:Xq},argsOk e d=M->(Hi e Fs).Sublist (Ha d Fs)
 |[],[],_,_=>by simp[Hi]
 |[],_ :: _,_,h=>nomatch h
 |_ :: _,[],_,h=>nomatch h
 |b :: bs,v :: f,[],h=>by simp[Hi]
 |b :: bs,(m,t) :: f,F :: Fs,h=>by
  have h:=Ze.mp h;have a:=mw (Fs:=Fs) h.2;rw[Hi];cases b with
  |true =>
   have:m=.fr:=by simpa using h.1
   subst this;exact List.Sublist.append (XC _) a
  |false =>
   rw[Zm ZY,Y1];cases m with
   |fr=>exact a.trans (YA _ _)
   |pu=>exact a
   |bo=>exact a
theorem oI:∀{d:List Bool}{a:Vq}{f:List V}{e:Xq},argsOk d a=M->RpL G H f (trees a) e->Jy d e=[]
 |[],[],_,_,_,_=>by simp[Jy]
 |[],_ :: _,_,_,h,_=>nomatch h
 |_ :: _,[],_,_,h,_=>nomatch h
 |b :: bs,(m,t) :: i,_,_,h,r=>by
  have h:=Ze.mp h;cases r with
  |cons g q =>
   rw[Jy,oI h.2 q,ZE];cases b with
   |true=>rfl
   |false=>exact g.FZ (by simpa using h.1)
def tU(h:argsOk e d=M)(f:KW O U H d m):∀a∈Hi e m,H a=Y:=λa o=>by
 obtain⟨j,F,g,q,p⟩:=uh o;have key:∀{e:List Bool}{d:Vq}{j:Nat},argsOk e d=M->e[j]?=Z M->∃v,d[j]?=Z v/\v.1=.fr:=by
  intro e
  induction e with
  |nil=>intro d j _ h;simp at h
  |cons b bs n =>
   intro d j h g;cases d with
   |nil=>exact nomatch h
   |cons v r =>
    have h:=Ze.mp h;cases j with
    |zero =>
     simp at g;subst g;exact⟨v,rfl,by simpa using h.1⟩
    |succ j =>
     obtain⟨w,l,i⟩:=n h.2 (by simpa using g);exact⟨w,by simpa using l,i⟩
 obtain⟨v,l,i⟩:=key h g;have:=f.each j v F l q;rw[i]at this;exact this.2 a p
section
variable{X:Cx}
def pU{t:TA}(Jq:jq G)(hn:∀k,(G.ct (c+1)).2 k≠m)(ht:∀O U p J H (R:List V->Hp->Prop),SR G O U J H->cs U=Z p->(∀d l P,aJ H l->RpL G l d (trees p) P->KW O U H p P->R d l)->t J H R)(h:tX G (bz i way c mv g cs) J H Q):ub (G.ct (c+1)).1 m (Jx G c mv g) [] E (OQ G i way) t J H Q:=by
 obtain⟨O,U,v,U',s,e,M7,kq⟩:=h;unfold bz at e;split at e
 ·rename_i t0 L;obtain⟨ks,ek,e3⟩:=Zz.mp e;obtain⟨p,el,e4⟩:=Zz.mp e3;obtain⟨⟨t',x2⟩,e5,e6⟩:=Zs.mp e4;cases e6;obtain⟨v0,h1,h2⟩:=s.rp _ _ L;obtain⟨w,x,F1,x3,w1,w2,w3,q,w5⟩:=mZ ks Jq h2 (s.nd i t0 L) e5;unfold kN at q;split at q
  ·rename_i c1 b fs;split at q
   ·rename_i hc;obtain⟨rfl,JD,N,N4⟩:=hc;obtain⟨⟨Hy,y⟩,eg,e7⟩:=Zz.mp q;split at e7
    ·rename_i Km;cases e7;obtain⟨c',a,dx,b',ns,d,S,P,ec,rfl,eb,rfl,eF,hA,hl,hb,ra⟩:=dI w2;cases ec;cases eb;have Jz:ns.length=S.length:=hl.trans ra.len.1;refine⟨O,U,t0,ks,v0,.ref a,s,L,h1,ek,w1,λH1 F=>⟨a,dx,_,rfl,F a _ hA,?_,?_⟩⟩
     ·have key:∀(ns:Vv)(d:List V),((ns.map (G.ct (c+1)).2).zip d).lookup m=Y:=by
       intro ns
       induction ns with
       |nil=>intro d;simp
       |cons n ns ih =>
        intro d;cases d with
        |nil=>simp
        |cons v d =>
         rw[Zi,ZV,Yh];have:(m==(G.ct (c+1)).2 n)=B:=by
          rw[ZJ];exact λz=>hn n z.symm
         rw[this];exact ih d
      exact key ns d
     ·refine ht O U p J H1 _ (s.same F) el λus H2 Gs GS MW MK=>?_;have A:aJ H H2:=F.trans GS;have V4:KW O U H p Gs:=⟨λn v' D a1 a2=>(MK.each n v' D a1 a2).back F,MK.nd⟩
      have Mb:=tU N V4;have OW:RpL (G.at (Iu a)) H2 d S P:=(ra.same A).at (Iu a) (dS Jz JD);refine⟨a,us,ns.zip S,trees p,F1,Gs,Hy,y,by rw[ZE],?_,MW.at (Iu a) N4,?_,?_,?_,eg,λu l D r ru=>?_⟩
      ·rw[eF];exact .ins (A a _ hA) hl (λ_=>rfl) OW
      ·rw[jy N];simp[trees]
      ·refine ZQ.mpr ⟨w3,MK.nd.sublist (mw N),λj C b2 MD z=>?_⟩;subst z;exact Gk.p0 (w2.GF j C) (Mb j MD)
      ·rw[oI N MW];exact λj _ z=>nomatch z
      ·have back:Rp G l (.ref a) (.obj (c+1) ((0,.bl b) :: Hy)) D:=by
        obtain⟨c2,a2,TF,b2,O6,RY,OO,TK,MM,Oh,RH,RG,Ol,N7,G5,MD,JZ⟩:=dI r.rp;cases MM;cases Oh;subst RG;rw[Ol];exact .ins N7 G5 hb (JZ.at G.me (dS (G5.trans JZ.len.1) Km.1))
       have gG:Chg G H (.ref a) F1 (.obj (c+1) ((0,.bl b) :: Hy)) l D:=⟨(Kept.of A).trans r.kept,λj o1 C ho=>r.keep j o1 (λz=>(ZW.mp z).elim C λz=>by rw[Mb j z]at ho;cases ho) (A j o1 ho),λj h=>r.GF j λz=>h (A.free z),back,r.nd,λj C=>by
        rcases r.sub j C with z | z
        ·rcases ZW.mp z with z | z
         ·exact .inl z
         ·exact .inr (Mb j z)
        ·exact .inr (A.free z)⟩
       obtain⟨F2,g2⟩:=w5 l D gG;obtain⟨z1,z2⟩:=s.mut L h1 g2;exact kq u l _ z1 z2 (ru.at G.me (m6 y Km.2))
    ·cases e7
   ·cases q
  ·cases q
 ·cases e
def Ao(C:jq G)(q:∀k,(G.ct (c+1)).2 k≠m)(p:Jf G X o i way)(v:Hs X.K (G.ct (c+1)).1)(r:Meth X.K (G.ct (c+1)).1 m f)(F:FnOk X.prog X.w X.K X.mg X.base GX k f fd ps (Jx G c mv g))(n:pe k' X.A)(u:k<=k')(y:Binds X.K fd ps [])(z:GY G X (e :: es) cs)(D:K1 e es X)(a:K2 pos es X)(l:eval (.Call (.Attribute o m apos) (e :: es) [] pos) X.env=(do
   let b ← eval o X.env
   standAt apos.atName
   let (f,first) ← holding [b] (getMethod b m j)
   callWith pos f first (backTo pos (Pi (e :: es) X.env)) (backToKw pos (SB [] X.env)))):PX G X (.Call (.Attribute o m apos) (e :: es) [] pos) (bz i way c mv g cs) :=
 PE.weak (pz (E:=E0) p v r F (n.mono u) y .nil kQ z D a l) λJ H Q h=>pU (t:=MV G cs) C q (λO U d J H R s e k=>⟨O,U,d,s,e,k⟩) h
def xC(z:jq G)(p:∀k,(G.ct (c+1)).2 k≠m)(n:Jf G X o i way)(u:Hs X.K (G.ct (c+1)).1)(q:Meth X.K (G.ct (c+1)).1 m f)(F:FnOk X.prog X.w X.K X.mg X.base GX k f fd ps (Jx G c mv g))(l:pe k' X.A)(r:k<=k')(y:Binds X.K fd ps [])(j:eval (.Call (.Attribute o m apos) [] [] pos) X.env=(do
   let a ← eval o X.env
   standAt apos.atName
   let (f,first) ← holding [a] (getMethod a m d)
   callWith pos f first (backTo pos (Pi [] X.env)) (backToKw pos (SB [] X.env)))):PX G X (.Call (.Attribute o m apos) [] [] pos) (bz i way c mv g af) :=
 PE.weak (qf (E:=E0) n u q F (l.mono r) y .nil kQ j) λJ H Q h=>pU (t:=uW) z p (λO U b J H R s e k=>by
  cases (show Z ([]:Vq)=Z b from e);exact k [] H [] (aJ.refl _) .nil ⟨λi v F h=>by simp at h,by simp[Ha]⟩) h
def Nu(x:Xx):Sx:=λU=>(x U).bind λz=>if FZ z.1.2 then Z (.nx z.2) else Y
def iD(j:Nat)(x:Xx):Sx:=λU=>(x U).bind λz=>if FZ z.1.2=M/\j<z.2.length then Z (.nx (z.2.set j (Z (.pu z.1.2)))) else Y
def nZ(x:Xx):Sx:=λU=>(x U).bind λz=>if FZ z.1.2 then Z (.rt (.fr,z.1.2) z.2) else Y
def qV{pos:Pos}(h:PX G X e x)(n:swapsWith e Y pos.line X.env=pure B):PSV G X (.Expr e pos) (Nu x) :=
 PS.weak (iV h n) λD J H b=>by
  obtain⟨O,U,out,s,e,k⟩:=b;unfold Nu at e;obtain⟨⟨v,j⟩,e1,e2⟩:=Zz.mp e;split at e2
  ·rename_i d;cases e2;exact⟨O,U,v,j,s,e1,d,λu p l a f r=>k l J p a f⟩
  ·cases e2
def Ax(h:PX G X e x):PSV G X (.Return (Z e) pos) (nZ x) :=
 PS.weak (pG h) λD J H d=>by
  obtain⟨O,U,out,s,e,k⟩:=d;unfold nZ at e;obtain⟨⟨v,l⟩,e1,e2⟩:=Zz.mp e;split at e2
  ·rename_i j;cases e2;exact⟨O,U,v,l,s,e1,j,λu p n b f r=>k u p [] n J b f r ⟨YL,λa h=>nomatch h⟩⟩
  ·cases e2
def o7{pos:Pos}(h:PX G X e x)(C:X.N.Nodup)(l:X.N[j]?=Z d)(w:Loc X.env.scope d)(y:swapsWith e (Z (.Name d b)) pos.line X.env=pure B)(A:X.fn d=M\/X.env.scope.names.lookup d=Z .local) :
  PSV G X (.Assign [.Name d b] e pos) (iD j x) :=
 PS.weak (rK C l w h y A) λD J H z=>by
  obtain⟨O,U,out,s,e,k⟩:=z;unfold iD at e;obtain⟨⟨v,E⟩,e1,e2⟩:=Zz.mp e;split at e2
  ·rename_i l;cases e2;refine⟨O,U,v,E,s,e1,l.1,λu n F p f r=>?_⟩;obtain⟨t,q⟩:=p.val (c:=.pu v.2) (m:=.fr) l.2 (aJ.refl n) r ⟨YL,λa h=>nomatch h⟩ (.inl ⟨rfl,by decide⟩);exact k _ _ n t (f.trans q)
  ·cases e2
def je(i:Nat)(a:List IJ)(k:Ex)(x:Xx):Sx:=λU=>(x U).bind λz=>if FZ z.1.2 then eE i a k (λ_=>Z (.fr,z.1.2)) z.2 else Y
def yV{mv:Md}{L:W6}(Jq:jq G)(s:SR G O U J H)(ht:U[i]?=Z (Z (.ow t)))(ek:keys way U=Z ks)(Ll:ck U=Z (mk,p))(e5:pm (jv (mk,p) (mv,d)) ks t=Z (t',y'))(Hh:aJ H H1)(rv:Rp G H1 xv d L)(fv:Fp O U H mv L)(k:∀O' H',SR G O' (U.set i (Z (.ow t'))) J H'->GU O U H O' (U.set i (Z (.ow t'))) H'->D J H'):EZ (OQ G i way) (tE G ck) Be xv J H1 D:=by
   obtain⟨v,g1,g2⟩:=s.rp _ _ ht;obtain⟨w,x,F1,x3,w1,w2,w3,P,w5⟩:=mZ ks Jq g2 (s.nd i t ht) e5;refine⟨O,U,t,ks,v,w,s.same Hh,ht,g1,ek,w1.same Hh,λH2 GS=>⟨O,U,mk,p,(s.same Hh).same GS,Ll,λkv q Fk HQ rk fk=>?_⟩⟩;have A:aJ H q:=(Hh.trans GS).trans HQ;have Kz:Rp G q xv d L:=(rv.same GS).same HQ;have fin:∀R N,Chg G H w F1 x3 R N->D J R:=λR N g=>by
    obtain⟨F2,LU⟩:=w5 R N g;obtain⟨z1,z2⟩:=s.mut ht g1 LU;exact k _ R z1 z2
   refine L2.jL λP_ k_=>?_;cases x with
   |lst l =>
    cases p with
    |int n =>
     obtain⟨tt,et,e7⟩:=Zz.mp (show ((fit (mv,d)).bind λt=>(Hw l.length n).map λj=>(T.lst (l.set j t),()))=Z (x3,y') from P);obtain⟨j,ej,e8⟩:=Zs.mp e7;cases e8;have em:=lu et;cases em;obtain⟨a,y,Fs,rfl,rfl,S,C⟩:=w2.lst_inv;have Q:q a=Z (.lst y):=A a _ S;have nd:=Zd.mp w3;have na:a∉L:=λz=>by rw[fv.2 a z]at S;cases S
     have E:Gk (q a):=by rw[Q];exact True.intro
     have off:∀b∈Fs.flatten,b∉L:=λb hb hv=>Gk.p0 (C.GF b hb) (fv.2 b hv);refine k_ ?_;refine .inl ⟨a,y,n,j,rfl,rk.int_inv,Q,by rw[← sI,C.len.1];exact ej,fin _ (a :: (Fs.set j L).flatten) ?_⟩;have keep:∀{u:V}{x:T}{F:W6},Rp G q u x F->a∉F->Rp G (upd q a (.lst (y.set j xv))) u x F:=λr hn=>r.keep (Kept.upd (.inl E)) λb hb o' JC=>by rw[aE (λz=>hn (by rw[← z];exact hb))];exact JC
     refine Chg.upd A Zu E (.lst ay ((((C.same A).off E nd.1)).putAt j (keep Kz na))) ?_ ?_
     ·rw[Zd];refine⟨λh=>?_,dv nd.2 fv.1 λi' N _ hi b hb=>off b (cY hi hb)⟩;rcases cf h with z | ⟨i',N,_,h1,h2⟩
      ·exact na z
      ·exact nd.1 (cY h1 h2)
     ·intro b hb;rcases Zj.mp hb with rfl | hb
      ·exact .inl Zu
      ·rcases cf hb with z | ⟨i',N,_,h1,h2⟩
       ·exact .inr (fv.2 b z)
       ·exact .inl (Zt _ (cY h1 h2))
    |_=>cases P
   |dct kd l =>
    cases kd with
    |zero =>
     have hc:(gK p=M/\FZ d=M/\l.length<dq)/\x3=.dct 0 (dput l p d):=by
      have L3:(if gK p/\FZ d/\l.length<dq then Z (T.dct 0 (dput l p d),()) else Y)=Z (x3,y'):=P;split at L3
      ·rename_i hc;cases L3;exact⟨hc,rfl⟩
      ·cases L3
     obtain⟨⟨c1,c2,c3⟩,rfl⟩:=hc;have eF:=Kz.FZ c2;subst eF;obtain⟨a,ns,y,ts,Fs,rfl,rfl,S,hl,rfl,C⟩:=dD w2;obtain⟨kk,rfl,Ku⟩:=cP rk c1;subst Ku;have Q:q a=Z (.dK (ns.zip y)):=A a _ S;have E:Gk (q a):=by rw[Q];exact True.intro
     have nd:=Zd.mp w3;obtain⟨Mg,HN,HC,Hr,q1,q2,q3,q4,q5⟩:=pf (kk:=kk) Kz hl (C.same A);have ln:(ns.zip y).length<sizeLine:=by
      have:((ns.map aQ).zip ts).length<16777216:=c3;rw[Yo,Zx]at this;rw[Yo];have:=C.len.1;have:(KB:Nat)=16777216:=rfl;lia
     refine k_ ?_;refine .inr ⟨a,_,rfl,rP.k Q ln,fin _ (a :: Hr.flatten) ?_⟩;rw[q1,q3];refine Chg.upd A Zu E (.dct ay q2 (q4.off E λz=>nd.1 (q5.subset z))) ?_ ?_
     ·exact Zd.mpr ⟨λz=>nd.1 (q5.subset z),nd.2.sublist q5⟩
     ·intro b hb;rcases Zj.mp hb with rfl | hb
      ·exact .inl Zu
      ·exact .inl (Zt _ (q5.subset hb))
    |succ n=>cases P
   |_=>cases P
def uf{pos:Pos}(Jq:jq G)(C:pe w X.A)(F:Jf G X o i way)(L:PV G X b l)(he:PX G X e x)(P:∀v,assign (.Subscript o b d) X.env v=(do
   let j ← holding [v] (eval o X.env)
   let iv ← holding [v,j] (eval b X.env)
   standAt d
   holding [v,j,iv] (setItem j iv v)
   release [v,j,iv] []))(z:swapsWithSole [.Subscript o b d] e pos.line X.env=pure B)(hw:swappedStores [.Subscript o b d] e X.env=pure Y)(Q:(assignEach [.Subscript o b d] X.env).map (·.2)=[assign (.Subscript o b d) X.env]):PSV G X (.Assign [.Subscript o b d] e pos) (je i way l x) :=
 PS.weak (oR he (rY F L (v7 (jd C)) P) z hw Q) λD J H E=>by
  obtain⟨O,U,out,s,e,k⟩:=E;unfold je at e;obtain⟨⟨v,U'⟩,e1,e2⟩:=Zz.mp e;split at e2
  ·rename_i N;refine⟨O,U,v,U',s,e1,N,λu H' O' q f r=>?_⟩;unfold eE at e2;obtain⟨⟨mv,tv⟩,ev,e2⟩:=Zz.mp e2;cases ev;split at e2
   ·rename_i t y;obtain⟨ks,R,e2⟩:=Zz.mp e2;obtain⟨⟨mk,tk⟩,Ll,e2⟩:=Zz.mp e2;obtain⟨⟨t',y'⟩,e5,S⟩:=Zs.mp e2;cases S;exact yV Jq q y R Ll e5 (aJ.refl H') r (mv:=.fr) ⟨YL,λa h=>nomatch h⟩ λO2 H2 p n=>k _ J H2 p (f.trans n)
   ·cases e2
  ·cases e2
end
end VS
end
section
namespace L2
open PySem PySem.Spec PyProof.Rows
def rU:cB X (.type "dict") (λf H Q=>∃(d:KF)(a:List (Key×V)),f=[.ref d]/\H d=Z (.dK a)/\∀l,H l=Y->Q (.ref l) (upd H l (.dK a))):=by
 intro g s J H f w Q I m h;obtain⟨d,a,rfl,hd,q⟩:=h;obtain⟨u,rfl,n⟩:=m.one;cases n;obtain⟨i,t,v,rel,p⟩:=rj I.xt hd;refine PySem.kt_call_dict t p (by rw[← XF rel];exact i) λy r j=>?_;exact⟨.ref s.heap.objs.size,_,I.laid (t':=s.toks) (λb o e=>(j.2 b (Zg (Za e))).trans (Zw _ e)) (Zl _) (mJ i (ZJ.mpr (YR (Zg I.big))) rel r),rfl,q _ (I.xt.fresh (Zl _))⟩
end L2
namespace VS
open PySem PySem.Spec PyProof.Rows L2
def j4:Vq->Vp
 |[(_,.dct 0 l)]=>if cL (l.map (·.2))=M then Z (.fr,.dct 0 l) else Y
 |_=>Y
section
variable{X:Cx}
def wU:dW G (λs H Q=>∃(d:KF)(n:List (Key×V)),s=[.ref d]/\H d=Z (.dK n)/\∀l,H l=Y->Q (.ref l) (upd H l (.dK n))) j4:=by
 intro O U L H l u D m t Q A e k;unfold j4 at e;split at e
 ·rename_i J y;split at e
  ·rename_i j;cases e;obtain⟨v,F,rfl,rfl,r⟩:=(show RpL G H u [.dct 0 y] D from A.rp).one;obtain⟨a,ns,w,E,Gs,rfl,rfl,z,i,rfl,f⟩:=dD r;refine⟨a,_,rfl,z,λq h=>?_⟩;have g:aJ H (upd H q (.dK (ns.zip w))):=bQ h;rw[List.map_snd_zip (by rw[Zx,i,f.len.1];exact Zl _)]at j;have C:=f.FZ j;refine k _ _ (q :: Gs.flatten) g (.dct ay i (f.same g)) ?_;rw[C];exact Fp.new (A.same.free h) (by simp) Fp.nil
  ·cases e
 ·cases e
def zi(d:X.mg "dict" = Y)(g:GY G X [e] cs)(f:Gl X "dict")(he:K1 e [] X):PV G X (.Call (.Name "dict" p) [e] [] pos) (eN j4 cs) :=
 iW rU wU f d pT g (he:=he) (hpl:=rfl)
def wc{i d:Int}:PV G X (.Dict [Z (.Constant (.int i) j q)] [.Constant (.int d) h g] pos) (pK 0 [(Q3 i,Q3 d)]) :=
 PE.weak (zo (yn sC sC Aj) L L (by simp) (by show 1<=15;decide)) λJ H Q l=>by
  obtain⟨O,U,m,r,s,e,k⟩:=l;cases (show Z (Md.fr,T.dct 0 [(.int i,.int d)])=Z (m,r) from e);intro p f;refine⟨ay,[(Sum.inl i,.int d)],rfl,(by show 1<=15;decide),?_⟩;rw[zW];have:Rp G (upd H p (.dK [(Sum.inl i,V.int d)])) (.ref p) (.dct 0 ((([Sum.inl i]:List Key).map aQ).zip [.int d])) (p :: ([[]]:Xq).flatten) :=
   .dct (ks:=[Sum.inl i]) (vs:=[V.int d]) ay L (.cons (.int d) .nil)
  exact k _ _ _ (bQ f) this ⟨by simp,λb hb=>by simp at hb;rw[hb];exact f⟩
def oP(x y:Val):Vp:=match x.2 with
 |.dct 0 l=>if gK y.2 then Z (match cS l y.2 with | some t=>sub x.1 t | none=>(.fr,.non)) else none
 |_=>Y
def w_get{apos:Pos}(L:pe kr X.A)(P:PV G X o ca)(he:PV G X e cb)(Gr:UF o "get" X.env (eval o X.env)=eval o X.env)(GI:((backTo cg (Pi [e] X.env)).all (λx=>!x.1)&&(backToKw cg (SB [] X.env)).all (λx=>x.1.isSome)
   && decide (([e]:List Expr).length+([]:List Keyword).length+(if ([]:List Keyword).isEmpty then 0 else 1)<30))=M)(Gd:(apos.endLine==cg.line)=M)(QB:backTo cg (Pi [e] X.env)=[(B,eval e X.env)]):PV G X (.Call (.Attribute o "get" apos) [e] [] cg) (e2 oP ca cb) :=
 PE.weak (vN (jd L) P he ⟨Gr,GI,Gd,QB⟩) λJ H Q N=>by
  obtain⟨O,U,m,r,s,e,t⟩:=N;unfold e2 at e;obtain⟨⟨D,x⟩,ea,e⟩:=Zz.mp e;obtain⟨⟨C,y⟩,eb,e⟩:=Zz.mp e;unfold oP at e;split at e
  ·rename_i l u;dsimp only at u;subst u;split at e
   ·rename_i S;have d:=Zk e;refine⟨O,U,D,_,s,ea,λv H1 F1 n r1 f1=>?_⟩;obtain⟨a,ks,vs,ts,Fs,rfl,rfl,h,R,rfl,q⟩:=dD r1;refine⟨a,rfl,.inl ⟨_,.inl h⟩,O,U,C,y,s.same n,eb,λv2 w F2 g r2 f2=>?_⟩;obtain⟨E,rfl,ek⟩:=cP r2 S;dsimp only at d;rw[ek]at d;rcases iZ (k:=E) R (q.same g) with⟨h1,h2⟩ | ⟨i,v,z,F,a1,a2,a3,a4,j⟩
    ·rw[h1]at d;cases d;refine⟨_,fB.k (g a _ h),?_⟩;rw[h2];exact t .non w [] (n.trans g) .non Fp.nil
    ·rw[a1]at d;refine⟨_,fB.k (g a _ h),?_⟩;rw[a2];have f:=((f1.sub (Yw _ _)).sub (cN a4)).up j;unfold VS.sub at d;dsimp only at d;rw[d]at f;have et:z=r:=congrArg Prod.snd d;rw[et]at j;exact t v w F (n.trans g) j f
   ·cases e
  ·cases e
def o8(x y:Val):Vp:=match x.2 with
 |.dct 3 l=>if gK y.2 then (cS l y.2).map (sub x.1) else Y
 |_=>Y
def qA(r:Rp G H v (.dct 3 l) F):∃(a:KF)(o:Obj)(f:List Key)(d:List V)(g:Vo)(j:Xq),v=.ref a/\F=j.flatten/\H a=Z (.frz o (.dK (f.zip d)))/\f.length=d.length/\l=(f.map aQ).zip g/\RpL G H d g j:=by
 generalize i:T.dct 3 l=z at r;cases r with
 |dctZ h m q=>cases i;exact⟨_,_,_,_,_,_,rfl,rfl,h,m,rfl,q⟩
 |_=>cases i
def CT:fP G (DT G.K) o8:=by
 intro O U H0 H x y u w F1 F2 m t Q d e k;obtain⟨R,x⟩:=x;unfold o8 at e;split at e
 ·rename_i l h;dsimp only at h;subst h;split at e
  ·rename_i r;obtain⟨P,e1,e2⟩:=Zs.mp e;obtain⟨a,o,S,J,L,Fs,rfl,rfl,s,n,rfl,q⟩:=qA d.r1;obtain⟨g,rfl,A⟩:=cP d.r2 r;rw[A]at e1;rcases iZ (k:=g) n q with⟨z,_⟩ | ⟨i,v,N,F,E,D,a3,C,j⟩
   ·rw[z]at e1;cases e1
   ·rw[E]at e1;cases e1;cases e2;refine .inr ⟨a,v,rfl,.inl ⟨_,g,.inr ⟨o,s⟩,rfl,D.symm⟩,?_⟩;have f:=(d.f1.sub (cN C)).up j;exact k v H F (aJ.refl _) j f
  ·cases e
 ·cases e
def Bq(f:pe kr X.A)(i:PV G X a ca)(g:PV G X b cb)(d:jQ b)(j:X.K=G.K):PV G X (.Subscript a b pos) (e2 o8 ca cb) :=
 PE.weak (uv (JI.or pR (pj (jd f))) i g d) λJ H Q h=>by rw[j];exact j8 CT h
end
def eNew(c:Nat)(g:Mt)(b:GG):Ex:=λU=>(b U).bind λa=>if dz (trees a)=M then (g [] (trees a)).bind λz=>if dA z.1=M/\MZ z.2=M then Z (.fr,.obj (c+1) ((0,.bl B) :: z.1)) else Y else Y
def dG(c:Nat)(g:Fn)(d:Ex)(b:GG):Ex:=λU=>(d U).bind λx=>match x.2 with
 |.obj e (_ :: _)=>if e=c+1 then (b U).bind λa=>(g (x.2 :: trees a)).bind λr=>match r.1 with
  |.fr=>Z r
  |_=>Y else Y
 |_=>Y
theorem yw{α:Type}:∀(l:List α)(a:Xq),Hi (l.map λ_=>B) a=[]
 |[],_=>by simp[Hi]
 |_ :: _,[]=>by simp[Hi]
 |_ :: l,F :: a=>by
  rw[Zi,Hi,Zm ZY,Y1];exact yw l a
theorem yb:∀(e:List Bool)(d:Xq),∀a∈Jy e d,a∈d.flatten
 |[],_,a,h=>by simp[Jy]at h
 |_ :: _,[],a,h=>by simp[Jy]at h
 |b :: bs,F :: d,a,h=>by
  rw[Jy]at h;rw[ZI];rcases ZW.mp h with h | h
  ·cases b with
   |true=>simp at h
   |false=>exact Yq _ (by simpa using h)
  ·exact ZP _ (yb bs d a h)
section
variable{X:Cx}
def AK{G:Gx}(r:Rp G H u t F)(h:MZ t=M):u=.non:=by
 cases r with
 |non=>rfl
 |_=>cases h
def yt{t:TA}(F:∀n,FnOk X.prog X.w X.K X.mg X.base GX k f fd ps (Jx G c (List.replicate n B) g)->True)(ht:∀O U d J H (R:List V->Hp->Prop),SR G O U J H->cs U=Z d->(∀vs j Fs,aJ H j->RpL G j vs (trees d) Fs->KW O U H d Fs->R vs j)->t J H R)(n:Nat)(hn:∀U d,cs U=Z d->d.length=n)(hq:tE G (eNew c g cs) J H Q):wb (G.ct (c+1)).1 (Jx G c (List.replicate n B) g) [] E t J H Q:=by
 obtain⟨O,U,mo,r,s,e,kq⟩:=hq;unfold eNew at e;obtain⟨d,el,e1⟩:=Zz.mp e;split at e1
 ·rename_i N4;obtain⟨⟨Hy,y⟩,eg,e2⟩:=Zz.mp e1;split at e2
  ·rename_i hc;cases e2;have lx:=hn U d el;refine ht O U d J H _ s el λvs P Gs N R7 Pl a A C VD ne=>?_;have S9:H a=Y:=N.free C;have S:aJ P (upd (upd P A (.own a)) a (.ins (G.ct (c+1)).1 A [])):=λb v q=>by
    rw[aE (λz=>by rw[z,C]at q;cases q),aE (λz=>by rw[z,VD]at q;cases q)];exact q
   have em:List.replicate n B=(List.range n).map λ_=>B:=by rw[List.map_const',Z3]
   have D:Hi (List.replicate n B) Gs=[]:=by rw[em];exact yw _ _
   have fresh:∀b,(upd (upd P A (.own a)) a (.ins (G.ct (c+1)).1 A [])) b=Y->H b=Y:=λb z=>N.free (S.free z);refine⟨a,vs,[],trees d,[a],Gs,Hy,y,by rw[ZE],.ins (ks:=[]) (vs:=[]) (ts:=[]) (Fs:=[]) ay L (λ_=>rfl) .nil,(R7.same S).at (Iu a) N4,?_,?_,?_,eg,λu j F' l ru=>⟨AK ru hc.2,?_⟩⟩
   ·simp[trees,lx]
   ·rw[D];simp
   ·rw[D];intro b hb He;have:b=a:=by simpa using hb
    subst this;exact Gk.p0 (R7.GF b (yb _ _ b He)) C
   ·rw[D,ZE]at l;have back:Rp G j (.ref a) (.obj (c+1) ((0,.bl B) :: Hy)) F':=by
     obtain⟨c2,a2,TF,b2,O6,RY,OO,TK,MM,Oh,RH,RG,Ol,N7,G5,MD,JZ⟩:=dI l.rp;cases MM;cases Oh;subst RG;rw[Ol];exact .ins N7 G5 (λz=>nomatch z) (JZ.at G.me (dS (G5.trans JZ.len.1) hc.1))
    refine kq (.ref a) j F' (λb v q=>l.keep b v (λz=>?_) (S b v (N b v q))) back ⟨l.nd,λb hb=>?_⟩
    ·have:b=a:=by simpa using z
     rw[this,S9]at q;cases q
    ·rcases l.sub b hb with z | z
     ·have:b=a:=by simpa using z
      rw[this];exact S9
     ·exact fresh b z
  ·cases e2
 ·cases e1
def DJ{G:Gx}(n:Nat)(M:Mk X.K (G.ct (c+1)).1 f)(F:FnOk X.prog X.w X.K X.mg X.base GX k f fd ps (Jx G c (List.replicate n B) g))(d:pe k' X.A)(q:k+1<=k')(r:Gl X x)(l:X.mg x=Z (.ref (G.ct (c+1)).1))(u:Binds X.K fd ps [])(v:GY G X (e :: es) cs)(j:∀U a,cs U=Z a->a.length=n)(y:K3 x)(he:K1 e es X)(b:K2 pos es X):PV G X (.Call (.Name x p) (e :: es) [] pos) (eNew c g cs) :=
 PE.weak (zH (E:=E0) M F (d.mono q) r l u .nil kQ v y he b) λJ H Q h=>yt (X:=X) (k:=k) (f:=f) (fd:=fd) (ps:=ps) (t:=MV G cs) (λ_ _=>True.intro) (λO U a J H R s e k=>⟨O,U,a,s,e,k⟩) n j h
def Dd{G:Gx}(M:Mk X.K (G.ct (c+1)).1 f)(F:FnOk X.prog X.w X.K X.mg X.base GX k f fd ps (Jx G c [] g))(b:pe k' X.A)(j:k+1<=k')(l:Gl X x)(d:X.mg x=Z (.ref (G.ct (c+1)).1))(n:Binds X.K fd ps [])(q:K3 x):PV G X (.Call (.Name x p) [] [] pos) (eNew c g af) :=
 PE.weak (vW (E:=E0) M F (b.mono j) l d n .nil kQ q) λJ H Q h=>yt (X:=X) (k:=k) (f:=f) (fd:=fd) (ps:=ps) (t:=uW) (λ_ _=>True.intro) (λO U a J H R s e k=>by
  cases (show Z ([]:Vq)=Z a from e);exact k [] H [] (aJ.refl _) .nil ⟨λi v F h=>by simp at h,by simp[Ha]⟩) 0 (λU a e=>by
  cases (show Z ([]:Vq)=Z a from e);rfl) h
theorem uA{g:Nat->Str}(b:∀k,g k≠m):∀(ns:Vv)(a:List V),((ns.map g).zip a).lookup m=Y
 |[],a=>by simp
 |_ :: _,[]=>by simp
 |n :: ns,v :: a=>by
  rw[Zi,ZV,Yh];have:(m==g n)=B:=by
   rw[ZJ];exact λz=>b n z.symm
  rw[this];exact uA b ns a
def t9{G:Gx}{t:TA}(hn:∀k,(G.ct (c+1)).2 k≠m)(P:∀O U d J H (R:List V->Hp->Prop),SR G O U J H->cs U=Z d->(∀l j z,aJ H j->RpL G j l (trees d) z->KW O U H d z->R l j)->t J H R)(S:tE G (dG c h ca cs) J H Q):ub (G.ct (c+1)).1 m (Iq G h) [] E (tE G ca) t J H Q:=by
 obtain⟨O,U,mo,r,s,e,N⟩:=S;unfold dG at e;obtain⟨⟨L,y⟩,ea,e1⟩:=Zz.mp e;split at e1
 ·rename_i c' q0 fs A;dsimp only at A;subst A;split at e1
  ·rename_i hc;subst hc;obtain⟨d,el,e2⟩:=Zz.mp e1;obtain⟨⟨n,F⟩,eg,e3⟩:=Zz.mp e2;refine⟨O,U,L,_,s,ea,λv H1 F1 q r1 f1=>?_⟩;obtain⟨c2,a,dx,b,ns,l,ts,z,ec,rfl,eb,ef,eF,hA,hl,hb,ra⟩:=dI r1;cases ec;refine⟨a,dx,_,rfl,hA,uA hn _ _,P O U d J H1 _ (s.same q) el λus H2 Gs w MW MK=>?_⟩;rw[ZE];refine⟨_ :: trees d,F1 :: Gs,n,F,.cons (r1.same w) MW,eg,λu j F' HQ D C=>?_⟩;cases n with
   |fr =>
    cases e3;exact N u j F' ((q.trans w).trans HQ) D ⟨C.1,λb hb=>q.free (w.free (C.2 b hb))⟩
   |pu=>cases e3
   |bo=>cases e3
  ·cases e1
 ·cases e1
def Cq{G:Gx}(u:∀k,(G.ct (c+1)).2 k≠m)(r:PV G X o ca)(z:Hs X.K (G.ct (c+1)).1)(v:Meth X.K (G.ct (c+1)).1 m f)(F:FnOk X.prog X.w X.K X.mg X.base GX k f fd ps (Iq G h))(n:pe k' X.A)(y:k<=k')(C:Binds X.K fd ps [])(D:GY G X (e :: es) cs)(L:K1 e es X)(a:K2 pos es X)(l:eval (.Call (.Attribute o m apos) (e :: es) [] pos) X.env=(do
   let b ← eval o X.env
   standAt apos.atName
   let (f,first) ← holding [b] (getMethod b m j)
   callWith pos f first (backTo pos (Pi (e :: es) X.env)) (backToKw pos (SB [] X.env)))):PV G X (.Call (.Attribute o m apos) (e :: es) [] pos) (dG c h ca cs) :=
 PE.weak (pz (E:=E0) r z v F (n.mono y) C .nil kQ D L a l) λJ H Q q=>t9 (t:=MV G cs) u (λO U d J H R s e k=>⟨O,U,d,s,e,k⟩) q
def zC{G:Gx}(r:∀k,(G.ct (c+1)).2 k≠m)(n:PV G X o ca)(z:Hs X.K (G.ct (c+1)).1)(u:Meth X.K (G.ct (c+1)).1 m f)(F:FnOk X.prog X.w X.K X.mg X.base GX k f fd ps (Iq G h))(l:pe k' X.A)(y:k<=k')(C:Binds X.K fd ps [])(j:eval (.Call (.Attribute o m apos) [] [] pos) X.env=(do
   let a ← eval o X.env
   standAt apos.atName
   let (f,first) ← holding [a] (getMethod a m d)
   callWith pos f first (backTo pos (Pi [] X.env)) (backToKw pos (SB [] X.env)))):PV G X (.Call (.Attribute o m apos) [] [] pos) (dG c h ca af) :=
 PE.weak (qf (E:=E0) n z u F (l.mono y) C .nil kQ j) λJ H Q q=>t9 (t:=uW) r (λO U b J H R s e k=>by
  cases (show Z ([]:Vq)=Z b from e);exact k [] H [] (aJ.refl _) .nil ⟨λi v F h=>by simp at h,by simp[Ha]⟩) q
end
def mU(i:Nat)(a:List IJ)(j:Nat)(U:VS.Env):Option Out:=match (U[i]?:Option (Vr)),(U[j]?:Option (Vr)) with
 |some (some (.ow t)),some (some (.ow u))=>if i≠j then (keys a U).bind λb=>(pm (λx=>aB x [(.fr,u)]) b t).map λz=>.nx ((U.set j Y).set i (Z (.ow z.1))) else Y
 |_,_=>Y
open Classical in
noncomputable def less(H:Hp)(F:W6):Hp:=λb=>if b∈F then Y else H b
section
variable{X:Cx}
def oO(h:b∈F):less H F b=Y:=Zn h
def gy(h:b∉F):less H F b=H b:=Zm h
def gB{o:HO}(h:less H F b=Z o):H b=Z o/\b∉F:=by
 by_cases q:b∈F
 ·rw[oO q]at h;cases h
 ·rw[gy q]at h;exact⟨h,q⟩
def uZ(h:∀b∈F,Gk (H b)):Kept H (less H F) :=
 ⟨λb a e=>by
  rw[gy (λz=>by have:=h b z;rw[e]at this;exact this)];exact e,λb o u e=>by
  rw[gy (λz=>by have:=h b z;rw[e]at this;exact this)];exact e⟩
def yX{apos pos:Pos}(Jq:jq G)(ho:Jf G X o i way)(hK:X.K=G.K)(hN:X.N[j]?=Z y)(hv:HU X.env.scope y)(hd:K3 y)(hcd:K4 y)(Gr:UF o "append" X.env (eval o X.env)=eval o X.env)(GI:((backTo cg (Pi [.Name y p1] X.env)).all (λx=>!x.1)&&(backToKw cg (SB [] X.env)).all (λx=>x.1.isSome)
   && decide ([Expr.Name y p1].length+([]:List Keyword).length+(if ([]:List Keyword).isEmpty then 0 else 1)<30))=M)(Gd:(apos.endLine==cg.line)=M)(hs:Pi [.Name y p1] X.env=(B,eval (.Name y p1) X.env) :: Pi [] X.env)(Gm:(backTo cg (Pi [] X.env)).any (·.1)=B)(JA:swapsWith (.Call (.Attribute o "append" apos) [.Name y p1] [] cg) Y pos.line X.env=pure B) :
  PSV G X (.Expr (.Call (.Attribute o "append" apos) [.Name y p1] [] cg) pos) (mU i way j) :=
 PS.weak (iV (nX Xu XM XO gF ho (d7 (eQ hN hv hd hcd) jh hs) Gr GI Gd hs Gm) JA) λD J H hq=>by
  obtain⟨O,U,out,s,e,k⟩:=hq;unfold mU at e;split at e
  ·rename_i t u ht F;split at e
   ·rename_i M8;obtain⟨r,ek,e3⟩:=Zz.mp e;obtain⟨⟨R,x2⟩,e5,e6⟩:=Zs.mp e3;cases e6;obtain⟨Q,j1,j2⟩:=s.rp _ _ F;have Ss:Rp G H Q u (O j):=j2;have UG:=s.nd j u F;have mj:∀b∈O j,Gk (H b):=Ss.GF;have kp:=uZ mj;have PK:∀f E,f≠j->U[f]?=Z (Z E)->∀b∈O f,b∉O j:=λf E n h b hb He=>s.sep j f u E F h (YR n) b He hb;have s0:SR G O (U.set j Y) J (less H (O j)):=⟨(s.drop j).len,λf E h=>by
     obtain⟨n,h'⟩:=cq h;obtain⟨v,h1,h2⟩:=s.rp f E h';exact⟨v,h1,h2.keep kp λb hb d M3=>by rw[gy (PK f E n h' b hb)];exact M3⟩,(s.drop j).nd,(s.drop j).sep⟩
    have QD:(U.set j Y)[i]?=Z (Z (.ow t)):=by
     rw[Y8 (YR M8)];exact ht
    obtain⟨v,h1,h2⟩:=s0.rp _ _ QD;obtain⟨w,x,F1,x3,w1,w2,w3,P,w5⟩:=mZ r Jq h2 (s0.nd i t QD) e5;unfold aB at P;split at P
    ·rename_i l yv heq;cases heq;obtain⟨z,ez,e7⟩:=Zz.mp P;cases (show Z u=Z z from ez);split at e7
     ·rename_i hl;cases e7;obtain⟨a,us,Gs,rfl,rfl,ha,ra⟩:=w2.lst_inv;obtain⟨QY,S5⟩:=gB ha;have T4:Hz G H r v (.ref a):=by
       have:∀{r:List Ky}{v w:V},Hz G (less H (O j)) r v w->Hz G H r v w:=by
        intro r v w p
        induction p with
        |nil v=>exact .nil v
        |fld h l _ A=>exact .fld (gB h).1 l A
        |ix h l m _ A=>exact .ix (gB h).1 l m A
        |key h l _ A=>exact .key (gB h).1 l A
        |un _ A=>exact .un A
       exact this w1
      refine⟨O,U,t,r,v,.ref a,s,ht,h1,ek,T4,λH0 C=>⟨.inl ⟨rfl,us,by rw[hK];exact Gw.of (C a _ QY)⟩,Q,j1,a,us,Q,rfl,rfl,C a _ QY,by rw[ra.len.1];exact hl,?_⟩⟩;have S:Gk (H0 a):=by rw[C a _ QY];exact True.intro
      have Ma:=Zd.mp w3;have P1:∀b∈Gs.flatten,b∉O j:=λb hb He=>by
       have:=ra.GF b hb;rw[oO He]at this;exact this
      have L:∀b d,less H (O j) b=Z d->H0 b=Z d:=λb d h=>C b d (gB h).1;have kl:Kept (less H (O j)) H0:=⟨λb xs h=>L b _ h,λb d u h=>L b _ h⟩
      have g:Chg G (less H (O j)) (.ref a) (a :: Gs.flatten) (.lst (l++[u])) (upd H0 a (.lst (us++[Q]))) (a :: (Gs++[O j]).flatten):=by
       refine⟨kl.trans (Kept.upd (.inl S)),λb d hb h=>by rw[aE (λz=>hb (by rw[z];exact Zu))];exact L b d h,λb h z=>?_,.lst ay ((RpL.off (ra.keep kl λb hb d h=>L b d h) S Ma.1).append (.cons (((Ss.same C)).keep (Kept.upd (.inl S)) λb hb d ho=>by rw[aE (λz=>S5 (by rw[← z];exact hb))];exact ho) .nil)),?_,λb hb=>?_⟩
       ·by_cases q:b=a
        ·rw[q,ay]at z;cases z
        ·rw[aE q]at z;cases e:less H (O j) b with
         |none=>exact h e
         |some d=>rw[L b d e]at z;cases z
       ·rw[Yf];refine Zd.mpr ⟨λm=>?_,ZQ.mpr ⟨Ma.2,by simpa using UG,λb hb c hc z=>?_⟩⟩
        ·rcases ZW.mp m with m | m
         ·exact Ma.1 m
         ·exact S5 (by simpa using m)
        ·subst z;exact P1 b hb (by simpa using hc)
       ·rcases Zj.mp hb with rfl | hb
        ·exact .inl Zu
        ·rw[Yf]at hb;rcases ZW.mp hb with hb | hb
         ·exact .inl (Zt _ hb)
         ·exact .inr (oO (by simpa using hb))
      obtain⟨F2,g2⟩:=w5 _ _ g;obtain⟨z1,z2⟩:=s0.mut QD h1 g2;have back:∀b,less H (O j) b=Y->bW O U b\/H b=Y:=λb h=>by
       by_cases q:b∈O j
       ·exact .inl ⟨j,u,F,q⟩
       ·rw[gy q]at h;exact .inr h
      have KA:∀b,bW O (U.set j Y) b->bW O U b:=λb ⟨j',R,q1,q2⟩=>⟨j',R,(cq q1).2,q2⟩
      have Ux:∀b,du O (U.set j Y) b->du O U b:=λb ⟨j',R,q1,q2⟩=>⟨j',R,(cq q1).2,q2⟩
      refine k _ J _ z1 ⟨λb d h n=>?_,λb h z=>?_,λb h=>?_,λb h=>?_,(Kept.of C).trans (Kept.upd (.inl S))⟩
      ·have nj:b∉O j:=λz=>n ⟨j,u,F,z⟩;exact z2.keep b d (by rw[gy nj];exact h) λz=>n (KA b z)
      ·by_cases q:b=a
       ·rw[q,ay]at z;cases z
       ·rw[aE q]at z;exact h (C.free z)
      ·rcases z2.ow b h with h | h
       ·exact .inl (KA b h)
       ·exact back b h
      ·rcases z2.pu b h with h | h | h
       ·exact .inl (Ux b h)
       ·exact .inr (.inl (KA b h))
       ·exact(back b h).elim (λz=>.inr (.inl z)) λz=>.inr (.inr z)
     ·cases e7
    ·cases P
   ·cases e
  ·cases e
end
end VS
end
section
namespace VS
open PySem PySem.Spec PyProof.Rows L2
noncomputable def isInt:T->Bool
 |.int _=>M
 |_=>B
def qg(i:Nat):IQ:=λU=>match (U[i]?:Option (Vr)) with
 |some (some (.pu (.dct 3 l)))=>if (l.all λp=>isInt p.1)=M then Z (.fr,l.map (·.1)) else Y
 |_=>Y
def wY(i:Nat)(a:Tg)(b:Ex):Sx:=λU=>match (U[i]?:Option (Vr)) with
 |some (some (.ow (.dct 0 l)))=>(cz 1 a (qg i) Y b (U.set i (Z (.pu (.dct 3 l))))).bind λv=>match v.1 with
  |.fr=>Z (.rt v (U.set i Y))
  |_=>Y
 |_=>Y
theorem zip_inj{α β:Type}:∀{a c:List α}{b d:List β},a.length=b.length->c.length=d.length->a.zip b=c.zip d->a=c
 |[],[],_,_,_,_,_=>rfl
 |[],_ :: _,_,[],_,h,_=>by simp at h
 |[],_ :: _,[],_ :: _,_,_,h=>by simp at h
 |[],_ :: _,_ :: _,_ :: _,h,_,_=>by simp at h
 |_ :: _,_,[],_,h,_,_=>by simp at h
 |_ :: _,[],_ :: _,[],_,_,h=>by simp at h
 |_ :: _,[],_ :: _,_ :: _,_,h,_=>by simp at h
 |_ :: _,_ :: _,_ :: _,[],_,h,_=>by simp at h
 |x :: a,y :: c,z :: b,w :: d,f,e,h=>by
  rw[ZV,ZV]at h;obtain⟨e1,e2⟩:=List.cons.inj h;rw[zip_inj (by simpa using f) (by simpa using e) e2,(Wp e1).1]
section
variable{X:Cx}
def CU(i:Nat)(N:List Str)(Hv:X.calm=M)(hN:X.N[i]?=Z x)(hv:HU X.env.scope x)(hd:K3 x)(hcd:K4 x)(Ho:qO 1 g)(hg:∀cl C s H fp,MT G (eZ X N sc cl C s H fp) tg g)(he:∀cl C s H fp,PV G (eZ X N sc cl C s H fp) elt ce)(JQ:r6 X.env sc=M)(Ld:qI sc (N.drop 1) X.N=M)(Lh:1<=N.length)(hs:∀y,UV (.Name x p1) X.env y=pure y) :
  PSV G X (.Return (Z (.ListComp elt [⟨tg,.Name x p1,[],0⟩] sc pos)) pos') (wY i g ce) :=
 PS.weak (pG (tm Hv (DY (eQ hN hv hd hcd)) JQ Ld Lh (λcl C s H fp=>⟨hg cl C s H fp,rq,he cl C s H fp⟩) hs)) λD J H hq=>by
  obtain⟨O,U,out,s,e,k⟩:=hq;unfold wY at e;split at e
  ·rename_i l E;obtain⟨⟨mv,tv⟩,ev,e1⟩:=Zz.mp e;have LP:mv=.fr/\out=.rt (.fr,tv) (U.set i Y):=by
    cases mv with
    |fr=>cases e1;exact⟨rfl,rfl⟩
    |pu=>cases e1
    |bo=>cases e1
   obtain⟨rfl,rfl⟩:=LP;obtain⟨v,g1,g2⟩:=s.rp _ _ E;obtain⟨a,ns,d,S,R,rfl,eF,ha,QL,rfl,ra⟩:=dD g2;have G0:i<U.length:=(Zc.mp E).1;have nd:=s.nd i _ E;rw[eF]at nd;have Gy:=Zd.mp nd;refine⟨.ref a,g1,a,ns.zip d,rfl,ha,λo=>?_⟩;have mu:Gk (H a):=by rw[ha];exact True.intro
   have kp:Kept H (upd H a (.frz o (.dK (ns.zip d)))):=Kept.upd (.inl mu);have es:J.set i (Z (.ref a))=J:=by
    obtain⟨h,e⟩:=Zc.mp g1;rw[← e];exact WV h
   have aΦ:a∈O i:=by rw[eF];exact Zu
   have sub:∀b∈R.flatten,b∈O i:=λb hb=>by rw[eF];exact Zt _ hb
   have s1:SR G (kY O i R.flatten) (U.set i (Z (.pu (.dct 3 ((ns.map aQ).zip S))))) J (upd H a (.frz o (.dK (ns.zip d)))):=by
    have:=s.put (c:=.pu (.dct 3 ((ns.map aQ).zip S))) (v:=.ref a) (F:=R.flatten) (H':=upd H a (.frz o (.dK (ns.zip d)))) G0 (.dctZ ay QL (ra.off mu Gy.1)) (λj c' n hj w q=>q.keep kp λb hb ob ho=>by
     rw[aE (λz=>s.sep i j _ c' E hj (YR n) a aΦ (by rw[← z];exact hb))];exact ho) (λ_ z=>nomatch z) (λ_ z=>nomatch z) λj u n hj b hb He=>s.sep j i u _ hj E n b hb (sub b He)
    rw[es]at this;exact this
   have hT:tE G (cz 1 g (qg i) Y ce) J (upd H a (.frz o (.dK (ns.zip d)))) D.rt:=by
    refine⟨_,_,.fr,tv,s1,ev,λu H' F Q r f=>?_⟩;have ee:(U.set i (Z (.pu (.dct 3 ((ns.map aQ).zip S))))).set i Y=U.set i Y:=by rw[List.set_set]
    have sd:=(s1.drop i).same Q;rw[ee]at sd;have KA:∀b,bW (kY O i R.flatten) (U.set i Y) b->bW O U b:=λb ⟨j,t,A,m⟩=>by
     obtain⟨n,PN⟩:=cq A;rw[d9 n]at m;exact⟨j,t,PN,m⟩
    refine k u H' F _ J sd ⟨λb ob h n=>?_,λb h z=>?_,λb h=>.inl (KA b h),λb ⟨j,t,A,m⟩=>?_,kp.trans (Kept.of Q)⟩ r ⟨f.1,λb hb=>.inl ?_⟩
    ·have nb:b≠a:=λz=>n ⟨i,_,E,by rw[z];exact aΦ⟩;exact⟨Q b ob (by rw[aE nb];exact h),λz=>n (KA b z)⟩
    ·have P:=Q.free z;by_cases q:b=a
     ·rw[q,ay]at P;cases P
     ·rw[aE q]at P;exact h P
    ·obtain⟨n,PN⟩:=cq A;rw[d9 n]at m;exact .inl ⟨j,t,PN,m⟩
    ·have:=f.2 b hb;by_cases q:b=a
     ·rw[q,ay]at this;cases this
     ·rw[aE q]at this;exact this
   obtain⟨O2,U2,m2,l2,s2,e2,k2⟩:=ua (cond:=Y) Ho hT;refine k2 (RU a o (ns.zip d)) _ [] (aJ.refl _) ?_ (λb hb=>nomatch hb);unfold qg at e2;split at e2
   ·rename_i l3 h3;split at e2
    ·rename_i hint;cases e2;obtain⟨v3,A,m⟩:=s2.rp _ _ h3;rw[g1]at A;cases A;obtain⟨a3,o3,UO,RX,PB,Fs3,RI,_,IH,LN,rfl,JZ⟩:=qA m;cases RI;rw[ay]at IH;have hz:ns.zip d=UO.zip RX:=HO.dK.inj (HO.frz.inj (Zk IH)).2;have ek:=zip_inj QL LN hz;subst ek;have em:((ns.map aQ).zip PB).map (·.1)=ns.map aQ:=Vz (by rw[Zx,LN,JZ.len.1];exact Zl _);have zl:(ns.zip d).length=ns.length:=by rw[Yo,QL,XE]
     refine⟨λH2 LG _=>⟨λn t L=>?_,λn L=>?_⟩,λb hb=>nomatch hb⟩
     ·rw[em,ZZ]at L;obtain⟨kk,M6,NZ⟩:=Zs.mp L;have SH:=(Zc.mp M6).1;refine⟨⟨LG.frz _ _ _ ay,by rw[zl];exact SH⟩,λy H3 hy=>?_⟩;obtain⟨rfl,p,hp,rfl⟩:=hy;refine⟨aJ.refl _,[],?_,λb hb=>nomatch hb⟩;have U9:p.1=kk:=by
       have Ml:(ns.zip d)[n]?=Z p:=hp;rw[Y0]at Ml;rw[M6]at Ml;exact(Zk Ml.1).symm
      have hi:isInt t=M:=by
       have:=Z6.mp hint (t,PB[n]'(by rw[← JZ.len.1,← LN];exact SH)) (by
        refine YK (i:=n) ?_;rw[Y0];exact⟨by rw[ZZ,M6];exact congrArg Z NZ,Zq _⟩)
       exact this
      rw[U9,← NZ];rw[← NZ]at hi;cases kk with
      |inl n=>exact .int n
      |inr z=>cases hi
     ·refine⟨LG.frz _ _ _ ay,?_⟩;rw[em,Zx]at L;rw[zl];exact L
    ·cases e2
   ·cases e2
  ·cases e
end
noncomputable def CN(c:Nat):Option (Vr)->Bool
 |some (some (.ow (.obj a (_ :: _))))=>a==c+1
 |_=>B
def oa(i c:Nat)(b:List Bool)(g:Mt)(x:Xx)(d:GG)(U:VS.Env):Option (Val×VS.Env):=if CN c (U[i]?:Option (Vr))=M then (x U).bind λz=>if FZ z.1.2=M then (match (z.2[i]?:Option (Vr)) with
 |some (some (.ow t))=>(d z.2).bind λa=>(kN c b g ((.fr,z.1.2) :: a) t).map λr=>(r.2,z.2.set i (Z (.ow r.1)))
 |_=>Y) else Y else Y
section
variable{X:Cx}
def zE{G:Gx}(hn:∀k,(G.ct (c+1)).2 k≠m)(hN:X.N[i]?=Z y)(hv:HU X.env.scope y)(hd:K3 y)(hcd:K4 y)(hc:Hs X.K (G.ct (c+1)).1)(hm:Meth X.K (G.ct (c+1)).1 m f)(F:FnOk X.prog X.w X.K X.mg X.base GX k f fd ps (Jx G c mv g))(hr:pe k' X.A)(hk:k<=k')(hb:Binds X.K fd ps [])(h1:PX G X e x)(ha:GY G X es cs)(G9:K1 e es X)(hpl:K2 pos es X)(ht:eval (.Call (.Attribute (.Name y p1) m apos) (e :: es) [] pos) X.env=(do
   let ov ← eval (.Name y p1) X.env
   standAt apos.atName
   let (f,first) ← holding [ov] (getMethod ov m pl)
   callWith pos f first (backTo pos (Pi (e :: es) X.env)) (backToKw pos (SB [] X.env)))):PX G X (.Call (.Attribute (.Name y p1) m apos) (e :: es) [] pos) (oa i c mv g x cs) :=
 PE.weak (pz (E:=E0) (eQ hN hv hd hcd) hc hm F (hr.mono hk) hb .nil kQ (d7 h1 ha G9) G9 hpl ht) λJ H Q h=>by
  obtain⟨O,U,v,U',s,e,M7,kq⟩:=h;unfold oa at e;split at e
  ·rename_i D;obtain⟨⟨C,U1⟩,e1,e2⟩:=Zz.mp e;split at e2
   ·rename_i QP;unfold CN at D;split at D
    ·rename_i c0 q0 Rl h0;have ec0:c0=c+1:=by simpa using D
     subst ec0;obtain⟨v0,g1,g2⟩:=s.rp _ _ h0;have LU:Rp G H v0 (.obj (c+1) (q0 :: Rl)) (O i):=g2;obtain⟨c',a,dx,b,ns,j,ts,Fs,ec,rfl,eb,ef,eF,hA,hl,S4,ra⟩:=dI LU;cases ec;have key:∀(ns:Vv)(j:List V),((ns.map (G.ct (c+1)).2).zip j).lookup m=Y:=by
      intro ns
      induction ns with
      |nil=>intro j;simp
      |cons n ns ih =>
       intro j;cases j with
       |nil=>simp
       |cons v j =>
        rw[Zi,ZV,Yh];have:(m==(G.ct (c+1)).2 n)=B:=by
         rw[ZJ];exact λz=>hn n z.symm
        rw[this];exact ih j
     refine⟨.ref a,g1,a,dx,_,rfl,hA,key _ _,O,U,C,U1,s,e1,QP,λS H1 r s1 f1 r1=>?_⟩;dsimp only at e2;split at e2
     ·rename_i t1 QC;obtain⟨q,el,e3⟩:=Zz.mp e2;obtain⟨⟨x3,y3⟩,o,e4⟩:=Zs.mp e3;cases e4;obtain⟨va,q1,w2⟩:=s1.rp _ _ QC;rw[g1]at q1;cases q1;have w3:=s1.nd i t1 QC;refine⟨r,U1,q,s1,el,λR H2 Gs l MW MK=>?_⟩;show Jx G c mv g (V.ref a :: ((S :: R)++[])) H2 Q E0;rw[ZE];unfold kN at o;split at o
      ·rename_i c1 d fs;split at o
       ·rename_i Ph;obtain⟨rfl,JD,L,N4⟩:=Ph;obtain⟨⟨Hy,z⟩,eg,e7⟩:=Zz.mp o;split at e7
        ·rename_i Km;cases e7;have Px:Rp G H1 (.ref a) (.obj (c+1) ((0,.bl d) :: fs)) (r i):=w2;obtain⟨c2,a2,TF,b2,O6,RY,OO,TK,MM,Oh,RH,rfl,Ol,N7,G5,MD,OW⟩:=dI Px;cases MM;cases Oh;cases RH;have Jz:O6.length=OO.length:=G5.trans OW.len.1;have Te:KW r U1 H1 ((.fr,C.2) :: q) ([] :: Gs):=⟨λn v' P a1 a2=>by
          cases n with
          |zero=>cases a1;cases a2;exact Fp.nil
          |succ n=>exact MK.each n v' P (by simpa using a1) (by simpa using a2),by
          show ([]++Ha q Gs).Nodup;exact MK.nd⟩
         have Mb:=tU L Te;have R6:RpL G H2 (S :: R) (trees ((.fr,C.2) :: q)) ([] :: Gs):=.cons (r1.same l) MW;refine⟨a,S :: R,O6.zip OO,trees ((.fr,C.2) :: q),r i,[] :: Gs,Hy,z,rfl,?_,R6.at (Iu a) N4,?_,?_,?_,eg,λu H' P p ru=>?_⟩
         ·rw[Ol];exact .ins (l a _ N7) G5 (λ_=>rfl) ((OW.same l).at (Iu a) (dS Jz JD))
         ·rw[jy L];simp[trees]
         ·refine ZQ.mpr ⟨w3,Te.nd.sublist (mw L),λd t b2 MD z=>?_⟩;subst z;exact Gk.p0 (w2.GF d t) (Mb d MD)
         ·rw[oI L R6];exact λd _ z=>nomatch z
         ·have back:Rp G H' (.ref a) (.obj (c+1) ((0,.bl d) :: Hy)) P:=by
           obtain⟨c3,a3,dx3,b3,ns3,RX,PB,Fs3,ec3,RI,eb3,ef3,eF3,VY,LN,hb3,JZ⟩:=dI p.rp;cases ec3;cases RI;subst ef3;rw[eF3];exact .ins VY LN MD (JZ.at G.me (dS (LN.trans JZ.len.1) Km.1))
          have gG:Chg G H1 (.ref a) (r i) (.obj (c+1) ((0,.bl d) :: Hy)) H' P:=⟨(Kept.of l).trans p.kept,λd o1 t ho=>p.keep d o1 (λz=>(ZW.mp z).elim t λz=>by rw[Mb d z]at ho;cases ho) (l d o1 ho),λd h=>p.GF d λz=>h (l.free z),back,p.nd,λd t=>by
           rcases p.sub d t with z | z
           ·rcases ZW.mp z with z | z
            ·exact .inl z
            ·exact .inr (Mb d z)
           ·exact .inr (l.free z)⟩
          obtain⟨z1,z2⟩:=s1.mut QC g1 gG;exact kq u H' _ z1 (f1.trans z2) (ru.at G.me (m6 z Km.2))
        ·cases e7
       ·cases o
      ·cases o
     ·cases e2
    ·cases D
   ·cases e2
  ·cases e
end
noncomputable def LV(a:List Str)(k:Nat):Str:=match a[k]? with
 |some x=>x
 |none=>⟨#[k]⟩
def KO(a:List Str)(K:X3)(C D:KF):Gx:=⟨K,λc=>(if c=2 then D else C,LV a),λ_=>Y⟩
def AA{a:List Str}(i:a.Nodup)(h:∀x∈a,x.cps.size≠1)(k b:Nat)(e:LV a k=LV a b):k=b:=by
 unfold LV at e;by_cases f:k<a.length
 ·by_cases d:b<a.length
  ·rw[Zq f,Zq d]at e;exact(List.getElem_inj i).mp e
  ·rw[Zq f,ZD (ZL d)]at e;have g:a[k]=(⟨#[b]⟩:Str):=e;exact absurd (by rw[g];rfl) (h _ (Yy f))
 ·by_cases d:b<a.length
  ·rw[ZD (ZL f),Zq d]at e;have g:(⟨#[k]⟩:Str)=a[b]:=e;exact absurd (by rw[← g];rfl) (h _ (Yy d))
  ·rw[ZD (ZL f),ZD (ZL d)]at e;have g:(⟨#[k]⟩:Str)=⟨#[b]⟩:=e;cases g;rfl
def An{a:List Str}{K:X3}(b:a.Nodup)(h:∀x∈a,x.cps.size≠1):jq ((KO a K C D).at m):=λ_ k d e=>AA b h k d e
def fI(h:x∉a)(d:x.cps.size≠1)(k:Nat):LV a k≠x:=λe=>by
 unfold LV at e;split at e
 ·rename_i y b;exact h (e ▸ YK b)
 ·exact d (by rw[← e];rfl)
def vc{a:List Str}{K:X3}(b:a[k]?=Z f)(h:Hs K C)(g:Hs K D)(e:aU K C f)(d:aU K D f):G6 ((KO a K C D).at m) K k f :=
 ⟨λc=>by show LV a k=f;unfold LV;rw[b],λc=>by show Hs K (if c+1=2 then D else C);split<;>assumption,λc=>by show aU K (if c+1=2 then D else C) f;split<;>assumption⟩
structure MtAt(P:P3)(w:SZ)(K:X3)(mg:Wu)(base:SL)(k:Nat)(G:Gx)(c:Nat)(x:Str)(ps:List Str)(mv:List Bool)(g:Mt):Prop where
 ex:∃f fd,FnOk P w K mg base GX k f fd ps (Jx G c mv g)/\Meth K (G.ct (c+1)).1 x f/\Binds K fd ps []
 cl:Hs K (G.ct (c+1)).1
 no:∀k,(G.ct (c+1)).2 k≠x
structure MpAt(P:P3)(w:SZ)(K:X3)(mg:Wu)(base:SL)(k:Nat)(G:Gx)(c:Nat)(x:Str)(ps:List Str)(h:Fn):Prop where
 ex:∃f fd,FnOk P w K mg base GX k f fd ps (Iq G h)/\Meth K (G.ct (c+1)).1 x f/\Binds K fd ps []
 cl:Hs K (G.ct (c+1)).1
 no:∀k,(G.ct (c+1)).2 k≠x
structure InAt(P:P3)(w:SZ)(K:X3)(mg:Wu)(base:SL)(k:Nat)(G:Gx)(c n:Nat)(x:Str)(ps:List Str)(g:Mt):Prop where
 ex:∃f fd,FnOk P w K mg base GX k f fd ps (Jx G c (List.replicate n false) g)/\Mk K (G.ct (c+1)).1 f/\Binds K fd ps []
 mg:mg x=some (.ref (G.ct (c+1)).1)
section
variable{K:X3}
theorem MtAt.at{m:Me}(h:MtAt P w K mg base k G c x ps mv g):MtAt P w K mg base k (G.at m) c x ps mv g:=⟨h.ex,h.cl,h.no⟩
theorem InAt.at{P:P3}{w:SZ}{mg:Wu}{base:SL}{k c n:Nat}{G:Gx}{x:Str}{ps:List Str}{g:Mt}{m:Me}(h:InAt P w K mg base k G c n x ps g):InAt P w K mg base k (G.at m) c n x ps g:=⟨h.ex,h.mg⟩
def ka{G:Gx}(F:Gv K x b d f m)(q:Meth K (G.ct (c+1)).1 x f)(r:Hs K (G.ct (c+1)).1)(v:∀k,(G.ct (c+1)).2 k≠x)(S:gV N ps (ai d))(o:ps.length=j)(p:N.length=l)(u:∀(kV doc pm:KM)(an:Option KF)(h ct:KM)(i:Vx),i.length=ps.length->bindArgs (PySem.W.fnOf x b (cE d) (aZ d) (ai d) .none kV doc pm an h ct) ⟨i,[]⟩=pure (ps.zip i))(t:∀(a:KF)(h:KM)(A:Re)(outer:List PySem.Env)(s:GM)(H:Hp)(E:XK),pe k (A.deeper (envOfC b (ai d) s.heap.objs.size f h))->iw (G.at (Iu a)) (i7 GX P w K mg base N b (ai d) f h A outer s H E).IV (aZ d) e) :
  MtAt P w K mg base (k+1) G c x ps mv (HG c j l mv e):=⟨⟨f,m,Tf F S o p t,q,F.binds u⟩,r,v⟩
def Dh{G:Gx}(F:Gv K y b d f m)(q:Mk K (G.ct (c+1)).1 f)(r:mg x=Z (.ref (G.ct (c+1)).1))(S:gV N ps (ai d))(o:ps.length=j)(p:N.length=l)(u:∀(kV doc pm:KM)(an:Option KF)(h ct:KM)(i:Vx),i.length=ps.length->bindArgs (PySem.W.fnOf y b (cE d) (aZ d) (ai d) .none kV doc pm an h ct) ⟨i,[]⟩=pure (ps.zip i))(t:∀(a:KF)(h:KM)(A:Re)(outer:List PySem.Env)(s:GM)(H:Hp)(E:XK),pe k (A.deeper (envOfC b (ai d) s.heap.objs.size f h))->iw (G.at (Iu a)) (i7 GX P w K mg base N b (ai d) f h A outer s H E).IV (aZ d) e) :
  InAt P w K mg base (k+1) G c n x ps (HG c j l (List.replicate n B) e):=⟨⟨f,m,Tf F S o p t,q,F.binds u⟩,r⟩
def zv{G:Gx}(F:JJ K y d e f q)(u:Mk K (G.ct (c+1)).1 f)(v:mg x=Z (.ref (G.ct (c+1)).1))(S:gV N ps (ai e))(r:ps.length=m)(t:N.length=p)(C:∀(s:GM)(T:KF)(kV doc pm:KM)(an:Option KF)(i ct:KM)(o:Obj)(n:Nat)(j:Vx),K.In s.heap->K.lookup T=Z o->o.data=.seq #[.none] n->j.length=ps.length->BindsTo s (PySem.W.fnOf y d (cE e) (aZ e) (ai e) (.ref T) kV doc pm an i ct) ⟨j,[]⟩ (ps.zip j))(z:∀(a:KF)(i:KM)(A:Re)(outer:List PySem.Env)(s:GM)(H:Hp)(E:XK),pe k (A.deeper (envOfC d (ai e) s.heap.objs.size f i))->iw (G.at (Iu a)) (i7 GX P w K mg base N d (ai e) f i A outer s H E).IV (aZ e) h) :
  InAt P w K mg base (k+1) G c n x ps (HG c m p (List.replicate n B) h):=⟨⟨f,q,Ek (λl b=>F.ok S l b) r t z,u,F.binds C⟩,v⟩
def mn{G:Gx}(F:Gv K x a b f l)(p:Meth K (G.ct (c+1)).1 x f)(q:Hs K (G.ct (c+1)).1)(u:∀k,(G.ct (c+1)).2 k≠x)(S:gV N ps (ai b))(m:ps.length=i)(o:N.length=j)(t:∀(kV doc pm:KM)(an:Option KF)(e ct:KM)(h:Vx),h.length=ps.length->bindArgs (PySem.W.fnOf x a (cE b) (aZ b) (ai b) .none kV doc pm an e ct) ⟨h,[]⟩=pure (ps.zip h))(r:∀(e:KM)(A:Re)(outer:List PySem.Env)(s:GM)(H:Hp)(E:XK),pe k (A.deeper (envOfC a (ai b) s.heap.objs.size f e))->iw G (i7 GX P w K mg base N a (ai b) f e A outer s H E).IV (aZ b) d) :
  MpAt P w K mg base (k+1) G c x ps (fn i j d):=⟨⟨f,l,Rn F S m o r,p,F.binds t⟩,q,u⟩
def Av{G:Gx}{k:Nat}{g:Fn}(i:G.K=K)(F:FnOk P w K mg base GX k f b [y] (Iq G g))(e:∀ns:Vu,g [.scr ns]=Z (.fr,.bl M)) :
  FnOk P w K mg base GX k f b [y] (Iq (Ob K) zx):=F.imp λo H Q E h=>by
 obtain⟨p,s,m,r,j,a,q⟩:=h;unfold zx at a;split at a
 ·rename_i ns;cases a;cases j with
  |cons r1 r2 =>
   cases r2;cases r1 with
   |scr d=>exact⟨[.scr ns],[[]],.fr,.bl M,.cons (.scr (by rw[i];exact d)) .nil,e ns,λv l F e1 r f1=>q v l F e1 (by cases r;exact .bl _) f1⟩
 ·cases a
end
section
variable{X:Cx}
def gQ(C:jq G)(F:MtAt X.prog X.w X.K X.mg X.base k G c m ps mv g)(r:pe k' X.A)(t:k<=k')(s:Jf G X o i way)(u:GY G X (e :: es) cs)(D:{`q7,K1 e es X})(a:{`q7,K2 pos es X})(q:{`q7,eval (.Call (.Attribute o m apos) (e :: es) [] pos) X.env=(do
   let d ← eval o X.env
   standAt apos.atName
   let (f,first) ← holding [d] (getMethod d m l)
   callWith pos f first (backTo pos (Pi (e :: es) X.env)) (backToKw pos (SB [] X.env)))}):PX G X (.Call (.Attribute o m apos) (e :: es) [] pos) (bz i way c mv g cs):=by
 obtain⟨f,fd,z,y,v⟩:=F.ex;exact Ao C F.no s F.cl y z r t v u D a q
def vP(y:jq G)(F:MtAt X.prog X.w X.K X.mg X.base k G c m ps mv g)(q:pe k' X.A)(s:k<=k')(r:Jf G X o i way)(l:eval (.Call (.Attribute o m apos) [] [] pos) X.env=(do
   let a ← eval o X.env
   standAt apos.atName
   let (f,first) ← holding [a] (getMethod a m d)
   callWith pos f first (backTo pos (Pi [] X.env)) (backToKw pos (SB [] X.env)))):PX G X (.Call (.Attribute o m apos) [] [] pos) (bz i way c mv g af):=by
 obtain⟨f,fd,v,u,t⟩:=F.ex;exact xC y F.no r F.cl u v q s t l
def Di(F:MtAt X.prog X.w X.K X.mg X.base k G c m ps mv g)(t:pe k' X.A)(u:k<=k')(z:X.N[i]?=Z x)(r:HU X.env.scope x)(v:K3 x)(d:K4 x)(H:PX G X e xc)(y:GY G X es cs)(J:K1 e es X)(a:K2 pos es X)(s:eval (.Call (.Attribute (.Name x p1) m apos) (e :: es) [] pos) X.env=(do
   let l ← eval (.Name x p1) X.env
   standAt apos.atName
   let (f,first) ← holding [l] (getMethod l m q)
   callWith pos f first (backTo pos (Pi (e :: es) X.env)) (backToKw pos (SB [] X.env)))):PX G X (.Call (.Attribute (.Name x p1) m apos) (e :: es) [] pos) (oa i c mv g xc cs):=by
 obtain⟨f,fd,E,D,C⟩:=F.ex;exact zE F.no z r v d F.cl D E t u C H y J a s
def AC(F:MpAt X.prog X.w X.K X.mg X.base k G c m ps h)(r:pe k' X.A)(t:k<=k')(s:PV G X o ca)(u:GY G X (e :: es) cs)(C:K1 e es X)(a:K2 pos es X)(q:eval (.Call (.Attribute o m apos) (e :: es) [] pos) X.env=(do
   let d ← eval o X.env
   standAt apos.atName
   let (f,first) ← holding [d] (getMethod d m l)
   callWith pos f first (backTo pos (Pi (e :: es) X.env)) (backToKw pos (SB [] X.env)))):PV G X (.Call (.Attribute o m apos) (e :: es) [] pos) (dG c h ca cs):=by
 obtain⟨f,fd,z,y,v⟩:=F.ex;exact Cq F.no s F.cl y z r t v u C a q
def iR(F:MpAt X.prog X.w X.K X.mg X.base k G c m ps h)(q:pe k' X.A)(s:k<=k')(r:PV G X o ca)(l:eval (.Call (.Attribute o m apos) [] [] pos) X.env=(do
   let a ← eval o X.env
   standAt apos.atName
   let (f,first) ← holding [a] (getMethod a m d)
   callWith pos f first (backTo pos (Pi [] X.env)) (backToKw pos (SB [] X.env)))):PV G X (.Call (.Attribute o m apos) [] [] pos) (dG c h ca af):=by
 obtain⟨f,fd,v,u,t⟩:=F.ex;exact zC F.no r F.cl u v q s t l
def xr{e:Ex}:∀(U:VS.Env)(d:Vq),ab e af U=Z d->d.length=1:=λU d h=>by
 obtain⟨a,_,h⟩:=Zz.mp h;cases h;rfl
def rV(F:InAt X.prog X.w X.K X.mg X.base k G c n x ps g)(l:pe k' X.A)(r:k+1<=k')(t:GY G X (e :: es) cs)(q:∀U d,cs U=Z d->d.length=n)(s:Gl X x)(z:K3 x)(he:K1 e es X)(a:K2 pos es X):PV G X (.Call (.Name x p) (e :: es) [] pos) (eNew c g cs):=by
 obtain⟨f,fd,y,v,u⟩:=F.ex;exact DJ n v y l r s F.mg u t q z he a
def Ac(F:InAt X.prog X.w X.K X.mg X.base k G c 0 x ps g)(a:pe k' X.A)(d:k+1<=k')(l:Gl X x)(t:K3 x):PV G X (.Call (.Name x p) [] [] pos) (eNew c g af):=by
 obtain⟨f,fd,s,r,q⟩:=F.ex;exact Dd r s a d l F.mg q t
def pS{apos pos:Pos}(u:jq G)(d:Jf G X o i way)(q:GY G X [e] cs)(s:{`q7,X.K=G.K})(y:{`q7,UF o "append" X.env (eval o X.env)=eval o X.env})(D:{`q7,((backTo cg (Pi [e] X.env)).all (λx=>!x.1)&&(backToKw cg (SB [] X.env)).all (λx=>x.1.isSome)
   && decide ([e].length+([]:List Keyword).length+(if ([]:List Keyword).isEmpty then 0 else 1)<30))=M})(C:{`q7,(apos.endLine==cg.line)=M})(a:{`q7,K1 e [] X})(A:{`q7,(backTo cg (Pi [] X.env)).any (·.1)=B})(w:{`q7,swapsWith (.Call (.Attribute o "append" apos) [e] [] cg) Y pos.line X.env=pure B}) :
  PSV G X (.Expr (.Call (.Attribute o "append" apos) [e] [] cg) pos) (sX (g9 i way aB cs)) :=
 xI u Xu XM XO gF kA (λH v t F l z r h=>kP r h) d q s y D C a A w
end
section
variable{X:Cx}
def R1(b:Nat)(x:Val):Vp:=match x with
 | (_,.tup d)=>if b<d.length/\(d.take b).all OU then Z (.fr,.tup (d.take b)) else Y
 |_=>Y
def nK(a:Ex)(b:Nat)(U:VS.Env):Vp:=(a U).bind (R1 b)
def Dw:∀{d:List V}{b:Vo}{f:Xq},RpL G H d b f->b.all OU=M->RpL G h d b (List.replicate b.length []):=by
 intro d b
 induction b generalizing d with
 |nil=>intro f r _;cases r;exact .nil
 |cons t b g =>
  intro f r e;rw[X7,Yg]at e;cases r with
  |cons q r=>exact .cons (A9 e.1 q).2 (g r e.2)
def yU{b:Nat}(A:PV G X a ca)(C:{`q2,X.K=G.K}):PV G X (.Subscript a (.Slice Y (Z (.Constant (.int (b:Int)) j n)) Y o) pos) (nK ca b) :=
 PE.weak (qL CG A p5 (p7 ak)) λJ H Q u=>by
  obtain⟨O,U,m,t,s,e,k⟩:=u;unfold nK at e;obtain⟨⟨r,x⟩,L,d⟩:=Zz.mp e;refine⟨O,U,r,x,s,L,λv H1 F e1 r1 f1=>⟨O,U,Y,s.same e1,rfl,λH2 e2=>⟨O,U,Z (b:Int),(s.same e1).same e2,rfl,λR e3=>?_⟩⟩⟩;have P:aJ H R:=(e1.trans e2).trans e3;have l:=(r1.same e2).same e3;unfold R1 at d;split at d
  ·rename_i m' g q;cases q;split at d
   ·rename_i y;cases d;cases l with
    |tup S h =>
     rename_i N f Fs;have el:f.length=g.length:=h.len.1;have i:min b f.length=b:=Wy (by omega);refine⟨N,f,rfl,by rw[C];exact GV.of S,?_,λp w=>?_⟩
     ·rw[HT.ux,i];intro z;omega
     ·have E:nB f Y (Z (b:Int))=f.take b:=by
       unfold nB;rw[HT.ux,i];rfl
      rw[E];have D:(List.replicate (g.take b).length ([]:W6)).flatten=[]:=by simp
      refine k (.ref p) _ ((List.replicate (g.take b).length ([]:W6)).flatten) (P.trans (bQ w)) (.tup ay (Dw (h.take b) y.2)) ?_;rw[D];exact Fp.nil
   ·cases d
  ·cases d
end
inductive Ia where | io (i:Nat) (un:Bool) | ex (c:Ex)
abbrev Xt:=VS.Env->Option (Bool×VS.Env)
end VS
end
section
namespace VS
open PySem PySem.Spec PyProof.Rows L2
def x2(f:Val->Val->Vp)(a b:Xx):Xx:=λU=>(a U).bind λz=>(b z.2).bind λw=>(f (.fr,z.1.2) (.fr,w.1.2)).bind λv=>if FZ z.1.2=M/\FZ w.1.2=M/\FZ v.2=M then Z ((.fr,v.2),w.2) else Y
inductive Ix where | io (i:Nat) (un:Bool) | px (x:Xx)
def rh(n:Nat)(x:Xx):Sx:=λU=>match (U[n]?:Option (Vr)) with
 |some (some (.ow (.lst _)))=>(x U).bind λz=>match (z.2[n]?:Option (Vr)) with
  |some (some (.ow t))=>if FZ z.1.2=M then (aB t [(.fr,z.1.2)]).map λw=>.nx (z.2.set n (Z (.ow w.1))) else Y
  |_=>Y
 |_=>Y
section
variable{X:Cx}{lo:Option Expr}
def zm{pos:Pos}{d:Pos}(i:Nat)(hN:X.N[i]?=Z n)(hv:HU X.env.scope n)(hd:K3 n)(r:K4 n)(h:PX G X e x)(hK:X.K=G.K)(Gr:UF (.Name n l) "append" X.env (eval (.Name n l) X.env)=eval (.Name n l) X.env)(GI:((backTo f (Pi [e] X.env)).all (λx=>!x.1)&&(backToKw f (SB [] X.env)).all (λx=>x.1.isSome)
   && decide ([e].length+([]:List Keyword).length+(if ([]:List Keyword).isEmpty then 0 else 1)<30))=M)(Gd:(d.endLine==f.line)=M)(C:K1 e [] X)(Gm:(backTo f (Pi [] X.env)).any (·.1)=B)(JA:swapsWith (.Call (.Attribute (.Name n l) "append" d) [e] [] f) Y pos.line X.env=pure B) :
  PSV G X (.Expr (.Call (.Attribute (.Name n l) "append" d) [e] [] f) pos) (rh i x) :=
 PS.weak (iV (nX Xu XM XO gF (eQ hN hv hd r) (d7 h jh C) Gr GI Gd C Gm) JA) λD J H hq=>by
  obtain⟨O,U,o,s,e,k⟩:=hq;unfold rh at e;split at e
  ·rename_i l0 VI;obtain⟨m,y,r0⟩:=s.rp _ _ VI;obtain⟨z,e1,e2⟩:=Zz.mp e;split at e2
   ·rename_i t q;split at e2
    ·rename_i M7;obtain⟨⟨S,P⟩,e3,e4⟩:=Zs.mp e2;cases e4;refine⟨m,y,by rw[hK];exact mD r0,O,U,z.1,z.2,s,e1,M7,λw A L p f2 r2=>?_⟩;obtain⟨v1,E,r1⟩:=p.rp _ _ q;rw[y]at E;cases E;show pP m [w] A (λx H1=>D.nx J H1);refine kA L z.2 A A m t S (L i) [(.fr,z.1.2)] [w] [[]] P _ r1 (p.nd i t q) ⟨aJ.refl _,.cons r2 .nil,⟨λj v F a b=>?_,by simp[Ha]⟩⟩ e3 λu H3 F' g=>?_
     ·cases j with
      |zero=>cases (show Z ((.fr,z.1.2):Val)=Z v from a);cases (show Z ([]:W6)=Z F from b);exact Fp.nil
      |succ j=>simp at a
     ·obtain⟨R,Q⟩:=p.mut q y g;exact k _ J H3 R (f2.trans Q)
    ·cases e2
   ·cases e2
  ·cases e
end
end VS
end
section
namespace L2
open PySem PySem.Spec PyProof.Rows
noncomputable def iz(a:P3)(w:SZ)(A:Re)(d:KF)(S:SL->Prop):Prop:=∀(s:GM)(Q:Z1)(E:Z1),S s.heap →
  (∀b e,Heap.ExtBut d s.heap b->(∃o,b.get? e=Z o/\o.cls=.type "StopIteration")->E (.ref e) { s with heap:=b })->On (IR a w) A (Builtin.SmallTypes.nextOf (.ref d)) Q E s
section
def vz{prog:P3}{w:SZ}{A:Re}{E:Z1}{s:GM}{z TI TO p j F:KF}{fp:W6}{n k G:Nat}{P:Nat->KM->Prop}{St:Nat->SL->Prop}{ys:Array KM}{a b:KM}{Q:Z1}(hh:A.handled=Y)(D:ZipApart z TI TO p j F F)(Dr:Draws prog w A p fp n P St)(hf:∀c∈fp,c≠z/\c≠TO/\c≠j)(S:IsZip s.heap z TI TO .none)(LS:IsPair s.heap TI (.ref p) (.ref j))(LR:IsPair s.heap TO a b)(h1:St k s.heap)(h2:s.heap.IsListIter j F G)(G5:s.heap.IsList F ys)(hd:(¬k<n/\iz prog w A p (St k))\/k<n)(hQ:∀x y i C,k<n->ys[G]?=Z y->P k x->IsZip i z TI TO (rawInt s.heap.objs.size)->IsPair i TO x y->St (k+1) i->i.IsListIter j F (G+1)->IsPair i s.heap.objs.size x y->i.objs.size=s.heap.objs.size+1 →
   (∀c o,c≠z->c≠TO->c≠p->c≠j->s.heap.get? c=Z o->i.get? c=Z o)->Q (.ref s.heap.objs.size) { s with heap:=i,toks:=C })(hE:∀i e C,¬k<n\/ys[G]?=Y->(∀c o,c≠z->c≠TO->c≠p->c≠j->s.heap.get? c=Z o->i.get? c=Z o)->(∃o,i.get? e=Z o/\o.cls=.type "StopIteration")->E (.ref e) { s with heap:=i,toks:=C }) :
  On (IR prog w) A (Builtin.«zip.__next__» ⟨[.ref z],[]⟩) (λfin s'=>∃v,fin=.done (.ret v)/\Q v s') E s:=by
 show On _ _ (field (.ref z) 2>>=_) _ _ _;refine Zy (Xv S L (x:=.bool B) L ?_);show On _ _ (field (.ref z) 3>>=_) _ _ _;refine Zy (Xv S L (x:=.ref TI) L ?_);refine Zy (X8 LS L ?_);show On _ _ (Builtin.SmallTypes.ownedTupleIsFree (.ref z)>>=_) _ _ _;refine Zy ?_;unfold Builtin.SmallTypes.ownedTupleIsFree;refine Zy (Xv S L (x:=.none) L (Zr ?_));simp only[if_true];refine Zy (Wm ?_);refine Zy (Xv S L (x:=.ref TO) L ?_);refine Zy (Xb S (by simp) λh₁ Hj r=>?_);replace Hj:IsZip h₁ z TI TO .ellipsis:=Hj;refine Zy ?_;simp only[List.zipIdx_cons,List.zipIdx_nil,WX,List.forIn_nil];refine Zy (Zy (wpAny_onRaise ?_));show On _ _ (Builtin.SmallTypes.nextOf (.ref p)>>=_) _ _ _;have IC:St k h₁:=Dr.frame _ _ _ h1 λc hc o e=>r.extBut _ _ (hf c hc).1 e;rcases hd with⟨hn,hk⟩ | hk
 ·refine Zy (hk _ _ _ IC λR e h he=>?_);obtain⟨oe,u,N0⟩:=he;have LL:IsZip R z TI TO .ellipsis:=h _ _ D.i1z.symm Hj;have QT:e≠z:=λx=>by subst x;rw[LL]at u;cases u;simp at N0
  exact Xb LL (by simp) λO _ g=>hE O e s.toks (.inl hn) (λc o f _ t _ x=>g.extBut _ _ f (h _ _ t (r.extBut _ _ f x))) ⟨oe,g.extBut _ _ QT u,N0⟩
 refine Zy (Dr.item k _ _ _ hk IC λx R C hP Kr h=>Zr ?_);have h:Heap.SameBut p h₁ R:=h;have Kq:IsPair R TO a b:=h.extBut _ _ D.TOi1 (r.extBut _ _ D.TOz LR);refine Zy (X8 Kq L ?_);refine Zy (wpAny_updateSeq_pair Kq λO Jb g=>?_);replace Jb:IsPair O TO x b:=Jb;have g:Heap.SameBut TO R O:=g;refine Zy (wpAny_letGo (Zr ?_));refine Zy (Zy (wpAny_onRaise ?_));show On _ _ (Builtin.SmallTypes.nextOf (.ref j)>>=_) _ _ _;have LH:=((h2.extBut r.extBut D.i2z).extBut h.extBut D.i12.symm).extBut g.extBut D.TOi2.symm;have LD:=((G5.extBut r.extBut D.l2z).extBut h.extBut D.l2i1).extBut g.extBut D.l2TO;cases hy:ys[G]? with
 |none =>
  refine Zy (WI (by exact hh) LH LD hy λN e l he=>?_);obtain⟨oe,u,N0⟩:=he;have LK:IsZip N z TI TO .ellipsis:=l _ _ D.i2z.symm (g.extBut _ _ D.TOz.symm (h.extBut _ _ D.i1z.symm Hj));have QT:e≠z:=λx=>by subst x;rw[LK]at u;cases u;simp at N0
  exact Xb LK (by simp) λd _ m=>hE d e C (.inr hy) (λc o f H t X x=>m.extBut _ _ f (l _ _ X (g.extBut _ _ H (h.extBut _ _ t (r.extBut _ _ f x))))) ⟨oe,m.extBut _ _ QT u,N0⟩
 |some y =>
 refine Zy (wpAny_nextOf_list_item LH LD hy λN N9 l=>Zr ?_);have l:Heap.SameBut j O N:=l;have Kp:IsPair N TO x b:=l.extBut _ _ D.TOi2 Jb;refine Zy (X8 Kp L ?_);refine Zy (wpAny_updateSeq_pair Kp λd Ik m=>?_);replace Ik:IsPair d TO x y:=Ik;have m:Heap.SameBut TO N d:=m;refine Zy (wpAny_letGo (Zr (Zr ?_)));refine Zy (X8 Ik L ?_);refine Zy (wpAny_newTuple ?_);have U:d.objs.size=s.heap.objs.size:=by rw[m.1,l.1,g.1,h.1,r.1]
 have LJ:IsZip d z TI TO .ellipsis:=m.extBut _ _ D.TOz.symm (l.extBut _ _ D.i2z.symm (g.extBut _ _ D.TOz.symm (h.extBut _ _ D.i1z.symm Hj)));have NY:∀c o,c≠z->c≠TO->c≠p->c≠j->s.heap.get? c=Z o->d.get? c=Z o:=λc o f H t X e =>
  m.extBut _ _ H (l.extBut _ _ X (g.extBut _ _ H (h.extBut _ _ t (r.extBut _ _ f e))))
 have N8:d.IsListIter j F (G+1):=N9.extBut m.extBut D.TOi2.symm;have NR:z<d.objs.size:=Za LJ;show On _ _ (Builtin.SmallTypes.ownedTupleHandOut (.ref z) (.ref d.objs.size)>>=_) _ _ _;refine Zy ?_;unfold Builtin.SmallTypes.ownedTupleHandOut;have NQ:IsZip (d.push { cls:=.type "tuple",data:=.seq #[x,y] }) z TI TO .ellipsis:=Zw _ LJ;refine Zy (Xb NQ (by simp) λh₇ Kg Kj=>?_);replace Kg:IsZip h₇ z TI TO (rawInt d.objs.size):=Kg;refine Xb Kg (by simp) λJ Jn Ki=>?_;replace Jn:IsZip J z TI TO (rawInt d.objs.size):=Jn;have up:∀c o,c≠z->d.get? c=Z o->J.get? c=Z o:=λc o f e=>Ki.extBut _ _ f (Kj.extBut _ _ f (Zw _ e));have LQ:IsPair J d.objs.size x y:=Ki.extBut _ _ (Xp NR) (Kj.extBut _ _ (Xp NR) (Zh _ L));have Sy:J.objs.size=d.objs.size+1:=by rw[Ki.1,Kj.1,Z9]
 rw[U]at Jn LQ Sy;refine Zr ⟨_,rfl,?_⟩;show Q (.ref d.objs.size) _;rw[U];exact hQ x y J C hk hy hP Jn (up _ _ D.TOz Ik) (Dr.frame _ _ _ Kr λc hc o e=>by
  have q:=hf c hc;exact up _ o q.1 (m.extBut _ _ q.2.1 (l.extBut _ _ q.2.2 (g.extBut _ _ q.2.1 e)))) (N8.at λo e=>up _ o D.i2z e) LQ Sy λc o f H t X e=>up c o f (NY c o f H t X e)
def vh{prog:P3}{w:SZ}{A:Re}{E:Z1}{s:GM}{z TI TO h f i:KF}{u:W6}{n k l:Nat}{P:Nat->KM->Prop}{St:Nat->SL->Prop}{m:Array KM}{a b:KM}{Q:Vw->GM->Prop}(D:ZipApart z TI TO h f i i)(Dr:∀j:Re,j.handled=Y->Draws prog w j h u n P St)(H:∀c∈u,c≠z/\c≠TO/\c≠f)(p:A.handled=Y)(r:IsZip s.heap z TI TO .none)(LS:IsPair s.heap TI (.ref h) (.ref f))(LR:IsPair s.heap TO a b)(S:St k s.heap)(R:s.heap.IsListIter f i l)(G5:s.heap.IsList i m)(J:(¬k<n/\∀j:Re,j.handled=Y->iz prog w j h (St k))\/k<n)(N:∀x y d g,k<n->m[l]?=Z y->P k x->IsZip d z TI TO (rawInt s.heap.objs.size)->IsPair d TO x y->St (k+1) d->d.IsListIter f i (l+1)->IsPair d s.heap.objs.size x y->d.objs.size=s.heap.objs.size+1 →
   (∀c o,c≠z->c≠TO->c≠h->c≠f->s.heap.get? c=Z o->d.get? c=Z o)->Q (Z (.ref s.heap.objs.size)) { s with heap:=d,toks:=g })(O:∀d g,¬k<n\/m[l]?=Y->(∀c o,c≠z->c≠TO->c≠h->c≠f->s.heap.get? c=Z o->d.get? c=Z o)->Q Y { s with heap:=d,toks:=g }):On (IR prog w) A (pyNext (.ref z)) Q E s:=by
 have t:s.TypeIs (.ref z) "zip" := ⟨_,r,rfl⟩
 unfold pyNext;refine Zy (wpAny_attempt (Xj (name:=Str.ofString "__next__") t WJ
  (YO WJ t F.entry_zip_next
   (vz p D (Dr _ p) H r LS LR S R G5 (J.imp (λq=>⟨q.1,q.2 _ p⟩) id) (λx y d g X U a0 a1 a2 a3 a4 a5 a6 a7=>Zr (N x y d g X U a0 a1 a2 a3 a4 a5 a6 a7)) λd e g v G he=>?_) (F.args_zip_next_1 _))))
 obtain⟨o,C,L⟩:=he;refine Zy (Ww (T := "StopIteration") (b:=M) ⟨o,C,L⟩ WD ?_);exact Zr (O _ _ v G)
end
noncomputable abbrev zF(h:SL)(x:Str)(t:Tok):Heap:=h.push { cls:=.type (strIterType x),data:=.fields #[.str x t,.int 0 0] }
abbrev AB(h:SL)(x:Str)(t:Tok)(a:KF):Heap:=(zF h x t).push { cls:=.type "list_iterator",data:=.fields #[.ref a,.int 0 0] }
abbrev yZ(h:SL)(x:Str)(t:Tok)(a:KF):Heap:=(AB h x t a).push { cls:=.type "tuple",data:=.seq #[.ref h.objs.size,.ref (zF h x t).objs.size] }
abbrev Ap(h:SL)(x:Str)(t:Tok)(a:KF):Heap:=(yZ h x t a).push { cls:=.type "tuple",data:=.seq #[.none,.none] }
abbrev sQ(h:SL)(x:Str)(t:Tok)(a:KF):Heap:=(Ap h x t a).push { cls:=.type "zip",data:=.fields #[.none,.bool B,.bool B,.ref (AB h x t a).objs.size,.ref (yZ h x t a).objs.size] }
def m8(x:Str)(t:Tok)(a:KF)(b:Array KM) :
  Meets (Builtin.«zip.__new__» ⟨[.type "zip",.str x t,.ref a],[]⟩) (λ_ R s=>s.heap.IsList a b ∧
   R (.ok (.ret (.ref (Ap s.heap x t a).objs.size))) { s with heap:=sQ s.heap x t a }) :=
 .of_wp λprog w A R s h=>by
  obtain⟨f,g,d,e,os⟩:=s;obtain⟨j,h⟩:=h;have l:=sub_zip;have i:Heap.IsList (Shared.heap ⟨f.push { cls:=.type (strIterType x),data:=.fields #[.str x t,.int 0 0] },g,d,e,os⟩) a b:=Heap.IsList.push j _
  wp_walk using wpAny_pyIter_strU,wpAny_pyIter_list i
  exact⟨_,rfl,h⟩
section
def uI{s:GM}(r:s.heap.IsList a j)(h:∀b,IsZip b (s.heap.objs.size+4) (s.heap.objs.size+2) (s.heap.objs.size+3) .none->IsPair b (s.heap.objs.size+2) (.ref s.heap.objs.size) (.ref (s.heap.objs.size+1)) →
   IsPair b (s.heap.objs.size+3) .none .none->b.IsStrIter s.heap.objs.size (strIterType x) x t 0->b.IsListIter (s.heap.objs.size+1) a 0->b.objs.size=s.heap.objs.size+5 →
   (∀c o,s.heap.get? c=Z o->b.get? c=Z o)->Q (.ref (s.heap.objs.size+4)) { s with heap:=b }) :
  On (IR prog w) A (call (.type "zip") [.str x t,.ref a]) Q E s:=by
 refine callType_new F.called_zip (by decide) (F.typeCall_zip_2 _ _) (F.newCall_zip_2 _ _) (λobj=>F.args_object_init_3 obj _ _) F.entry_zip_new
  (m8 x t a j) ⟨r,?_⟩
 have g:(zF s.heap x t).objs.size=s.heap.objs.size+1:=Z9 ..;have f:(AB s.heap x t a).objs.size=s.heap.objs.size+2:=by rw[Z9,g]
 have e:(yZ s.heap x t a).objs.size=s.heap.objs.size+3:=by rw[Z9,f]
 have d:(Ap s.heap x t a).objs.size=s.heap.objs.size+4:=by rw[Z9,e]
 have p:(sQ s.heap x t a).objs.size=s.heap.objs.size+5:=by rw[Z9,d]
 have i:(sQ s.heap x t a).get? (Ap s.heap x t a).objs.size=Z _:=Zh _ L;have l:(sQ s.heap x t a).get? (yZ s.heap x t a).objs.size=Z _:=Zw _ (Zh _ L);have m:(sQ s.heap x t a).get? (AB s.heap x t a).objs.size=Z _:=Zw _ (Zw _ (Zh _ L));have n:(sQ s.heap x t a).get? (zF s.heap x t).objs.size=Z _:=Zw _ (Zw _ (Zw _ (Zh _ L)));have q:(sQ s.heap x t a).get? s.heap.objs.size=Z _:=Zw _ (Zw _ (Zw _ (Zw _ (Zh _ L))));show _/\_;rw[f,e,d]at i;rw[g,f]at m;rw[e]at l;rw[g]at n;rw[d];exact⟨⟨_,i,rfl⟩,h _ i m l ⟨_,q,rfl,rfl⟩ ⟨_,n,rfl,rfl⟩ p λc o x =>
  Zw _ (Zw _ (Zw _ (Zw _ (Zw _ x))))⟩
end
def vg{P:P3}{w:SZ}(a:KF)(x:Str)(t:Tok)(A:Re)(b:A.handled=Y):Draws P w A a [a] x.cps.size (λi v=>∃c u,x.cps[i]?=Z c/\v=.str ⟨#[c]⟩ u) (λi h=>h.IsStrIter a (strIterType x) x t i):=by
 cases d:x.cps.all (· < 128)
 ·have e:strIterType x = "str_iterator" := by simp[strIterType,d]
  rw[e];exact Draws.strWide b a x t
 ·have e:strIterType x = "str_ascii_iterator" := by simp[strIterType,d]
  rw[e];exact Draws.strAscii b a x t
def vT(b:KF)(x:Str)(t:Tok)(i:Nat)(d:x.cps.size<=i)(A:Re)(f:A.handled=Y):iz P w A b (λh=>h.IsStrIter b (strIterType x) x t i):=by
 cases g:x.cps.all (· < 128)
 ·have e:strIterType x = "str_iterator" := by simp[strIterType,g]
  rw[e];exact λs Q E st a=>wpAny_nextOf_wide_end f st (by simp[d]) a
 ·have e:strIterType x = "str_ascii_iterator" := by simp[strIterType,g]
  rw[e];exact λs Q E st a=>wpAny_nextOf_ascii_end f st (by simp[d]) a
end L2
end
section
namespace VS
open PySem PySem.Spec PyProof.Rows L2
def rg(i:Nat)(c:GG):Xx:=λU=>match (U[i]?:Option (Vr)) with
 |some (some (.ow (.lst l)))=>(c U).bind λa=>match a with
  |[(_,.int j)]=>if cL l=M/\0<=j/\j<l.length/\j<4611686018427387904 then Z ((.fr,l.getD j.toNat .non),U.set i (Z (.ow (.lst (l.eraseIdx j.toNat))))) else Y
  |_=>Y
 |_=>Y
def xR(g:Tg)(c:Ex):Sx:=λU=>(c U).bind λv=>if FZ v.2 then (g v.2 U).map .nx else Y
def qB(x y z:Val):Vp:=match x.2 with
 |.dct 0 l=>if gK y.2/\FZ z.2 then Z (match cS l y.2 with | some t=>sub x.1 t | none=>(.fr,z.2)) else none
 |_=>Y
noncomputable def e3(f:Val->Val->Val->Vp)(a b c:Ex):Ex:=λU=>(a U).bind λx=>(b U).bind λy=>(c U).bind λz=>f x y z
def tW:Val->Val->Vp
 | (_,.tup s),(_,.tup t)=>if s≠[]/\t≠[]/\cL s=M/\cL t=M/\s.length+t.length<=dq then Z (.fr,.tup (s++t)) else Y
 |_,_=>Y
section
variable{X:Cx}
def Bz{apos:Pos}(i:Nat)(A:GY G X [e] cs)(hK:X.K=G.K)(hN:X.N[i]?=Z x)(hv:HU X.env.scope x)(hd:K3 x)(u:K4 x)(GI:((backTo cg (Pi [e] X.env)).all (λx=>!x.1)&&(backToKw cg (SB [] X.env)).all (λx=>x.1.isSome)
   && decide ([e].length+([]:List Keyword).length+(if ([]:List Keyword).isEmpty then 0 else 1)<30))=M)(Gd:(apos.endLine==cg.line)=M)(hs:K1 e [] X) :
  PX G X (.Call (.Attribute (.Name x p1) "pop" apos) [e] [] cg) (rg i cs) :=
 PE.weak (nX Xu PySem.F.slot_list_pop PySem.F.type_list_pop we (eQ hN hv hd u) A L GI Gd hs L) λJ H Q hq=>by
  obtain⟨O,U,z,U',s,e,M7,k⟩:=hq;unfold rg at e;split at e
  ·rename_i d t;obtain⟨l,el,e1⟩:=Zz.mp e;split at e1
   ·rename_i mi j;split at e1
    ·rename_i hc;obtain⟨R,h0,hj,hb⟩:=hc;cases e1;obtain⟨v,S,r⟩:=s.rp _ _ t;refine⟨v,S,by rw[hK];exact mD r,O,U,_,s,el,λvs h Fs m q2 q3=>?_⟩;have nd:=s.nd i _ t;obtain⟨a,f,Gs,rfl,D,A,p⟩:=r.lst_inv;rw[show i8 (.ow (.lst d))=.lst d from rfl]at r;have Gy:(a :: Gs.flatten).Nodup:=by rw[← D];exact nd
     obtain⟨w,Fw,rfl,rfl,Ih⟩:=(show RpL G h vs [.int j] Fs from q2).one;have MF:h a=Z (.lst f):=m a _ A;have q:Gk (h a):=by rw[MF];exact True.intro
     have na:a∉Gs.flatten:=(Zd.mp Gy).1;have hl:f.length=d.length:=p.len.1;have hu:j.toNat<f.length:=by omega
     have E:j.toNat<d.length:=by omega
     obtain⟨y,F0,g1,g2,g3⟩:=(p.same m).get j.toNat (Zq E);have e0:=pk _ R (Zq E);have C:=g3.FZ e0;subst C;refine⟨a,f,j,j.toNat,y,rfl,by rw[Ih.int_inv],MF,by lia,by omega,?_,g1,?_⟩
     ·unfold seqIndex?;simp;lia
     have P:=(((p.same m).off q na).erase (G:=G) (H:=upd h a (.lst (f.eraseIdx j.toNat))) j.toNat)
     have hf:=RpL.FZ P (mG d j.toNat R);have r1:Rp G (upd h a (.lst (f.eraseIdx j.toNat))) (.ref a) (.lst (d.eraseIdx j.toNat)) (a :: (Gs.eraseIdx j.toNat).flatten):=.lst ay P;rw[hf]at r1;have ch:Chg G H (.ref a) (O i) (.lst (d.eraseIdx j.toNat)) (upd h a (.lst (f.eraseIdx j.toNat))) [a]:=Chg.upd m (by rw[D];exact Zu) q r1 (by simp) λb hb=>.inl (by rw[Zf.mp hb,D];exact Zu);obtain⟨w1,w2⟩:=s.mut t S ch;refine k y _ _ w1 w2 ?_;have eg:d.getD j.toNat .non=d[j.toNat]:=by rw[Zv,Zq E];rfl
     show Rp G _ y (d.getD j.toNat .non) [];rw[eg];exact g3.keep (Kept.upd (.inl q)) λb hb=>nomatch hb
    ·cases e1
   ·cases e1
  ·cases e
def vR{pos:Pos}(he:PV G X e ce)(q:MT G X tg g)(l:swapsWithSole [tg] e pos.line X.env=pure B)(hw:swappedStores [tg] e X.env=pure Y)(u:(assignEach [tg] X.env).map (·.2)=[assign tg X.env]):PSV G X (.Assign [tg] e pos) (xR g ce) :=
 PS.weak (oR he q l hw u) λD J H p=>by
  obtain⟨O,U,o,s,e,k⟩:=p;obtain⟨⟨m,t⟩,y,e1⟩:=Zz.mp e;split at e1
  ·rename_i L;obtain⟨C,w,e2⟩:=Zs.mp e1;cases e2;refine⟨O,U,m,t,s,y,λv P F e3 f Q=>?_⟩;have A:=f.FZ L;subst A;refine⟨O,U,t,[],C,s.same e3,f,λa d=>(by cases d),w,λE N j i r=>k E N P j ⟨λa o d n=>⟨e3 a o d,λz=>n (i a z)⟩,λa d=>?_,λa z=>.inl (i a z),λa z=>(r a z).elim .inl λz=>(by cases z),Kept.of e3⟩⟩;cases h:H a with
   |none=>exact absurd h d
   |some o=>rw[e3 a o h];exact λz=>nomatch z
  ·cases e1
def Ck{apos:Pos}(hr:pe kr X.A)(ho:PV G X o ca)(he:PV G X e cb)(hf:PV G X c cc)(Gr:UF o "get" X.env (eval o X.env)=eval o X.env)(GI:((backTo cg (Pi [e,c] X.env)).all (λx=>!x.1)&&(backToKw cg (SB [] X.env)).all (λx=>x.1.isSome)
   && decide (([e,c]:List Expr).length+([]:List Keyword).length+(if ([]:List Keyword).isEmpty then 0 else 1)<30))=M)(Gd:(apos.endLine==cg.line)=M)(QB:backTo cg (Pi [e,c] X.env)=[(B,eval e X.env),(B,eval c X.env)]):PV G X (.Call (.Attribute o "get" apos) [e,c] [] cg) (e3 qB ca cb cc) :=
 PE.weak (xE (jd hr) ho he hf ⟨Gr,GI,Gd,QB⟩) λJ H Q hq=>by
  obtain⟨O,U,m,r,s,e,E⟩:=hq;obtain⟨⟨m1,x⟩,ea,e⟩:=Zz.mp e;obtain⟨⟨m2,y⟩,eb,e⟩:=Zz.mp e;obtain⟨⟨S,z⟩,ed,e⟩:=Zz.mp e;unfold qB at e;split at e
  ·rename_i l L;dsimp only at L;subst L;split at e
   ·rename_i N;have d:=Zk e;refine⟨O,U,m1,_,s,ea,λv H1 F1 h r1 f1=>?_⟩;obtain⟨a,ks,vs,ts,Fs,rfl,rfl,p,hl,rfl,q⟩:=dD r1;refine⟨a,rfl,.inl ⟨_,.inl p⟩,O,U,m2,y,s.same h,eb,λv2 H2 F2 j r2 f2=>⟨O,U,S,z,(s.same h).same j,ed,λP C F3 w D f3=>?_⟩⟩;obtain⟨kk,rfl,ek⟩:=cP r2 N.1;dsimp only at d;rw[ek]at d;have u:aJ H1 C:=j.trans w;rcases iZ (k:=kk) hl (q.same u) with⟨h1,h2⟩ | ⟨i,v,R,F,a1,a2,a3,a4,t⟩
    ·rw[h1]at d;cases d;refine⟨_,fB.k (u a _ p),?_⟩;rw[h2];have eF:=D.FZ N.2;subst eF;exact E P C [] ((h.trans j).trans w) D Fp.nil
    ·rw[a1]at d;refine⟨_,fB.k (u a _ p),?_⟩;rw[a2];have f:=((f1.sub (Yw _ _)).sub (cN a4)).up t;unfold VS.sub at d;dsimp only at d;rw[d]at f;have et:R=r:=congrArg Prod.snd d;rw[et]at t;exact E v C F ((h.trans j).trans w) t f
   ·cases e
  ·cases e
def zu:fP G (yi G.K) tW:=by
 intro O U H0 H x y u w F1 F2 m t Q j e k;obtain⟨m1,x⟩:=x;obtain⟨m2,y⟩:=y;unfold tW at e;split at e
 ·rename_i s _ S e1 e2;cases e1;cases e2;split at e
  ·rename_i N;obtain⟨E,D,J,F,L⟩:=N;cases e;obtain⟨a,h,R,rfl,rfl,P,f⟩:=j.r1.GR;obtain⟨b,i,Gs,rfl,rfl,hb,d⟩:=j.r2.GR;have A:=f.FZ J;have v:=d.FZ F;have q:=f.len.1;have l:=d.len.1;refine⟨a,b,h,i,rfl,rfl,GV.of P,GV.of hb,λz=>E (XH.mp (by rw[← q,z];rfl)),by rw[q,l,← fu];exact L,λz=>absurd (XH.mp (by rw[← l,z];rfl)) D,λ_ p r=>?_⟩;have C:=(f.append d).same (bQ (o:=.tup (h++i)) r);refine k (.ref p) _ (R++Gs).flatten (bQ r) (.tup ay C) ?_;rw[Yf,A,v];exact Fp.nil
  ·cases e
 ·cases e
def Ar{G:Gx}(d:X.K=G.K):OpR X (binaryOp .Add) (yi G.K):=d ▸ Ab
end
end VS
end
section
namespace DP
open PySem PySem.Spec PyProof.Rows L2
abbrev ZO(a:KM)(b:Bool)(TI TO:KF):Obj:={ cls:=.type "zip",dict:=Y,data:=.fields #[a,.bool b,.bool B,.ref TI,.ref TO],slots:=#[] }
def xQ:typeLookup (.type "zip") "keys" = pure Y:=by rw[XA,Y9];kernel_rfl
def qc:typeLookup (.type "zip") "__getattr__" = pure Y:=by rw[XA,Y9];kernel_rfl
def nG:entryFor table "zip.__getattribute__" = Z Builtin.«object.__getattribute__» :=
 entryFor_alias (id' := "object.__getattribute__") (by kernel_rfl) (by decide +kernel) (by decide +kernel) (by kernel_rfl)
def Fb(a:KF)(j:KM)(b:Bool)(TI TO:KF)(u:Tok) :
  Meets (Builtin.«object.__getattribute__» ⟨[.ref a,.str "keys" u],[]⟩) (λA R s=>s.heap.get? a=Z (ZO j b TI TO)/\raisesAttr (.ref a) "keys" A R s) :=
 Meets.of_wp λprog w A R s e=>by
  obtain⟨i,g,d,f,os⟩:=s;obtain⟨h,e⟩:=e;have l:(⟨i,g,d,f,os⟩:GM).TypeIs (.ref a) "zip" := ⟨_,h,rfl⟩
  have m:=xQ;have n:(["__module__", "__name__", "__qualname__", "__doc__", "__annotations__"]:List Str).contains "keys" = B:=by decide +kernel
  unfold Builtin.«object.__getattribute__»
  repeat (any_goals (first | assumption | wp_step))
  exact wpAny_raiseAttrError e.1 e.2 (attrMsg_fits (by decide +kernel) (by size_fits))
def yo{prog:P3}{w:SZ}{A:Re}{E:Z1}{h:SL}{g:Array GenState}{d:Drawn}{o:Nat}{os}{a:KF}{m:KM}{b:Bool}{TI TO:KF}{u:Tok}{Q:Z1}(j:h.get? a=Z (ZO m b TI TO))(q:A.handled=Y)(p:∀i f e,Heap.NewExcOf h i e "AttributeError" → E (.ref e) ⟨i,g,d,f,os⟩):On (IR prog w) A (getAttrBy (.ref a) (.str "keys" u) B) Q E ⟨h,g,d,o,os⟩:=by
 have l:∀f,(⟨h,g,d,f,os⟩:GM).TypeIs (.ref a) "zip" := λ_=>⟨_,j,rfl⟩
 have f1:=Wk;have y:=WQ.lookup;have v:=WQ.bind (.ref a);have t:=qc;unfold getAttrBy
 repeat (any_goals (first | assumption | exact l _ | ((with_reducible show On _ _ (call (Value.builtin "zip.__getattribute__") _ _) _ _ _);refine call_meets WQ (l _) nG (F.args_zip_getattribute_2 _ _) (Fb a m b TI TO _) ⟨j,q,λi f e n=>?_⟩) | wp_step))
 obtain⟨s,r,he⟩:=n.there;show On _ _ (getattributeRaised _ _ _ _ _ _ _) _ _ _;unfold getattributeRaised
 repeat (any_goals (first | assumption | wp_step))
 exact p _ _ _ n.of
def sE{prog:P3}{w:SZ}{A:Re}{E:Z1}{h:SL}{g:Array GenState}{d:Drawn}{l:Nat}{os}{a:KF}{o:KM}{b:Bool}{TI TO:KF}{Q:Vw->GM->Prop}(m:h.get? a=Z (ZO o b TI TO))(r:A.handled=Y)(n:∀f j e,Heap.NewExcOf h f e "AttributeError" → Q Y ⟨f,g,d,j,os⟩):On (IR prog w) A (getAttr? (.ref a) "keys") Q E ⟨h,g,d,l,os⟩:=by
 have f1:=Wk;unfold getAttr? getAttrBy?
 repeat (any_goals (first | assumption | (with_reducible refine yo m (by assumption) λf j e i=>?_) | wp_step))
 obtain⟨⟨oc,q,s,t⟩,p,ge,ce,_,_⟩:=i.there;dsimp only at ce;subst ce
 repeat (any_goals (first | assumption | wp_step))
 exact n _ _ _ i
end DP
end
section
namespace DP
open PySem PySem.Spec PyProof.Rows L2
def alive{s:GM}{M:Model}(h:s.heap.get? T=Z o)(q:Q (Z o) s):On M A (loadIfAlive T) Q E s:=λΓ p _=>by
 unfold loadIfAlive;rw[Sem.wp_loadIfAlive,h];exact(Sem.wp_pure ..).mpr q
def uS{prog:P3}{w:SZ}{A:Re}{E:Z1}{s:GM}{z TI TO g f p T:KF}{fp:W6}{oT:Obj}{O:Bool}{n k:Nat}{P:Nat->KM->Prop}{St:Nat->SL->Prop}{u:Array KM}{Q:Z1}(hh:A.handled=Y)(D:ZipApart z TI TO g f p p)(S:Draws prog w A g fp n P St)(U:∀c∈fp,c≠z/\c≠TO/\c≠f)(m:s.heap.get? z=Z (ZO (rawInt T) O TI TO))(hT:s.heap.get? T=Z oT)(LS:IsPair s.heap TI (.ref g) (.ref f))(h1:St k s.heap)(h2:s.heap.IsListIter f p k)(G5:s.heap.IsList p u)(hd:(¬k<n/\iz prog w A g (St k))\/k<n)(hQ:∀x y a l,k<n->u[k]?=Z y->P k x->a.get? z=Z (ZO (rawInt T) M TI TO)->St (k+1) a->a.IsListIter f p (k+1)->IsPair a s.heap.objs.size x y →
   (∀c o,c≠z->c≠g->c≠f->s.heap.get? c=Z o->a.get? c=Z o)->Q (.ref s.heap.objs.size) { s with heap:=a,toks:=l })(X:∀a e l,¬k<n\/u[k]?=Y->(∀c o,c≠z->c≠g->c≠f->s.heap.get? c=Z o->a.get? c=Z o)->(∃o,a.get? e=Z o/\o.cls=.type "StopIteration")->E (.ref e) { s with heap:=a,toks:=l }) :
  On (IR prog w) A (Builtin.«zip.__next__» ⟨[.ref z],[]⟩) (λfin C=>∃v,fin=.done (.ret v)/\Q v C) E s:=by
 show On _ _ (field (.ref z) 2>>=_) _ _ _;refine Zy (Xv m L (x:=.bool B) L ?_);show On _ _ (field (.ref z) 3>>=_) _ _ _;refine Zy (Xv m L (x:=.ref TI) L ?_);refine Zy (X8 LS L ?_);show On _ _ (Builtin.SmallTypes.ownedTupleIsFree (.ref z)>>=_) _ _ _;refine Zy (thn (Q:=λr C=>r=B/\∃h,C={ s with heap:=h }/\h.get? z=some (ZO (rawInt T) true TI TO)/\Heap.SameBut z s.heap h) ?free λr C hr=>?rest)
 case free =>
  unfold Builtin.SmallTypes.ownedTupleIsFree;refine Zy (Xv m L (x:=rawInt T) L ?_);show On _ _ (loadIfAlive T>>=_) _ _ _;refine Zy (alive hT ?_);simp only[Option.isNone_some,Xm,if_false];refine Zy (Xv m L (x:=.bool O) L ?_);cases O with
  |true=>exact Zr ⟨rfl,_,rfl,m,Heap.SameBut.refl _ _⟩
  |false =>
   rw[Zn (by decide)];refine Zy (Xb m (by simp) λh R b=>?_);exact Zr ⟨rfl,_,rfl,R,b⟩
 case rest =>
  obtain⟨rfl,h,rfl,R,b⟩:=hr;simp only[Xm,if_false];simp only[← Array.forIn_toList,WX,List.forIn_nil];have IC:St k h:=S.frame _ _ _ h1 λc N o e=>b.extBut _ _ (U c N).1 e;have UT:h.objs.size=s.heap.objs.size:=b.1;refine Zy (Zy (Zy (Yp ?_)));show On _ _ (Builtin.SmallTypes.nextOf (.ref g)>>=_) _ _ _;rcases hd with⟨hn,H⟩ | H
  ·refine Zy (H _ _ _ IC λF e d he=>?_);exact X F e s.toks (.inl hn) (λc o t q J x=>d _ _ q (b.extBut _ _ t x)) he
  refine Zy (S.item k _ _ _ H IC λx F l hP Kr d=>Zr ?_);have d:Heap.SameBut g h F:=d;refine Zr (Zy (Zy (Yp ?_)));show On _ _ (Builtin.SmallTypes.nextOf (.ref f)>>=_) _ _ _;have LI:=(h2.extBut b.extBut D.i2z).extBut d.extBut D.i12.symm;have LF:=(G5.extBut b.extBut D.l2z).extBut d.extBut D.l2i1;cases G:u[k]? with
  |none =>
   refine Zy (WI (by exact hh) LI LF G λj e i he=>?_);exact X j e l (.inr G) (λc o t q J x=>i _ _ J (d.extBut _ _ q (b.extBut _ _ t x))) he
  |some y =>
  refine Zy (wpAny_nextOf_list_item LI LF G λj Oa i=>Zr ?_);have i:Heap.SameBut f F j:=i;refine Zr (Zr ?_);refine Zy (wpAny_newTuple (hsz:=show 2<=KB by decide) ?_);refine Zr ⟨_,rfl,?_⟩;have hsz:j.objs.size=s.heap.objs.size:=by rw[i.1,d.1,b.1]
  show Q (.ref j.objs.size) _;have up:∀c o,j.get? c=Z o->(j.push { cls:=.type "tuple",data:=.seq #[x,y] }).get? c=Z o:=λc o e=>Zw _ e;rw[hsz];exact hQ x y _ l H G hP (up _ _ (i.extBut _ _ D.i2z.symm (d.extBut _ _ D.i1z.symm R))) (S.frame _ _ _ Kr λc N o e=>up _ o (i.extBut _ _ (U c N).2.2 e)) (Oa.at λo e=>up _ o e) (by rw[← hsz];exact Zh _ L) λc o t q J e=>up c o (i.extBut _ _ J (d.extBut _ _ q (b.extBut _ _ t e)))
def ZS(z TI TO e d g:KF)(St:Nat->SL->Prop)(k:Nat)(h:SL):Prop :=
 ((∃a b,IsPair h TO a b/\IsZip h z TI TO .none)\/∃T f i,h.get? T=Z f/\T≠z/\T≠e/\T≠d/\h.get? z=Z (ZO (rawInt T) i TI TO))/\IsPair h TI (.ref e) (.ref d)/\St k h/\h.IsListIter d g k
def ZS.frame{z TI TO j i m d:KF}{St:Nat->SL->Prop}{k:Nat}{h g:SL}(H:ZS z TI TO j i m St k h)(u:d∉[z,TI,TO,j,i])(fr:∀h g,St k h->(∀c o,c≠d->h.get? c=Z o->g.get? c=Z o)->St k g)(f:∀c o,c≠d->h.get? c=Z o->g.get? c=Z o)(L:∃o,g.get? d=Z o):ZS z TI TO j i m St k g:=by
 obtain⟨l,J,G,N,F⟩:z≠d/\TI≠d/\TO≠d/\j≠d/\i≠d:=by simpa[eq_comm] using u
 obtain⟨D,C,y,v⟩:=H;refine⟨D.imp (λ⟨a,b,p,q⟩=>⟨a,b,f _ _ G p,f _ _ l q⟩) (λ⟨T,r,n,p,a,b,c,q⟩=>?_),f _ _ J C,fr _ _ y f,v.at λo e=>f _ _ F e⟩;by_cases e:T=d
 ·obtain⟨o,t⟩:=L;exact⟨T,o,n,by rw[e];exact t,a,b,c,f _ _ l q⟩
 ·exact⟨T,r,n,f _ _ e p,a,b,c,f _ _ l q⟩
def uy{prog:P3}{w:SZ}{A:Re}{E:Z1}{s:GM}{z TI TO f i t:KF}{fp:W6}{n k:Nat}{P:Nat->KM->Prop}{St:Nat->SL->Prop}{N:Array KM}{Q:Vw->GM->Prop}(G:A.handled=Y)(D:ZipApart z TI TO f i t t)(Dr:∀C:Re,C.handled=Y->Draws prog w C f fp n P St)(hf:∀c∈fp,c≠z/\c≠TO/\c≠i)(H:ZS z TI TO f i t St k s.heap)(G5:s.heap.IsList t N)(hd:(¬k<n/\∀C:Re,C.handled=Y->iz prog w C f (St k))\/k<n)(li:∀h,St k h->∃o,h.get? f=Z o)(hQ:∀x y d g,k<n->N[k]?=Z y->P k x->ZS z TI TO f i t St (k+1) d->IsPair d s.heap.objs.size x y →
   (∀c o,c∉[z,TO,f,i]->s.heap.get? c=Z o->d.get? c=Z o)->Q (Z (.ref s.heap.objs.size)) { s with heap:=d,toks:=g })(hN:∀d g,¬k<n\/N[k]?=Y->(∀c o,c∉[z,TO,f,i]->s.heap.get? c=Z o->d.get? c=Z o)->Q Y { s with heap:=d,toks:=g }):On (IR prog w) A (pyNext (.ref z)) Q E s:=by
 have sp:∀{c:KF},c∉[z,TO,f,i]->c≠z/\c≠TO/\c≠f/\c≠i:=λh=>by simpa using h
 obtain⟨h1,J,R,O⟩:=H;have lt:∀{c:KF}{o:Obj},s.heap.get? c=Z o->s.heap.objs.size≠c:=λe=>Xp (Za e);have n1:s.heap.objs.size≠f:=(li _ R).elim λ_ e=>lt e;have n2:s.heap.objs.size≠i:=O.elim λ_ e=>lt e.1;rcases h1 with⟨a,b,LR,u⟩ | ⟨T,oT,bb,hT,t1,t2,t3,u⟩
 ·refine vh D Dr hf G u J LR R O G5 hd (λx y d g U S a0 a1 a2 a3 X L a6 r=>hQ x y d g U S a0 ⟨.inr ⟨_,_,_,L,lt u,n1,n2,a1⟩,r _ _ D.TIz D.TITO D.TIi1 D.TIi2 J,a3,X⟩ L λc o j e=>?_) λd g q kp=>hN d g q λc o j e=>?_
  ·obtain⟨p,v,m,l⟩:=sp j;exact r c o p v m l e
  ·obtain⟨p,v,m,l⟩:=sp j;exact kp c o p v m l e
 ·have KD:s.TypeIs (.ref z) "zip" := ⟨_,u,rfl⟩
  unfold pyNext;refine Zy (wpAny_attempt (Xj (name:=Str.ofString "__next__") KD WJ
   (YO WJ KD F.entry_zip_next
    (uS G D (Dr _ G) hf u hT J R O G5 (hd.imp (λq=>⟨q.1,q.2 _ G⟩) id) (λx y d g U S a0 a1 a3 X L r=>Zr (hQ x y d g U S a0 ⟨.inr ⟨T,oT,_,r _ _ t1 t2 t3 hT,t1,t2,t3,a1⟩,r _ _ D.TIz D.TIi1 D.TIi2 J,a3,X⟩ L λc o j e=>?_)) λd e g hx hk he=>?_) (F.args_zip_next_1 _))))
  ·obtain⟨p,v,m,l⟩:=sp j;exact r c o p m l e
  ·obtain⟨o,ho,j⟩:=he;refine Zy (Ww (T := "StopIteration") (b:=M) ⟨o,ho,j⟩ WD ?_);refine Zr (hN _ _ hx λc o j e=>?_);obtain⟨p,v,m,l⟩:=sp j;exact hk c o p m l e
def D9{prog:P3}{w:SZ}{A:Re}{z TI TO p v j d:KF}{X:W6}{n m:Nat}{P:Nat->KM->Prop}{St:Nat->SL->Prop}{C:Array KM}{R:Result->GM->Prop}(H:A.handled=Y)(D:ZipApart z TI TO p v j j)(L:∀F:Re,F.handled=Y->Draws prog w F p X n P St)(hf:∀c∈X,c≠z/\c≠TO/\c≠v)(hd:d∉[z,TI,TO,p,v])(VE:j≠d)(KH:d∉X)(dn:∀k,¬k<n->∀F:Re,F.handled=Y->iz prog w F p (St k))(g:Nat->Key×KM)(hP:∀i x,P i x->(aw prog w).is (g i).1 x=M)(hy:∀i y,C[i]?=Z y->(g i).2=y)(hm:∀i,i<m->i<n/\i<C.size)(Hu:¬m<n\/C[m]?=Y)(hb:m<=KB) :
  ∀(k i:Nat)(s:GM),m-i=k->i<=m->ZS z TI TO p v j St i s.heap->s.heap.IsList j C->s.heap.DictOf (aw prog w) d (merged [] ((List.range i).map g)) →
   (∀f u,(∀c o,c∉[d,z,TO,p,v]->s.heap.get? c=Z o->f.get? c=Z o)->f.DictOf (aw prog w) d (merged [] ((List.range m).map g))->R (.ok (.ret .none)) { s with heap:=f,toks:=u }) →
   codeAny (IR prog w) A (.builtin "dict.update.loop" ⟨[.ref d,.ref z,rawInt i,.none],[]⟩) R s:=by
 have fr:∀k h f,St k h->(∀c o,c≠d->h.get? c=Z o->f.get? c=Z o)->St k f:=λk h f a b=>(L A H).frame k h f a λc t o e=>b c o (λz=>KH (z ▸ t)) e;have li:=λk h a=>(L A H).live k h a;have dO:∀{h:SL}{l:List (Key×KM)},h.DictOf (aw prog w) d l->∃o,h.get? d=Z o:=λ⟨o,_,_,O,_⟩=>⟨o,O⟩
 have dn4:d∉[z,TO,p,v]:=λh=>hd (by simp only[Zj,Yt,or_false]at h ⊢;rcases h with h | h | h | h<;>simp[h]);have dk:∀{h f:SL}{l:List (Key×KM)},h.DictOf (aw prog w) d l->(∀c o,c∉[z,TO,p,v]->h.get? c=some o->f.get? c=some o)->f.DictOf (aw prog w) d l:=λ⟨o,es,ep,O,rest⟩ kp=>⟨o,es,ep,kp d o dn4 O,rest⟩
 have UI:j∉[z,TO,p,v]:=by simp only[Zj,Yt,or_false,not_or];exact⟨D.l2z,D.l2TO,D.l2i1,D.l2i2⟩
 intro k
 induction k with
 |zero =>
  intro i s hk hi G9 G S U;have Ho:i=m:=by omega
  subst Ho;refine YQ gY ?_;rw[Ym cF _];show On _ A.in1 (pyNext (.ref z)>>=_) _ _ s;refine Zy (uy (by simpa using H) D L hf G9 G (by
   by_cases q:i<n
   ·exact .inr q
   ·exact .inl ⟨q,dn i q⟩) (li i) (λx y f u b0 J _ _ _ _=>?_) λf u q kp=>?_)
  ·rcases Hu with h | h
   ·exact absurd b0 h
   ·rw[h]at J;cases J
  ·show On _ A.in1 (Builtin.Dict.addKeywords d [] >>= λ_=>ret Value.none) _ _ _;refine Zy (Zr ?_);exact Zr (U f u (λc o t e=>kp c o (λz=>t (Zt _ z)) e) (dk S kp))
 |succ k ih =>
  intro i s hk hi G9 G S U;have G0:i<m:=by omega
  obtain⟨hn,UU⟩:=hm i G0;refine YQ gY ?_;rw[Ym cF _];show On _ A.in1 (pyNext (.ref z)>>=_) _ _ s;refine Zy (uy (by simpa using H) D L hf G9 G (.inr hn) (li i) (λx y f u b0 J VP Mn hp kp=>?_) λf u q kp=>?_)
  ·have Rb:=dk S kp;have M5:f.IsList j C:=G.at λo e=>kp j o UI e;show On _ A.in1 (holding [Value.ref s.heap.objs.size] _>>=_) _ _ _;refine Zy (Yp ?_);have ty:Shared.TypeIs { s with heap:=f,toks:=u } (.ref s.heap.objs.size) "tuple" := ⟨_,hp,rfl⟩
   refine Zy (thn (Q:=λr s2=>r=[x,y]/\s2={ s with heap:=f,toks:=u }) ?pair λr s2 hr=>?rest)
   case pair =>
    refine wpAny_tryCatch ?_;unfold Builtin.Dict.pairItems
    repeat (any_goals (first | assumption | wp_step))
    exact⟨rfl,rfl⟩
   case rest =>
    obtain⟨rfl,rfl⟩:=hr;dsimp only;refine Yp ?_;refine wpAny_dictSet_pairs (hP i x VP) Rb (λh2 dd sb=>?_) (by have:=merged_length_le (K:=Key) [] ((List.range i).map g);simp at this;omega);have e1:((i:Int)+1)=((i+1:Nat):Int):=by omega
    rw[e1];have Js:h2.DictOf (aw prog w) d (merged [] ((List.range (i+1)).map g)):=by
     rw[List.range_succ,ZF,show merged ([]:List (Key×KM)) ((List.range i).map g++[i].map g)=stored (merged [] ((List.range i).map g)) (g i).1 (g i).2 by unfold merged;rw[List.foldl_append];rfl,hy i y J];exact dd
    have N:∀c o,c≠d->f.get? c=Z o->h2.get? c=Z o:=λc o t e=>by rw[sb.2 c t];exact e
    refine Zr ⟨Xr cF _,ih (i+1) _ (by omega) G0 (Mn.frame hd (fr _) N (dO Js)) (M5.at λo e=>N j o VE e) Js λh3 PD UP dd3=>?_⟩;refine U h3 PD (λc o t e=>UP c o t (N c o (λz=>t (by rw[z];exact Zu)) (kp c o (λz=>t (Zt _ z)) e))) dd3
  ·rcases q with q | q
   ·exact absurd hn q
   ·rw[Ya UU]at q;cases q
end DP
end
section
namespace DP
open PySem PySem.Spec PyProof.Rows L2
def sJ{prog:P3}{w:SZ}{A:Re}{E:Z1}{s:GM}{z TI TO p l r:KF}{N:W6}{n m:Nat}{P:Nat->KM->Prop}{St:Nat->SL->Prop}{ys:Array KM}{Q:Z1}(G:A.handled=Y)(D:ZipApart z TI TO p l r r)(O:∀v:Re,v.handled=Y->Draws prog w v p N n P St)(hf:∀c∈N,c≠z/\c≠TO/\c≠l)(dn:∀k,¬k<n->∀v:Re,v.handled=Y->iz prog w v p (St k))(t:Nat->Key×KM)(hP:∀i x,P i x->(aw prog w).is (t i).1 x=M)(hy:∀i y,ys[i]?=Z y->(t i).2=y)(hm:∀i,i<m->i<n/\i<ys.size)(Hu:¬m<n\/ys[m]?=Y)(J:m<=KB)(C:IsZip s.heap z TI TO .none)(LS:IsPair s.heap TI (.ref p) (.ref l))(LR:IsPair s.heap TO .none .none)(G9:St 0 s.heap)(X:s.heap.IsListIter l r 0)(U:s.heap.IsList r ys)(Lf:∀c∈N,c<s.heap.objs.size)(h:∀(u:SL)(R:Nat),u.DictOf (aw prog w) s.heap.objs.size (merged [] ((List.range m).map t))->(∀b o,b∉[z,TO,p,l]->s.heap.get? b=Z o->u.get? b=Z o)->Q (.ref s.heap.objs.size) { s with heap:=u,toks:=R }) :
  On (IR prog w) A (call (.type "dict") [.ref z]) Q E s:=by
 refine callType_codes (Q₁:=λobj S=>obj=.ref s.heap.objs.size/\S={ s with heap:=s.heap.push { cls:=.type "dict",data:=.dict #[] } }) kM (hJ _) F.entry_dict_init (i9 _ ⟨rfl,rfl⟩) λobj S hq=>?_;obtain⟨rfl,rfl⟩:=hq;have ty:Shared.TypeIs { s with heap:=s.heap.push { cls:=.type "dict",data:=.dict #[] } } (.ref s.heap.objs.size) "dict" := ⟨_,Zh _ L,rfl⟩
 refine⟨ty,F.args_dict_init_2 _ _,?_⟩;have Ua:=(O A G).live _ _ G9;obtain⟨a,g,d,R,os⟩:=s;have Po:(a.push { cls:=.type "dict",data:=.dict #[] }).get? z=Z (ZO .none B TI TO):=Zw { cls:=.type "dict",data:=.dict #[] } C;unfold Builtin.«dict.__init__» Builtin.Dict.updateCommon Builtin.Dict.updateFrom;generalize eP:pyIter=Sv;generalize eG:getAttr?=ga
 repeat (any_goals (first | assumption | wp_step))
 subst eG;dsimp only at *;refine sE Po (by simp[G]) λh1 T9 e ne=>?_;simp only[Option.isNone_none,if_true];refine Zy (Wm ?_);subst eP;have j:∀{b:KF}{o:Obj},a.get? b=Z o->b≠a.objs.size:=λe=>Zg (Za e);have f:∀b o,a.get? b=Z o->h1.get? b=Z o:=λb o e=>ne.keeps _ _ (Zw _ e);have D0:h1.DictOf (aw prog w) a.objs.size (merged [] ((List.range 0).map t)):=by
  obtain⟨o,es,ep,ho,rest⟩:=(Heap.DictOf.new (knd:=aw prog w) a)
  exact⟨o,es,ep,ne.keeps _ _ ho,rest⟩
 refine Zy (wpAny_pyIter_zip (f _ _ C) (Zr ⟨Xr cF _,?_⟩));have n2:l≠a.objs.size:=X.elim λ_ q=>j q.1;have nl:r≠a.objs.size:=U.elim λ_ q=>j q.1;have n1:p≠a.objs.size:=Ua.elim λ_ q=>j q;refine D9 (A:=A.in1) (n:=n) (m:=m) (by simp[G]) D O hf (d:=a.objs.size) ?_ nl (λq=>Yj _ (Lf _ q)) dn t hP hy hm Hu J m 0 _ (by omega) (YT _) ⟨.inl ⟨_,_,f _ _ LR,f _ _ C⟩,f _ _ LS,(O A G).frame _ _ _ G9 λc _ o q=>f c o q,X.at λo q=>f _ o q⟩ (U.at λo q=>f _ o q) D0 λu HP kp dd=>?_
 ·simp only[Zj,Yt,or_false,not_or];exact⟨(j C).symm,(j LS).symm,(j LR).symm,n1.symm,n2.symm⟩
 ·refine⟨rfl,h u HP dd λb o J q=>kp b o (λHo=>?_) (f b o q)⟩;rcases Zj.mp Ho with H | H
  ·exact j q H
  ·exact J H
end DP
namespace L2
open PySem PySem.Spec PyProof.Rows DP
theorem xy:∀(d:List Key){f:List V}{g:Vx},aO f g->∀{a:List (Key×V)}{b:List (Key×KM)},KV a b->KV ((d.zip f).foldl (λacc q=>putK acc q.1 q.2) a) (merged b (d.zip g))
 |[],_,_,_,_,_,r=>by simpa[merged] using r
 |k :: d,_,_,.nil,_,_,r=>by simpa[merged] using r
 |k :: d,_,_,.cons e t,a,b,r=>by
  have:=xy d t (r.put k e);simpa[merged] using this
theorem oo:∀(l:List (Key×V))(a:List (Key×V)),(l.foldl (λacc q=>putK acc q.1 q.2) a).length<=a.length+l.length
 |[],a=>Zl _
 |q :: l,a=>by
  have d:=oo l (putK a q.1 q.2);have b:=eK a q.1 q.2;simp only[Y2,ZX];omega
def vB(a:List Key)(b:Vx):(List.range (min a.length b.length)).map (λi=>(a.getD i (.inl 0),b.getD i .none))=a.zip b:=by
 apply List.ext_getElem (by simp);intro i e f;have d:i<a.length/\i<b.length:=by simp at e;omega
 simp[d.1,d.2]
section
variable{X:Cx}
def ZK(K:X3)(H:Hp)(v:V)(d:List Key):Prop:=(∃l,v=.ref l/\Gw K H l (d.map kV))\/∃x:Str,v=.str x/\d=x.cps.toList.map λc=>Sum.inr ⟨#[c]⟩
def Ut(K:X3):List V->Hp->VK->Prop:=λf H Q=>∃(v:V)(m:KF)(e:List Key)(d:List V),f=[v,.ref m]/\Gw K H m d/\ZK K H v e/\∀p,H p=Y->Q (.ref p) (upd H p (.dK ((e.zip d).foldl (λacc q=>putK acc q.1 q.2) [])))
def sT(n:X.calm=M)(hg:Gl X "dict")(hm:X.mg "dict" = Y)(Le:Gl X "zip")(Kn:X.mg "zip" = Y)(ha:PA X [a,b] t)(hs:Pi [a,b] X.env=(B,eval a X.env) :: Pi [b] X.env)(hp:(backTo HD (Pi [b] X.env)).any (·.1)=B)(he:Pi [.Call (.Name "zip" p2) [a,b] [] HD] X.env=(B,eval (.Call (.Name "zip" p2) [a,b] [] HD) X.env) :: Pi [] X.env):PE X (.Call (.Name "dict" p) [.Call (.Name "zip" p2) [a,b] [] HD] [] pos) (PF (Ut X.K) t):=by
 intro z s J H Q I h;refine Y4 (jt I hg hm VS.pT (YH ?_ he L));rw[he];show On _ _ (spliced ((B,eval (.Call (.Name "zip" p2) [a,b] [] HD) X.env) :: backTo pos (Pi [] X.env))) _ _ s;refine X1 (Y4 (jt I Le Kn boot_zip (YH (thn (ha HD z s J H _ I h) λus s1 ⟨vs,H1,N,r1,q1⟩=>?_) hs hp)));obtain⟨v,m,f,vs,rfl,hq,hk,q⟩:=q1;cases r1 with
 |cons r rr =>
  cases rr with
  |cons r' rr =>
   cases rr;cases r';rename_i u;obtain⟨G,rv,pl,hz⟩:=N.list hq;have hl:=rv.length;have ly:m<s1.heap.objs.size:=pl.isList.elim λ_ y=>Za y.1;have D:=zipApart_new ly ly;have fin:∀{fp:W6}{P:Nat->KM->Prop}{St:Nat->SL->Prop}(d:SL),IsZip d (s1.heap.objs.size+4) (s1.heap.objs.size+2) (s1.heap.objs.size+3) .none->IsPair d (s1.heap.objs.size+2) (.ref s1.heap.objs.size) (.ref (s1.heap.objs.size+1)) →
     IsPair d (s1.heap.objs.size+3) .none .none->St 0 d->d.IsListIter (s1.heap.objs.size+1) m 0->d.objs.size=s1.heap.objs.size+5->(∀c o,s1.heap.get? c=Z o->d.get? c=Z o)->(∀j:Re,j.handled=Y->Draws X.prog X.w j s1.heap.objs.size fp f.length P St) →
     (∀c∈fp,c<=s1.heap.objs.size)->(∀k,¬k<f.length->∀j:Re,j.handled=Y->iz X.prog X.w j s1.heap.objs.size (St k))->(∀i x,P i x->(aw X.prog X.w).is (f.getD i (.inl 0)) x=M) →
     On (IR X.prog X.w) X.A (spliced (backTo pos (Pi [] X.env))) (λus s2=>On (IR X.prog X.w) X.A (call (.type "dict") (.ref (s1.heap.objs.size+4) :: us)) (EP X z J Q) X.xe s2) X.xe { s1 with heap:=d }:=by
    intro fp P St d U C S R O g kp Dr Lf dn hP;refine WW ?_;refine sJ (m:=min f.length G.length) (ys:=G.toArray) (N.ok.hd n) D Dr (λc n=>?_) dn (λi=>(f.getD i (.inl 0),G.getD i .none)) hP (λi y e=>?_) (λi hi=>?_) ?_ ?_ U C S R O (pl.isList.at λo e=>kp _ o e) (λc n=>?_) λC tk dd LG=>?_
    ·have:=Lf c n;exact⟨by lia,by lia,by lia⟩
    ·have:G[i]?=Z y:=by simpa using e
     simp[this]
    ·simp;omega
    ·by_cases e:f.length<=G.length
     ·exact .inl (by omega)
     ·exact .inr (by simp;omega)
    ·omega
    ·have:=Lf c n;show c<d.objs.size;lia
    ·rw[vB]at dd;have rel:=xy f rv (.nil:KV [] []);have ln:=oo (f.zip vs) [];have lz:(f.zip vs).length<=vs.length:=by rw[Yo];omega
     have Pn:C.DictOf (aw X.prog X.w) (s1.heap.objs.size+5) (merged [] (f.zip G)):=by rw[← g];exact dd
     have e5:d.objs.size=s1.heap.objs.size+5:=g;have kk:∀c o,s1.heap.get? c=Z o->C.get? c=Z o:=λc o e=>LG c o (λHo=>by
      have:=Za e;simp only[Zj,Yt,or_false]at Ho;lia) (kp c o e)
     refine⟨.ref (s1.heap.objs.size+5),_,N.laid (t':=tk) kk (YS _ _) (mJ (by simp only[List.length_nil,Wg]at ln;omega) (ZJ.mpr (YR (Zg (ZR N.big (YS _ 5))))) rel Pn),by rw[← e5];rfl,q _ (N.xt.fresh (YS _ _))⟩
   rcases hk with⟨l,rfl,Ve⟩ | ⟨x,rfl,rfl⟩
   ·cases r;obtain⟨Kf,R5,PR,UT⟩:=N.list Ve;have e1:Kf.length=f.length:=by have:=R5.length;simpa using this.symm
    have l1:l<s1.heap.objs.size:=PR.isList.elim λ_ y=>Za y.1;refine call_zip_2 PR.isList pl.isList λd U C S R O g kp=>?_;refine fin (St:=λi h=>h.IsListIter s1.heap.objs.size l i/\h.IsList l Kf.toArray) d U C S ⟨R,PR.isList.at λo e=>kp _ o e⟩ O g kp (λj F=>by have:=Draws.list (prog:=X.prog) (w:=X.w) F s1.heap.objs.size l (Zg l1) Kf.toArray;rw[show Kf.toArray.size=f.length by simp[e1]]at this;exact this) (λc n=>?_) (λk hk j F s Q E st hE=>WI F st.1 st.2 (by simp;omega) hE) λi x hx=>?_
    ·simp only[Zj,Yt,or_false]at n;lia
    ·have Jo:Kf[i]?=Z x:=by simpa using hx
     have hi:i<f.length:=by have:=(Zc.mp Jo).1;omega
     obtain⟨u,g1,g2⟩:=R5.get (i:=i) (x:=kV f[i]) (by simp[hi]);rw[Jo]at g1;cases g1;simp[hi];exact jc g2
   ·obtain⟨tx,rfl⟩:=r;refine uI pl.isList λd U C S R O g kp=>?_;refine fin (St:=λi h=>h.IsStrIter s1.heap.objs.size (strIterType x) x tx i) d U C S R O g kp (λj F=>by have:=vg (P:=X.prog) (w:=X.w) s1.heap.objs.size x tx j F;rw[show x.cps.size=(x.cps.toList.map λc=>(Sum.inr ⟨#[c]⟩:Key)).length by simp]at this;exact this) (λc n=>by simp only[Zj,Yt,or_false]at n;lia) (λk hk j F=>vT _ x tx k (by simpa using hk) j F) λi v hv=>?_;obtain⟨c,u,SX,rfl⟩:=hv;have hi:=(Array.getElem?_eq_some_iff.mp SX)
    have:x.cps.toList[i]?=Z c:=by simpa using SX
    simp[this];exact kG _ _ _ _
end
end L2
namespace VS
open PySem PySem.Spec PyProof.Rows L2
def ER:T->Option (List Tx)
 |.lst l=>strs? l
 |.str x=>Z (x.map λc=>[c])
 |_=>Y
def kf:Vq->Vp
 |[(_,a),(_,.lst k)]=>(ER a).bind λb=>if cL k then Z (.fr,.dct 0 (((b.map T.str).zip k).foldl (λd q=>dput d q.1 q.2) [])) else Y
 |_=>Y
section
variable{X:Cx}
theorem t5:∀(d:List Tx){f:List V}{k:Vo}{Fs:Xq},RpL G H f k Fs->cL k=M →
  Paired (λ(q:JK) (x:T×T)=>x.1=aQ q.2.1/\Rp G H q.2.2 x.2 []) (((d.map λs=>(Sum.inr (sx s):Key)).zip f).map λq=>((0:KF),q.1,q.2)) ((d.map T.str).zip k)
 |[],_,_,_,_,_=>.nil
 |s :: d,_,_,_,.nil,_=>.nil
 |s :: d,_,_,_,.cons (t:=t) r q,h=>by
  have h:=Ze.mp h;have e:=r.FZ h.1;subst e;exact .cons ⟨by simp[aQ,sx],r⟩ (t5 d q h.2)
def tN(E:X.mg "dict" = Y)(Kn:X.mg "zip" = Y)(R:GY G X [a,b] cs)(P:X.calm=M)(N:Gl X "dict")(Le:Gl X "zip")(o:X.K=G.K)(C:Pi [a,b] X.env=(B,eval a X.env) :: Pi [b] X.env)(D:(backTo HD (Pi [b] X.env)).any (·.1)=B)(he:Pi [.Call (.Name "zip" p2) [a,b] [] HD] X.env=(B,eval (.Call (.Name "zip" p2) [a,b] [] HD) X.env) :: Pi [] X.env):PV G X (.Call (.Name "dict" p) [.Call (.Name "zip" p2) [a,b] [] HD] [] pos) (eN kf cs):=by
 refine PE.weak (sT P N E Le Kn R C D he) λJ H Q ⟨O,U,m,t,s,e,k⟩=>?_;unfold eN at e;obtain⟨l,S,e⟩:=Zz.mp e;refine⟨O,U,l,s,S,λvs g Fs s1 r1 f1=>?_⟩;unfold kf at e;split at e
 ·rename_i m1 x m2 j;obtain⟨f,e1,e2⟩:=Zz.mp e;split at e2
  ·rename_i F;cases e2;cases r1 with
   |cons r q =>
    cases q with
    |cons A q =>
     cases q;rename_i v Fv w Fw;obtain⟨c,h,Gs,rfl,rfl,Ja,rc⟩:=(show Rp G g w (.lst j) Fw from A).lst_inv;refine⟨v,c,f.map λs=>Sum.inr (sx s),h,rfl,by rw[o];exact Gw.of Ja,?_,λq n=>?_⟩
     ·have r:Rp G g v x Fv:=r;unfold ER at e1;split at e1
      ·obtain⟨d,ys,Ds,rfl,rfl,hd,z⟩:=r.lst_inv;refine .inl ⟨d,rfl,?_⟩;have:=k9 z e1;rw[o,ZM,show (kV ∘ λs:Tx=>(Sum.inr (sx s):Key))=λs=>V.str (sx s) from rfl,← this];exact Gw.of hd
      ·cases e1;refine .inr ⟨_,r.str_inv.1,?_⟩;simp[sx]
      ·cases e1
     ·obtain⟨ns,y,HC,Hr,u,a2,a3,a4,a5⟩:=ni (t5 f rc F) (ns:=[]) (vs:=[]) (ts:=[]) (Fs:=[]) L .nil L;rw[List.foldl_map]at u;have RP:((f.map λs=>(Sum.inr (sx s):Key)).zip h).foldl (λacc q=>putK acc q.1 q.2) []=ns.zip y:=u;have RO:((f.map T.str).zip j).foldl (λd q=>dput d q.1 q.2) []=(ns.map aQ).zip HC:=a2;rw[RP];have i:aJ g (upd g q (.dK (ns.zip y))):=bQ n;refine k _ _ (q :: Hr.flatten) (s1.trans i) (by rw[RO];exact .dct ay a3 (a4.same i)) ?_;rw[a5];exact Fp.new (s1.free n) (by simp) Fp.nil
  ·cases e2
 ·cases e
end
end VS
end
section
namespace L2
open PySem PySem.Spec PyProof.Rows TS
section
variable{X:Cx}
def n6(n:Inv X d J H f)(m:∀v∈g,∃x t,v=Value.str x t)(z:g.length<64)(q:∀(l:KF)(j:List Str),H l=Y->j.Perm (g.map strOf)->j.Pairwise (λa b=>¬b.cps.toList<a.cps.toList)->Q (.ref l) (upd H l (.lst (j.map V.str)))) :
  (∀v∈g,∃x t,v=Value.str x t)/\g.length<64/\∀(out:Vx)(i:SL)(e:Nat),out.Perm g->(out.map strOf).Pairwise (λa b=>¬b.cps.toList<a.cps.toList)->(∀b o,f.heap.get? b=Z o->i.get? b=Z o)->i.get? f.heap.objs.size=Z (seqObj "list" out.toArray e)->EP X d J Q (.ref f.heap.objs.size) { f with heap:=i }:=by
 refine⟨m,z,λout s e h p A he=>?_⟩;have y:∀v∈out,∃x t,v=Value.str x t:=λv r=>m v (h.mem_iff.mp r);have u:((out.map strOf).map V.str).length<=sizeLine:=by rw[Zx,Zx,h.length_eq,Xe];omega
 exact⟨.ref f.heap.objs.size,_,n.laid (t':=f.toks) A (Zl _) (show bF X.prog X.w _ s _ (.lst ((out.map strOf).map V.str)) from⟨u,out,e,mH y,he⟩),rfl,q _ _ (n.xt.fresh (Zl _)) (h.map _) p⟩
def jg:cB X (.builtin "sorted") (λi H Q=>∃p,∃d:List Str,i=[.ref p]/\d.length<64/\Gw X.K H p (d.map V.str) ∧
  ∀(l:KF)(g:List Str),H l=Y->g.Perm d->g.Pairwise (λa b=>¬b.cps.toList<a.cps.toList)->Q (.ref l) (upd H l (.lst (g.map V.str)))):=by
 intro f s J H i z Q I n h;obtain⟨p,d,rfl,C,v,q⟩:=h;obtain⟨u,rfl,r⟩:=n.one;cases r;obtain⟨m,j,pl,A⟩:=I.list v;have hlen:m.length=d.length:=by have:=j.length;simpa using this.symm
 obtain⟨t,w⟩:=qY j;refine TS.gR λE D _=>collect_list pl.isList ?_ (by rw[Xe];omega);have y:Inv X f J H { s with heap:=(s.heap.push (seqObj "list" #[] 0)).update s.heap.objs.size (Obj.mapSeq (·++m.toArray)) }:=I.kept (t':=s.toks) λb o e=>by
  rw[Heap.get?_update_ne _ _ _ _ (Zg (Za e))];exact Zw _ e
 exact n6 y t (by omega) (by rw[w];exact q)
def jD(G:X.calm=M):cB X (.builtin "sorted") (λj H Q=>∃p,∃g:List Str,j=[.ref p]/\H p=Z (zT X.w p g)/\(∀e:List Str,e.Nodup->(∀y,y∈e↔y∈g)->e.length<64) ∧
  ∀(l:KF)(e:List Str),H l=Y->e.Nodup->(∀y,y∈e↔y∈g)->e.Pairwise (λa b=>¬b.cps.toList<a.cps.toList)->Q (.ref l) (upd H l (.lst (e.map V.str)))):=by
 intro f s J H j R Q I A h;obtain⟨p,g,rfl,E,O,q⟩:=h;obtain⟨u,rfl,C⟩:=A.one;cases C;obtain⟨⟨z,S,U,t,T,n⟩,_,_⟩:=I.xt p _ E;refine TS.gR λA' E' L=>ST.zM (L.trans (I.ok.hd G)) T λN d v r kp D i=>?_;have P:Inv X f J H { s with heap:=N,drawn:=d,toks:=v }:=(I.kept kp).drew d;refine n6 P D ?_ λl e F m o=>q l e F (((m.trans i).nodup_iff).mpr T.nd) (λy=>((m.trans i).mem_iff).trans (n y)) o;have:=O (r.map strOf) ((i.nodup_iff).mpr T.nd) λy=>(i.mem_iff).trans (n y);simpa using this
end
end L2
namespace VS
open PySem PySem.Spec PyProof.Rows L2
section
variable{X:Cx}
def iS:Vq->Vp
 |[(_,.lst l)]=>(strs? l).bind λa=>if a.length<64 then Z (.fr,.lst ((cy a).map .str)) else Y
 |_=>Y
def vi(j:X.mg "sorted" = Y)(o:GY G X [e] cs)(n:{`q2,Gl X "sorted"})(q:{`q2,X.K=G.K})(he:{`q2,K1 e [] X}):PV G X (.Call (.Name "sorted" p) [e] [] pos) (eN iS cs):=by
 refine gx jg (f:=iS) ?_ n j kj o (he:=he) (hpl:=rfl);intro O U z H l d u m t Q A e k;unfold iS at e;split at e
 ·rename_i y x;obtain⟨g,e1,e2⟩:=Zz.mp e;split at e2
  ·rename_i hb;cases e2;obtain⟨v,F,rfl,rfl,h⟩:=(show RpL G H d [.lst x] u from A.rp).one;obtain⟨a,w,Gs,rfl,rfl,r,b⟩:=h.lst_inv;refine⟨a,g.map sx,rfl,by rw[Zx];exact hb,?_,lD k A.same λs i=>tZ b e1 s i⟩;rw[ZM,q];have:=k9 b e1;rw[show (V.str ∘ sx)=λs=>V.str (sx s) from rfl,← this];exact Gw.of r
  ·cases e2
 ·cases e
def iU:Vq->Vp
 |[(_,.str x)]=>if x.length+1<4096/\(dedup (x.map λc=>[c])).length<64 then Z (.fr,.lst ((cy (dedup (x.map λc=>[c]))).map .str)) else Y
 |_=>Y
def pw(P:X.mg "sorted" = Y)(Kn:X.mg "set" = Y)(S:GY G X [e] cs)(R:{`q2,Gl X "sorted"})(Le:{`q2,Gl X "set"})(r:{`q2,X.calm=M})(he:{`q2,K1 e [] X})(u:{`q2,Pi [.Call (.Name "set" p2) [e] [] pos'] X.env=(B,eval (.Call (.Name "set" p2) [e] [] pos') X.env) :: Pi [] X.env}) :
  PV G X (.Call (.Name "sorted" p) [.Call (.Name "set" p2) [e] [] pos'] [] pos) (eN iU cs):=by
 refine PE.weak (md (jD r) R P kj (d7 (n9 (sr r) Le Kn Dv S (he:=he) (hpl:=rfl)) jh u) (he:=u) (hpl:=rfl)) λJ H Q ⟨O,U,m,t,s,d,k⟩=>?_;unfold eN at d;obtain⟨l,el,d⟩:=Zz.mp d;refine⟨O,U,l,s,el,λA j Fs s1 r1 f1=>?_⟩;unfold iU at d;split at d
 ·rename_i mx x;split at d
  ·rename_i hb;cases d;obtain⟨v,F,rfl,rfl,o⟩:=(show RpL G j A [.str x] Fs from r1).one;have C:=o.str_inv.2;have ex:(sx x).cps.toList.map (λc=>(⟨#[c]⟩:Str))=(x.map λc=>[c]).map sx:=by
    simp[sx]
   have NH:((dedup (x.map λc=>[c])).map sx).Nodup:=(iM _).map _ λa b IM e=>IM (E3 e);have pm:∀f:List Str,f.Nodup->(∀y,y∈f↔y∈(sx x).cps.toList.map λc=>(⟨#[c]⟩:Str))->f.Perm ((dedup (x.map λc=>[c])).map sx):=λf h g=>(YN h NH).mpr λy=>by
    rw[g y,ex,ZU,ZU];exact⟨λ⟨z,i,e⟩=>⟨z,(gI _ z).mpr i,e⟩,λ⟨z,i,e⟩=>⟨z,(gI _ z).mp i,e⟩⟩
   refine⟨sx x,by rw[o.str_inv.1],by simp only[sx,Zb];exact hb.1,λq N=>⟨q,(sx x).cps.toList.map λc=>(⟨#[c]⟩:Str),rfl,ay,λf h g=>by rw[(pm f h g).length_eq,Zx];exact hb.2,λD f G5 h g UZ=>?_⟩⟩;have n:aJ j (upd j q (zT X.w q ((sx x).cps.toList.map λc=>(⟨#[c]⟩:Str)))):=bQ N;refine lD (G:=G) (O:=O) (U:=U) (H0:=H) (ss:=dedup (x.map λc=>[c])) (λv H' F e2 r2 f2=>k v H' F ((s1.trans n).trans e2) r2 f2) (s1.trans n) (λs L=>?_) D f G5 (pm f h g) UZ;obtain⟨c,Ja,rfl⟩:=ZU.mp ((gI _ s).mp L);exact⟨by show 1<=dq;decide,λy E=>by rw[Zf.mp E];exact C.2 c Ja⟩
  ·cases d
 ·cases d
end
end VS
end
section
namespace T12
open VS
def aH:Mt:=HG 0 4 4 [B,B,M]
  (aj (sX (g9 0 [.fld 1] aB (ab (aa 1) af)))
  (aj (sX (g9 0 [.fld 2] aB (ab (aa 2) af)))
  (aj (mU 0 [.fld 3] 3)
  (eI (e2 pJ (eN bX (ab (aW 1 (aa 0)) af)) (Q3 1))))))
def cT:Mt:=HG 0 1 1 (List.replicate 0 B)
  (aj (iq 0 1 (gO af))
  (aj (iq 0 2 (gO af))
  (aj (iq 0 3 (gO af))
  (Nu (bz 0 [] 0 [B,B,M] aH (ab (Q3 0) (ab (eC .non) (ab (pK 0 []) af))))))))
def bH:Sx :=
  (aj (eE 0 [.fld 3,.ix (aa 1)] (aa 2) (aa 5))
  (aI 1 (e2 aC (aW 2 (aa 0)) (aa 1))))
def av:Mt:=HG 0 3 6 [B,B]
  (aj (aI 3 (e2 GW (e2 aC (aW 3 (aa 0)) (aa 1)) (aa 2)))
  (aj (aI 4 (e2 da (e2 aC (aW 1 (aa 0)) (aa 1)) (Q3 1)))
  (aj (G8 (e2 oEq (e2 aC (aW 1 (aa 0)) (aa 3)) (aa 4)) (ip 3) eD)
  (aj (iD 5 (bz 0 [] 0 [B,B,M] aH (ab (aa 4) (ab (e2 aC (aW 2 (aa 0)) (aa 3)) (ab (eN j4 (ab (e2 aC (aW 3 (aa 0)) (aa 3)) af)) af)))))
  (aj (eE 0 [.fld 2] (aa 3) (aa 5))
  (aj (ko (iC (fG (aa 1)) (e2 oEq (e2 oP (e2 aC (aW 3 (aa 0)) (aa 1)) (aa 2)) (aa 3))) bH)
  (ip 5)))))))
def bI:Sx :=
  (aj (eE 0 [.fld 3,.ix (aa 4)] (aa 2) (aa 3))
  (aI 4 (e2 aC (aW 2 (aa 0)) (aa 4))))
def bE:Mt:=HG 0 3 5 [B,B]
  (aj (G8 (e2 mS (aa 2) (e2 aC (aW 3 (aa 0)) (aa 1))) (nZ (bz 0 [] 0 [B,B] av (ab (aa 1) (ab (aa 2) af)))) eD)
  (aj (iD 3 (bz 0 [] 0 [B,B,M] aH (ab (e2 da (e2 aC (aW 1 (aa 0)) (aa 1)) (Q3 1)) (ab (Q3 0) (ab (pK 0 []) af)))))
  (aj (aI 4 (aa 1))
  (aj (ko (iC (fG (aa 4)) (e2 cA (aa 2) (e2 aC (aW 3 (aa 0)) (aa 4)))) bI)
  (aj (G8 (fG (aa 4)) (je 0 [.fld 2] (aa 3) (bz 0 [] 0 [B,B] av (ab (aa 4) (ab (aa 2) af)))) eD)
  (ip 3))))))
def bS:Sx :=
  (iD 1 (bz 0 [] 0 [B,B] bE (ab (aa 1) (ab (aa 3) af))))
def aR:Mt:=HG 0 3 4 [B,B]
  (aj (jo (bh 3) (dJ (aa 2)) bS)
  (ip 1))
def bj:Sx :=
  (G8 (e2 cA (e2 GW (aa 4) (aa 5)) (aa 1)) (aj (mh 1 (e2 GW (aa 4) (aa 5)) (eN bX (ab (aa 2) af)))
  (sX (lV 2 [] aB (ab (e2 GW (aa 4) (aa 5)) af)))) eD)
def bP:Sx :=
  (aj (aI 4 (e2 aC (aW 3 (aa 0)) (e2 aC (aa 2) (aa 3))))
  (aj (jo (bh 5) (dJ (eN gq (ab (aa 4) af))) bj)
  (aI 3 (e2 da (aa 3) (Q3 1)))))
def aD:Fn:=fn 1 6
  (aj (kX 1 (pK 0 [((Q3 0),(Q3 0))]))
  (aj (kX 2 (gO (ab (Q3 0) af)))
  (aj (aI 3 (Q3 0))
  (aj (ko (e2 oLt (aa 3) (eN bX (ab (aa 2) af))) bP)
  (aj (rE 2)
  (ip 1))))))
def bO:Fn:=fn 3 6
  (aj (aI 3 (e2 aC (aW 2 (aa 0)) (aa 1)))
  (aj (aI 4 (e2 aC (aW 3 (aa 0)) (aa 1)))
  (aj (aI 5 (eN fC (ab (cz 1 (bh 0) (dJ (eN gq (ab (aa 4) af))) Y (ia (ab (aa 0) (ab (e2 o8 (aa 3) (e2 GW (aa 5) (aa 0))) af)))) af)))
  (aj (G8 (uO (aa 3)) (eI (ia (ab (Q3 0) (ab (Q3 0) (ab (eC .non) (ab (aa 5) af)))))) eD)
  (eI (ia (ab (e2 da (e2 aC (aW 1 (aa 0)) (aa 3)) (Q3 1)) (ab (e2 aC (aW 1 (aa 0)) (aa 1)) (ab (e2 o8 (aa 2) (aa 3)) (ab (aa 5) af))))))))))
def dc:Fn:=fn 1 2
  (aj (kX 1 (dG 0 aD (aa 0) af))
  (wY 1 (bh 0) (dG 0 bO (aa 1) (ab (aa 0) (ab (aa 2) af)))))
def br:Mt:=HG 1 1 1 []
  (aj (G8 (e2 MY (eN bX (ab (aW 4 (aa 0)) af)) (Q3 8)) OV eD)
  (aj (sX (g9 0 [.fld 4] aB (ab (eC (.str [])) af)))
  (aj (sX (g9 0 [.fld 5] aB (ab (Q3 0) af)))
  (eI (e2 pJ (eN bX (ab (aW 4 (aa 0)) af)) (Q3 1))))))
def jk:Fn:=fn 1 1
  (eI (iC (Oj .int (aa 0)) (oH (Oj .bool (aa 0)))))
def bf:Fn:=fn 2 2
  (G8 (KR (oH (bw jk (ab (aa 1) af))) (oH (ki oLe oLt (Q3 0) (aa 1) (eN bX (ab (aa 0) af))))) OV eD)
def fQ:Fn:=fn 1 1
  (eI (eN zA (ab (cz 1 (bh 0) (dJ (aa 0)) Y (eN bX (ab (aa 0) af))) af)))
def bp:Mt:=HG 1 3 3 [B,B]
  (aj (sX (xP (bw bf (ab (aW 4 (aa 0)) (ab (aa 1) af)))))
  (aj (G8 (e2 MX (e2 da (bw fQ (ab (aW 4 (aa 0)) af)) (eN bX (ab (aa 2) af))) (Q3 120)) OV eD)
  (aj (je 0 [.fld 5] (aa 1) (bz 0 [.fld 6] 0 [B,B] aR (ab (e2 aC (aW 5 (aa 0)) (aa 1)) (ab (aa 2) af))))
  (eE 0 [.fld 4] (aa 1) (e2 da (e2 aC (aW 4 (aa 0)) (aa 1)) (aa 2))))))
def bx:Sx :=
  (Nu (oa 0 1 [B,B] bp (bz 0 [] 1 [] br af) (ab (aa 2) af)))
def aM:Mt:=HG 1 2 3 (List.replicate 1 B)
  (aj (iq 0 4 (gO af))
  (aj (iq 0 5 (gO af))
  (aj (iq 0 6 (eNew 0 cT af))
  (G8 (fG (aa 1)) (jo (bh 2) (dJ (aa 1)) bx) eD))))
def l6:Fn:=fn 1 1
  (eI (eN ju (ab (aW 4 (aa 0)) af)))
def bu:Fn:=fn 1 1
  (eI (dG 0 dc (aW 6 (aa 0)) af))
def aN:Fn:=fn 2 2
  (aj (G8 (e2 oLt (aa 1) (eN bX (ab (aa 0) af))) (eI (e2 aC (aa 0) (aa 1))) eD)
  (eI (Q3 0)))
def cK:Fn:=fn 2 3
  (aj (aI 2 (e2 oMod (e2 da (e2 da (e2 oMod (aa 0) (Q3 2147483629)) (e2 k8 (Q3 48271) (aa 1))) (Q3 11)) (Q3 2147483629)))
  (aj (aI 2 (e2 da (e2 oMod (e2 k8 (aa 2) (aa 2)) (Q3 2147483629)) (e2 k8 (Q3 7919) (aa 1))))
  (eI (e2 oMod (e2 k8 (aa 2) (aa 2)) (Q3 2147483587)))))
def eu:Sx :=
  (G8 (e2 oEq (e2 oMod (bw aN (ab (aa 0) (ab (Q3 0) af))) (Q3 2)) (Q3 0)) (aj (sX (lV 6 [] aB (ab (e2 aC (aa 1) (e2 oMod (aa 4) (eN bX (ab (aa 1) af)))) af)))
  (aI 4 (e2 cn (aa 4) (eN bX (ab (aa 1) af))))) (sX (lV 6 [] aB (ab (e2 aC (aa 1) (e2 oMod (e2 cn (bw cK (ab (aa 4) (ab (e2 da (e2 k8 (Q3 30) (aa 3)) (aa 7)) af))) (Q3 7)) (eN bX (ab (aa 1) af)))) af))))
def dr:Fn:=fn 4 8
  (aj (aI 4 (bw aN (ab (aa 0) (ab (e2 da (Q3 1) (aa 3)) af))))
  (aj (aI 5 (e2 oMod (aa 4) (e2 da (aa 2) (Q3 1))))
  (aj (aI 4 (e2 cn (aa 4) (e2 da (aa 2) (Q3 1))))
  (aj (kX 6 (gO af))
  (aj (jo (bh 7) (d8 (aa 5)) eu)
  (aj (rE 6)
  (eI (eM gf (eC (.str [])) (ab (aa 6) af)))))))))
def g0:Fn:=fn 1 5
  (aj (aI 1 (bw aN (ab (aa 0) (ab (Q3 0) af))))
  (aj (aI 2 (e2 aC (gO (ab (eC (.str [97,98])) (ab (eC (.str [97,98,99])) (ab (eC (.str [97,98,99,100])) (ab (eC (.str [97,122])) (ab (eC (.str [97])) (ab (eC (.str [97,98,99,100,101,102,103,104,105,106,107,108,109,110,111,112,113,114,115,116,117,118,119,120,121,122])) af))))))) (e2 oMod (e2 cn (aa 1) (Q3 2)) (Q3 6))))
  (aj (aI 3 (e2 aC (gO (ab (Q3 1) (ab (Q3 2) (ab (Q3 3) (ab (Q3 4) (ab (Q3 2) (ab (Q3 1) (ab (Q3 0) (ab (Q3 8) af))))))))) (e2 oMod (e2 cn (aa 1) (Q3 12)) (Q3 8))))
  (aj (aI 4 (e2 aC (gO (ab (Q3 24) (ab (Q3 12) (ab (Q3 8) (ab (Q3 6) af))))) (e2 pJ (eN rn (ab (aa 3) (ab (Q3 4) af))) (Q3 1))))
  (aj (G8 (e2 oEq (e2 oMod (e2 cn (aa 1) (Q3 96)) (Q3 8)) (Q3 5)) (aI 4 (e2 cn (Q3 60) (eN pZ (ab (Q3 1) (ab (aa 3) af))))) eD)
  (aj (G8 (iC (e2 oEq (aa 3) (Q3 8)) (e2 IL (e2 oMod (e2 cn (aa 1) (Q3 96)) (Q3 8)) (Q3 5))) (aI 4 (Q3 3)) eD)
  (eI (cz 1 (bh 0) (d8 (aa 3)) Y (bw dr (ab (aa 1) (ab (aa 3) (ab (aa 5) (ab (aa 0) af)))))))))))))
def gH:Sx :=
  (rh 2 (rg 1 (ab (e2 oMod (bw cK (ab (bw aN (ab (aa 0) (ab (Q3 10) af))) (ab (aa 3) af))) (eN bX (ab (aa 1) af))) af)))
def de:Fn:=fn 1 4
  (aj (kX 1 (eN ju (ab (eC (.str [97,98,99,100,101,102,103,104,105,106,107,108,109,110,111,112,113,114,115,116,117,118,119,120,121,122])) af)))
  (aj (kX 2 (gO af))
  (aj (jo (bh 3) (d8 (Q3 26)) gH)
  (aj (rE 1)
  (ip 2)))))
def bL:Fn:=fn 2 2
  (eI (eM gf (eC (.str [])) (ab (cz 1 (bh 0) (dJ (aa 0)) Y (e2 GW (aa 2) (aa 0))) af)))
def ic:Sx :=
  (aj (aI 11 (e2 oP (aa 8) (e2 GW (aa 2) (aa 9))))
  (aj (G8 (KR (uO (aa 11)) (e2 IL (e3 qB (aa 4) (aa 10) (aa 11)) (aa 11))) (eI (eC (.bl B))) eD)
  (G8 (e2 cA (aa 10) (aa 4)) (aj (mh 4 (aa 10) (aa 11))
  (sX (lV 3 [] aB (ab (ia (ab (aa 10) (ab (aa 11) af))) af)))) eD)))
def fR:Sx :=
  (aj (xR (jm [(bh 6),(bh 7)]) (e2 aC (aa 3) (aa 5)))
  (aj (aI 8 (eN nc (ab (e2 aC (e2 aC (aa 1) (aa 7)) (Q3 3)) af)))
  (aj (G8 (KR (e2 IL (nK (e2 aC (aa 0) (aa 6)) 2) (nK (e2 aC (aa 1) (aa 7)) 2)) (e2 IL (eN bX (ab (aa 8) af)) (eN bX (ab (e2 aC (e2 aC (aa 0) (aa 6)) (Q3 3)) af)))) (eI (eC (.bl B))) eD)
  (aj (jo (jm [(bh 9),(bh 10)]) (dJ (e2 aC (e2 aC (aa 0) (aa 6)) (Q3 3))) ic)
  (aI 5 (e2 da (aa 5) (Q3 1)))))))
def iP:Sx :=
  (G8 (e2 IL (e2 GW (aa 4) (e2 aC (e2 aC (aa 0) (aa 12)) (Q3 2))) (e2 aC (e2 aC (aa 1) (e2 GW (aa 4) (aa 12))) (Q3 2))) (eI (eC (.bl B))) eD)
def eA:Fn:=fn 3 13
  (aj (kX 3 (gO (ab (ia (ab (Q3 0) (ab (Q3 0) af))) af)))
  (aj (kX 4 (pK 0 [((Q3 0),(Q3 0))]))
  (aj (aI 5 (Q3 0))
  (aj (ko (e2 oLt (aa 5) (eN bX (ab (aa 3) af))) fR)
  (aj (rE 4)
  (aj (rE 3)
  (aj (G8 (KR (e2 IL (eN bX (ab (aa 4) af)) (eN bX (ab (aa 0) af))) (e2 IL (eN bX (ab (aa 4) af)) (eN bX (ab (aa 1) af)))) (eI (eC (.bl B))) eD)
  (aj (jo (bh 12) (jP (Q3 1) (eN bX (ab (aa 0) af))) iP)
  (eI (eC (.bl M)))))))))))
def qy:Sx :=
  (sX (lV 8 [] aB (ab (e2 tW (nK (aa 9) 3) (ia (ab (eN fC (ab (cz 2 (jm [(bh 0),(bh 1)]) (dJ (e2 aC (aa 9) (Q3 3))) Y (ia (ab (e2 GW (aa 6) (aa 0)) (ab (aa 1) af)))) af)) af))) af)))
def xF:Fn:=fn 1 10
  (aj (aI 1 (bw g0 (ab (aa 0) af)))
  (aj (aI 2 (eC (.str [97,98,99,100,101,102,103,104,105,106,107,108,109,110,111,112,113,114,115,116,117,118,119,120,121,122])))
  (aj (aI 3 (dG 1 bu (eNew 1 aM (ab (eN ju (ab (aa 1) af)) af)) af))
  (aj (aI 4 (eN kf (ab (aa 2) (ab (bw de (ab (aa 0) af)) af))))
  (aj (aI 5 (dG 1 bu (eNew 1 aM (ab (cz 1 (bh 0) (dJ (aa 1)) Y (bw bL (ab (aa 0) (ab (aa 5) af)))) af)) af))
  (aj (G8 (oH (bw eA (ab (aa 3) (ab (aa 5) (ab (aa 4) af))))) (eI (eC (.bl B))) eD)
  (aj (aI 6 (eN iU (ab (eM gf (eC (.str [])) (ab (aa 1) af)) af)))
  (aj (aI 7 (eN iS (ab (Oi (bw de (ab (aa 0) af)) Y (Z (eN bX (ab (aa 6) af)))) af)))
  (aj (aI 4 (eN kf (ab (aa 6) (ab (aa 7) af))))
  (aj (kX 8 (gO af))
  (aj (jo (bh 9) (dJ (aa 3)) qy)
  (aj (rE 8)
  (eI (e2 oEq (dG 1 bu (eNew 1 aM (ab (cz 1 (bh 0) (dJ (aa 1)) Y (bw bL (ab (aa 0) (ab (aa 5) af)))) af)) af) (aa 8)))))))))))))))
end T12
end
section
namespace AU
structure St where
 lg:Vv
 lk:List (Option Nat)
 wy:List (List (Nat×Nat))
noncomputable def gW(w:List (Nat×Nat))(c:Nat):Option Nat:=(w.find? λp=>p.1==c).map (·.2)
noncomputable def pW(w:List (Nat×Nat))(c m:Nat):List (Nat×Nat):=if w.any (λp=>p.1==c) then w.map (λp=>if p.1==c then (p.1,m) else p) else w++[(c,m)]
structure WF(S:St):Prop where
 lk:S.lk.length=S.lg.length
 wy:S.wy.length=S.lg.length
 pos:0<S.lg.length
 up:∀i n,S.lk.getD i none=some n->n<S.lg.length
 on:∀i c n,gW (S.wy.getD i []) c=some n->n<S.lg.length
 nd:∀w∈S.wy,(w.map (·.1)).Nodup
 az:∀w∈S.wy,∀p∈w,97<=p.1/\p.1<=122
theorem sub_len{α:Type}[DecidableEq α]:∀(l r:List α),l.Nodup->(∀x∈l,x∈r)->l.length<=r.length
 |[],_,_,_=>YT _
 |a :: l,r,nd,h=>by
  obtain⟨g,f⟩:=Zd.mp nd;have d:a∈r:=h a Zu;have:=sub_len l (r.erase a) f λx b=>(List.mem_erase_of_ne (show x≠a from λe=>g (by rw[← e];exact b))).mpr (h x (Zt _ b));rw[List.length_erase_of_mem d]at this;have:0<r.length:=List.length_pos_of_mem d;rw[ZX];lia
def WF.small(W:WF S)(i:Nat):(S.wy.getD i []).length<16777216:=by
 by_cases h:i<S.wy.length
 ·have a:S.wy.getD i []∈S.wy:=by
   rw[Zv,Zq h];exact Yy h
  have:=sub_len ((S.wy.getD i []).map (·.1)) (List.range 123) (W.nd _ a) λx b=>by
   obtain⟨p,d,rfl⟩:=ZU.mp b;have:=(W.az _ a p d).2;exact Yc.mpr (by exact Nat.lt_succ_of_le this)
  rw[Zx,Z3]at this;lia
 ·rw[Zv,ZD (ZL h)];decide
def CC(w:List (Nat×Nat))(c:Nat):(w.any λp=>p.1==c)=(gW w c).isSome:=by
 unfold gW;rw[YJ,XJ,YF,List.find?_isSome]
def Bu(w:List (Nat×Nat))(c m d:Nat):gW (pW w c m) d=if d=c then Z m else gW w d:=by
 unfold pW;split
 ·rename_i h
  induction w with
  |nil=>simp at h
  |cons p w b =>
   rw[Zi];unfold gW;rw[Z0,Z0];by_cases q:p.1=c
   ·rw[Zn (by simpa using q)];by_cases r:p.1=d
    ·have:(p.1==d)=M:=by simpa using r
     simp only[this];rw[Zn (by rw[← r,q])];rfl
    ·have a:(p.1==d)=B:=by simpa using r
     have:d≠c:=λe=>r (by rw[e,q]);simp only[a,Zm this];have key:∀w:List (Nat×Nat),(w.map λp=>if p.1==c then (p.1,m) else p).find? (λp=>p.1==d)=w.find? λp=>p.1==d:=by
      intro w
      induction w with
      |nil=>rfl
      |cons x w b =>
       rw[Zi,Z0,Z0,b];by_cases y:x.1=c
       ·rw[Zn (by simpa using y)];have:(x.1==d)=B:=by simpa using λe=>this (by rw[← e,y])
        simp only[this]
       ·rw[Zm (by simpa using y)]
     rw[key w]
   ·rw[Zm (by simpa using q)];have i:(w.any λp=>p.1==c)=M:=by
     rw[YG]at h;simpa[q] using h
    have f:=b i;unfold gW at f;by_cases r:p.1=d
    ·have a:(p.1==d)=M:=by simpa using r
     simp only[a];rw[Zm (λe=>q (by rw[r,e]))]
    ·have a:(p.1==d)=B:=by simpa using r
     simp only[a];exact f
 ·rename_i h;unfold gW;rw[List.find?_append];by_cases q:d=c
  ·subst q;have:w.find? (λp=>p.1==d)=Y:=by
    rw[List.find?_eq_none];intro p g e;exact h (YF.mpr ⟨p,g,e⟩)
   rw[this,Zn L];simp
  ·rw[Zm q];have:((c==d)=B):=by simpa using λe=>q e.symm
   simp[this]
def Aa(w:List (Nat×Nat))(c m:Nat)(d:(w.map (·.1)).Nodup):((pW w c m).map (·.1)).Nodup:=by
 unfold pW;split
 ·rw[ZM];have:((λp:Nat×Nat=>p.1) ∘ λp=>if (p.1==c)=M then (p.1,m) else p)=λp=>p.1:=by
   funext p;simp only[Function.comp];split<;>rfl
  rw[this];exact d
 ·rename_i h;rw[ZF,ZQ];refine⟨d,by simp,λa g b hb e=>?_⟩;have i:b=c:=by simpa using hb
  subst e i;obtain⟨p,f,e⟩:=ZU.mp g;exact h (YF.mpr ⟨p,f,by simpa using e⟩)
def B9(h:p∈pW w c m):p.1=c\/p∈w:=by
 unfold pW at h;split at h
 ·obtain⟨q,a,rfl⟩:=ZU.mp h;by_cases r:(q.1==c)=M
  ·rw[Zn r];exact .inl (by simpa using r)
  ·rw[Zm r];exact .inr a
 ·rcases ZW.mp h with h | h
  ·exact .inr h
  ·rw[Zf.mp h];exact .inl L
def gE{α:Type}(l:List α)(i j:Nat)(x d:α):(l.set i x).getD j d=if i=j/\i<l.length then x else l.getD j d:=by
 rw[Zv,Zv,W3];by_cases h:i=j
 ·subst h;by_cases a:i<l.length
  ·rw[Zn L,Zn a,Zn ⟨rfl,a⟩];rfl
  ·rw[Zn L,Zm a,Zm (λz=>a z.2),ZD (ZL a)]
 ·rw[Zm h,Zm (λz=>h z.1)]
def bM{α:Type}(l:List α)(x d:α)(j:Nat):(l++[x]).getD j d=if j=l.length then x else l.getD j d:=by
 rw[Zv,Zv];by_cases h:j<l.length
 ·rw[ZA h,Zm (Zg h)]
 ·rw[Ys (ZL h)];by_cases a:j=l.length
  ·rw[Zn a,a,Nat.sub_self];rfl
  ·rw[Zm a,ZD (ZL h),ZD (by simp;lia)]
def WF.way(W:WF S){n c v:Nat}(g:v<S.lg.length)(j:97<=c/\c<=122):WF ⟨S.lg,S.lk,S.wy.set n (pW (S.wy.getD n []) c v)⟩:=by
 refine⟨W.lk,by rw[Yn];exact W.wy,W.pos,W.up,λi d m h=>?_,λw hw=>?_,λw hw p f=>?_⟩
 ·show m<S.lg.length;have b:gW ((S.wy.set n (pW (S.wy.getD n []) c v)).getD i []) d=Z m:=h;rw[gE]at b;split at b
  ·rw[Bu]at b;split at b
   ·cases b;exact g
   ·exact W.on n d m b
  ·exact W.on i d m b
 ·by_cases a:n<S.wy.length
  ·rcases List.mem_or_eq_of_mem_set hw with h | h
   ·exact W.nd w h
   ·rw[h];refine Aa _ c v (W.nd _ ?_);rw[Zv,Zq a];exact Yy a
  ·rw[List.set_eq_of_length_le (ZL a)]at hw;exact W.nd w hw
 ·by_cases a:n<S.wy.length
  ·rcases List.mem_or_eq_of_mem_set hw with h | h
   ·exact W.az w h p f
   ·rw[h]at f;rcases B9 f with e | e
    ·rw[e];exact j
    ·refine W.az _ ?_ p e;rw[Zv,Zq a];exact Yy a
  ·rw[List.set_eq_of_length_le (ZL a)]at hw;exact W.az w hw p f
def WF.link{S:St}(W:WF S){n v:Nat}(b:v<S.lg.length):WF ⟨S.lg,S.lk.set n (Z v),S.wy⟩:=by
 refine⟨by rw[Yn];exact W.lk,W.wy,W.pos,λi m h=>?_,W.on,W.nd,W.az⟩;have a:(S.lk.set n (Z v)).getD i Y=Z m:=h;rw[gE]at a;split at a
 ·cases a;exact b
 ·exact W.up i m a
def WF.more(W:WF S){l:Nat}{o:Option Nat}{w:List (Nat×Nat)}(f:∀n,o=Z n->n<S.lg.length)(hw:∀c n,gW w c=Z n->n<S.lg.length)(e:(w.map (·.1)).Nodup)(g:∀p∈w,97<=p.1/\p.1<=122):WF ⟨S.lg++[l],S.lk++[o],S.wy++[w]⟩:=by
 have b:∀{n},n<S.lg.length->n<(S.lg++[l]).length:=λh=>by rw[Zo,Z7];exact YY h
 refine⟨by rw[Zo,Zo,W.lk];rfl,by rw[Zo,Zo,W.wy];rfl,by rw[Zo];exact ZR W.pos (YS _ _),λi n h=>?_,λi c n h=>?_,λx d=>?_,λx d=>?_⟩
 ·have a:(S.lk++[o]).getD i Y=Z n:=h;rw[bM]at a;split at a
  ·exact b (f n a)
  ·exact b (W.up i n a)
 ·have a:gW ((S.wy++[w]).getD i []) c=Z n:=h;rw[bM]at a;split at a
  ·exact b (hw c n a)
  ·exact b (W.on i c n a)
 ·rcases ZW.mp d with h | h
  ·exact W.nd x h
  ·rw[Zf.mp h];exact e
 ·rcases ZW.mp d with h | h
  ·exact W.az x h
  ·rw[Zf.mp h];exact g
def up1(c v:Nat):Nat->St->Option Nat->Option (St×Option Nat)
 |_,S,none=>Z (S,Y)
 |0,_,some _=>Y
 |k+1,S,some n=>if (gW (S.wy.getD n []) c).isSome then Z (S,Z n) else up1 c v k ⟨S.lg,S.lk,S.wy.set n (pW (S.wy.getD n []) c v)⟩ (S.lk.getD n Y)
def Lr(c a v:Nat):Nat->St->Option Nat->Option St
 |_,S,none=>Z S
 |0,_,some _=>Y
 |k+1,S,some n=>if gW (S.wy.getD n []) c=Z a then Lr c a v k ⟨S.lg,S.lk,S.wy.set n (pW (S.wy.getD n []) c v)⟩ (S.lk.getD n Y) else Z S
def K8(S:St)(n c:Nat):Option (St×Nat):=(gW (S.wy.getD n []) c).bind λold=>if S.lg.getD old 0=S.lg.getD n 0+1 then Z (S,old) else
 (Lr c old S.lg.length 1000 ⟨S.lg++[S.lg.getD n 0+1],(S.lk++[S.lk.getD old Y]).set old (Z S.lg.length),S.wy++[S.wy.getD old []]⟩ (Z n)).map λa=>(a,S.lg.length)
def hb(S:St)(h c:Nat):Option (St×Nat):=if (gW (S.wy.getD h []) c).isSome then K8 S h c else
 (up1 c S.lg.length 1000 ⟨S.lg++[S.lg.getD h 0+1],S.lk++[Z 0],S.wy++[[]]⟩ (Z h)).bind λz=>match z.2 with
  |none=>Z (z.1,S.lg.length)
  |some n=>(K8 z.1 n c).map λy=>(⟨y.1.lg,y.1.lk.set S.lg.length (Z y.2),y.1.wy⟩,S.lg.length)
def hg(S:St)(h:Nat):Vv->Option (St×Nat)
 |[]=>Z (S,h)
 |c :: r=>(hb S h c).bind λz=>hg z.1 z.2 r
noncomputable def Sm(S:St):Prop:=S.lg.length<=100001
def WF.Lq(W:WF S)(i:Nat):((S.wy.getD i []).map (·.1)).Nodup/\∀p∈S.wy.getD i [],97<=p.1/\p.1<=122:=by
 by_cases h:i<S.wy.length
 ·have a:S.wy.getD i []∈S.wy:=by
   rw[Zv,Zq h];exact Yy h
  exact⟨W.nd _ a,W.az _ a⟩
 ·rw[Zv,ZD (ZL h)];exact⟨YL,λp b=>nomatch b⟩
noncomputable def S0:St:=⟨[0],[Y],[[]]⟩
def By:WF S0:=by
 refine⟨rfl,rfl,by decide,λi n h=>?_,λi c n h=>?_,λw hw=>?_,λw hw p a=>?_⟩
 ·cases i with
  |zero=>cases h
  |succ i=>cases h
 ·cases i with
  |zero=>cases h
  |succ i=>cases h
 ·rw[Zf.mp hw];exact YL
 ·rw[Zf.mp hw]at a;cases a
end AU
end
section
namespace VS
def e2v{a b:Ex}{x y:Val}(g:a U=Z x)(e:b U=Z y)(d:f x y=Z z):e2 f a b U=Z z:=by
 show (a U).bind _=_;rw[g,Zp,e];exact d
def xv{r:GG}{x:Val}{b:Vq}(e:a U=Z x)(d:r U=Z b):ab a r U=Z (x :: b):=by
 show (a U).bind _=_;rw[e,Zp,d];rfl
def xG{m:Md}(h:c U=Z (m,.bl M)):G8 c a b U=a U:=by
 show (c U).bind _=_;rw[h];rfl
def vy{m:Md}(h:c U=Z (m,.bl B)):G8 c a b U=b U:=by
 show (c U).bind _=_;rw[h];rfl
def ff{v:Val}(h:a U=Z b)(d:f b=Z v):eN f a U=Z v:=by
 show (a U).bind f=_;rw[h,Zp,d]
def dC{e:Ex}{U:Env}{t:T}(h:e U=Z (.fr,t)):eI e U=Z (.rt (.fr,t) U):=by
 show (e U).bind _=_;rw[h];rfl
def lA(h:a U=Z (.rt v d)):aj a b U=Z (.rt v d):=by
 show (a U).bind _=_;rw[h];rfl
def bB{a b:Sx}{U U1:Env}(h:a U=Z (.nx U1)):aj a b U=b U1:=by
 show (a U).bind _=_;rw[h];rfl
def sq{a b:Sx}{U U1:Env}{r:Option Out}(h:a U=Z (.nx U1))(q:b U1=r):aj a b U=r:=(bB h).trans q
def Mj{m:Md}(h:c U=Z (m,.bl M))(q:a U=r):G8 c a b U=r:=(xG h).trans q
def jO{c:Ex}{b:Sx}{m:Md}{r:Option Out}(h:c U=Z (m,.bl B))(q:b U=r):G8 c a b U=r:=(vy h).trans q
def fh{a:Vo}{v:Val}{U:Env}(f:a.length=d)(h:b (a.map (λt=>Z (.pu t))++List.replicate (e-d) Y)=Z (.rt v U)):fn d e b a=Z v:=by
 unfold fn;rw[Zn f,h];rfl
def E7{a:Vo}{U:Env}(f:a.length=d)(h:b (a.map (λt=>Z (.pu t))++List.replicate (e-d) Y)=Z (.nx U)):fn d e b a=Z (.fr,.non):=by
 unfold fn;rw[Zn f,h];rfl
def se{m:Md}{x:Bool}(f:a U=Z (m,.bl x))(e:x=M->b U=Z v)(d:x=B->v=(.fr,.bl B)):iC a b U=Z v:=by
 show (a U).bind _=_;rw[f,Zp];cases x with
 |true=>exact e L
 |false=>exact congrArg Z (d L).symm
def Bs{m:Md}{x:Bool}(f:a U=Z (m,.bl x))(e:x=B->b U=Z v)(d:x=M->v=(.fr,.bl M)):KR a b U=Z v:=by
 show (a U).bind _=_;rw[f,Zp];cases x with
 |false=>exact e L
 |true=>exact congrArg Z (d L).symm
def Fu{m n:Md}{x y:Bool}(f:a U=Z (m,.bl x))(d:b U=Z (.fr,.bl y)):iC a b U=Z (.fr,.bl (x&&y)):=se f (λe=>by rw[e];exact d) (λe=>by rw[e];rfl)
def PY{m n:Md}{x y:Bool}(f:a U=Z (m,.bl x))(d:b U=Z (.fr,.bl y)):KR a b U=Z (.fr,.bl (x||y)):=Bs f (λe=>by rw[e];exact d) (λe=>by rw[e];rfl)
def rZ{m:Md}{b:Bool}(h:a U=Z (m,.bl b)):oH a U=Z (.fr,.bl (!b)):=by
 show (a U).bind _=_;rw[h];rfl
def A7{x y z:Val}(j:a U=Z x)(i:b U=Z y)(h:f x y=Z (.fr,.bl M))(e:c U=Z z)(d:g y z=Z v):ki f g a b c U=Z v:=by
 show (a U).bind _=_;rw[j,Zp,i,Zp,h,Zp];show (c U).bind _=_;rw[e];exact d
def Bo{n:Nat}{i:Int}(b:0<=i)(a:i<n):Hw n i=Z i.toNat:=by rw[Hw,Zn b,Zn a]
def yO(a:i<n):Hw n (i:Int)=Z i:=by
 rw[Hw,Zn (Int.natCast_nonneg i),Zn (Int.ofNat_lt.mpr a)];rfl
def A8(l:Vu)(i:Int)(b:0<=i)(a:i<l.length):aC (m,.scr l) (n,.int i)=Z (.fr,.int (l.getD i.toNat 0)):=by
 have d:i.toNat<l.length:=by lia
 show (Hw l.length i).bind _=_;rw[Bo b a,Zp,Zv,Zq d];rfl
def C9(t:Tx)(i:Int)(b:0<=i)(a:i<t.length):aC (m,.str t) (n,.int i)=Z (.fr,.str [t.getD i.toNat 0]):=by
 have d:i.toNat<t.length:=by lia
 show (Hw t.length i).bind _=_;rw[Bo b a,Zp,Zv,Zq d];rfl
def l8(e:G2 60 a=M)(d:G2 60 b=M)(h:eqT a b=r):oEq (m,a) (n,b)=Z (.fr,.bl r):=by
 show (if G2 60 a/\G2 60 b then Z (Md.fr,T.bl (eqT a b)) else Y)=_;rw[Zn ⟨e,d⟩,h]
def lK{m:Md}{r:Bool}(e:G2 60 a=M)(d:G2 60 b=M)(h:eqT a b=r):IL (m,a) (n,b)=Z (.fr,.bl (!r)):=by
 show (if G2 60 a/\G2 60 b then Z (Md.fr,T.bl (!eqT a b)) else Y)=_;rw[Zn ⟨e,d⟩,h]
def oY{i:Nat}{U:Env}{l:Vo}{v:T}(f:U[i]?=Z (Z (.ow (.lst l))))(d:e U=Z (.fr,v))(b:l.length<16777216):sX (lV i [] aB (ab e af)) U=Z (.nx (U.set i (Z (.ow (.lst (l++[v])))))):=by
 have a:ab e af U=Z [(.fr,v)]:=xv d L;unfold sX lV;rw[f];show ((Z ([]:List Ky)).bind _ |>.map _)=_;rw[Zp,a,Zp];show ((aB (.lst l) [(.fr,v)]).map _ |>.map _)=_;rw[dR b];rfl
end VS
end
section
namespace T12
open VS AU
noncomputable abbrev pc(t:T):Vr:=Z (.pu t)
abbrev Q0(i:Int):Option Cell:=Z (.pu (.int i))
abbrev Q2(t:Tx):Option Cell:=Z (.pu (.str t))
noncomputable abbrev oc(t:T):Vr:=Z (.ow t)
noncomputable def Gu(w:List (Nat×Nat)):T:=.dct 0 (w.map λp=>(T.str [p.1],T.int (p.2:Int)))
noncomputable def Gp:Option Nat->T
 |none=>.non
 |some n=>.int (n:Int)
def II(S:St):qQ:=[(1,.lst (S.lg.map λ(n:Nat)=>T.int (n:Int))),(2,.lst (S.lk.map Gp)),(3,.lst (S.wy.map Gu))]
def FW(S:St)(b:Bool):T:=.obj 1 ((0,.bl b) :: II S)
def ku(o:Option Nat):FZ (Gp o)=M:=by cases o<;>rfl
theorem dX{α:Type}(f:α->T)(h:∀a,eV (f a)=M):∀l:List α,dz (l.map f)=M
 |[]=>rfl
 |a :: l=>Ze.mpr ⟨h a,dX f h l⟩
def yI(w:List (Nat×Nat)):eV (Gu w)=M:=by
 show qb (w.map λp=>(T.str [p.1],T.int (p.2:Int)))=M
 induction w with
 |nil=>rfl
 |cons p w a=>exact a
def jC(S:St):dA (II S)=M:=by
 have d:eV (.lst (S.lg.map λ(n:Nat)=>T.int (n:Int)))=M:=dX _ (λ_=>rfl) _;have b:eV (.lst (S.lk.map Gp))=M:=dX _ (λo=>m6 _ (ku o)) _;have a:eV (.lst (S.wy.map Gu))=M:=dX _ yI _;show ((eV _ && !(1==0&&Lb _))&&((eV _ && !(2==0&&Lb _))&&((eV _ && !(3==0&&Lb _))&&M)))=M;rw[d,b,a];rfl
def DX(S:St)(b:Bool):oS 1 (FW S b)=Z (.lst (S.lg.map λ(n:Nat)=>T.int (n:Int))):=rfl
def FQ(S:St)(b:Bool):oS 2 (FW S b)=Z (.lst (S.lk.map Gp)):=rfl
def Fx(S:St)(b:Bool):oS 3 (FW S b)=Z (.lst (S.wy.map Gu)):=rfl
def gp{m:Md}{t:T}(h:a U=Z (m,t))(b:oS k t=Z u):aW k a U=Z (sub m u):=by
 unfold aW;rw[h,Zp,b];rfl
def kI{α:Type}(f:α->T)(l:List α)(i:Nat)(d:α)(h:i<l.length):aC (m,.lst (l.map f)) (n,.int (i:Int))=Z (sub m (f (l.getD i d))):=by
 show (Hw (l.map f).length (i:Int)).bind _=_;rw[Zx,yO h,Zp,ZZ,Zq h,Zv,Zq h];rfl
section
def qo{i:Nat}(h:a U=Z (m,FW S b))(he:e U=Z (n,.int (i:Int)))(d:i<S.lg.length):e2 aC (aW 1 a) e U=Z (.fr,.int ((S.lg.getD i 0:Nat):Int)):=e2v (gp h (DX S b)) he (kI _ _ i 0 d)
def uH{i:Nat}(h:a U=Z (m,FW S b))(he:e U=Z (n,.int (i:Int)))(d:i<S.lk.length):e2 aC (aW 2 a) e U=Z (.fr,Gp (S.lk.getD i Y)):=(e2v (gp h (FQ S b)) he (kI _ _ i Y d)).trans (by
 show Z (up _ _)=_;unfold up;rw[ku];rfl)
def lS{i:Nat}(h:a U=Z (m,FW S b))(he:e U=Z (n,.int (i:Int)))(d:i<S.wy.length):e2 aC (aW 3 a) e U=Z (m,Gu (S.wy.getD i [])):=e2v (gp h (Fx S b)) he (kI _ _ i [] d)
def Dx(h:a U=Z (m,FW S b)):eN bX (ab (aW 1 a) af) U=Z (.fr,.int (S.lg.length:Nat)):=ff (xv (gp h (DX S b)) L) (by
 show Z (Md.fr,T.int (((S.lg.map λ(n:Nat)=>T.int (n:Int)).length:Nat):Int))=_;rw[Zx])
end
def BQ(a c:Nat):eqT (.str [a]) (.str [c])=(a==c):=by
 simp only[eqT];by_cases h:a=c
 ·simp[h]
 ·simp[h]
def oB(w:List (Nat×Nat))(c:Nat):cS (w.map λp=>(T.str [p.1],T.int (p.2:Int))) (.str [c])=(gW w c).map λ(n:Nat)=>T.int (n:Int):=by
 unfold cS gW;rw[List.find?_map];have:((λp:T×T=>eqT p.1 (.str [c])) ∘ λp:Nat×Nat=>(T.str [p.1],T.int (p.2:Int)))=λp:Nat×Nat=>p.1==c:=by
  funext p;exact BQ p.1 c
 rw[this];cases w.find? λp=>p.1==c with
 |none=>rfl
 |some p=>rfl
def EN(w:List (Nat×Nat))(c m:Nat):dput (w.map λp=>(T.str [p.1],T.int (p.2:Int))) (.str [c]) (.int (m:Int))=(pW w c m).map λp=>(T.str [p.1],T.int (p.2:Int)):=by
 have a:(w.map λp=>(T.str [p.1],T.int (p.2:Int))).any (λp=>eqT p.1 (.str [c]))=w.any λp=>p.1==c:=by
  rw[List.any_map];congr 1;funext p;exact BQ p.1 c
 unfold dput pW;rw[a];split
 ·rw[ZM,ZM];apply Yv;intro p _;simp only[Function.comp,BQ];split<;>rfl
 ·rw[ZF];rfl
section
def FS(h:a U=Z (m,Gu w))(he:e U=Z (n,.str [c])):e2 mS e a U=Z (.fr,.bl (gW w c).isSome):=e2v he h (by
 show (if M=M then Z (Md.fr,T.bl (cS _ _).isSome) else Y)=_;rw[Zn L,oB,YJ])
def Ew(h:a U=Z (m,Gu w))(he:e U=Z (n,.str [c])):e2 cA e a U=Z (.fr,.bl (!(gW w c).isSome)):=e2v he h (by
 show (match (if M=M then Z (Md.fr,T.bl (cS (w.map λp=>(T.str [p.1],T.int (p.2:Int))) (.str [c])).isSome) else Y) with | some (_,.bl b)=>some (Md.fr,T.bl (!b)) | _=>none)=_;rw[Zn L,oB,YJ])
def yx(h:a U=Z (m,Gu w))(he:e U=Z (n,.str [c]))(d:gW w c=Z v):e2 GW a e U=Z (.fr,.int (v:Int)):=e2v h he (by
 show (if M=M then (cS _ _).map (sub m) else Y)=_;rw[Zn L,oB,d];rfl)
def Bf(h:a U=Z (m,Gu w))(he:e U=Z (n,.str [c])):e2 oP a e U=Z (.fr,Gp (gW w c)):=e2v h he (by
 show (if M=M then Z (match cS (w.map λp=>(T.str [p.1],T.int (p.2:Int))) (.str [c]) with | some t=>sub m t | none=>(.fr,.non)) else none)=_;rw[Zn L,oB];cases gW w c with
 |none=>rfl
 |some v=>rfl)
def yC{S:St}{v:Nat}(d:i<S.wy.length)(he:e (oc (FW S b) :: r)=Z (n,.int (i:Int)))(l:ec (oc (FW S b) :: r)=Z (m,.str [c]))(g:ev (oc (FW S b) :: r)=Z (k,.int (v:Int)))(f:(S.wy.getD i []).length<16777216) :
  eE 0 [.fld 3,.ix e] ec ev (oc (FW S b) :: r)=Z (.nx (oc (FW ⟨S.lg,S.lk,S.wy.set i (pW (S.wy.getD i []) c v)⟩ b) :: r)):=by
 unfold eE;rw[g,Zp];show ((keys [.fld 3,.ix e] (oc (FW S b) :: r)).bind _)=_;have j:keys [.fld 3,.ix e] (oc (FW S b) :: r)=Z [.fld 3,.at (.int (i:Int))]:=by
  show ((e _).bind _).map _=_;rw[he];rfl
 rw[j,Zp,l,Zp];have h:pm (jv (m,.str [c]) (k,.int (v:Int))) [.fld 3,.at (.int (i:Int))] (FW S b)=Z (FW ⟨S.lg,S.lk,S.wy.set i (pW (S.wy.getD i []) c v)⟩ b,()):=by
  show ((pm (jv (m,.str [c]) (k,.int (v:Int))) [.at (.int (i:Int))] (.lst (S.wy.map Gu))).map _)=_;have:pm (jv (m,.str [c]) (k,.int (v:Int))) [.at (.int (i:Int))] (.lst (S.wy.map Gu))=Z (.lst ((S.wy.set i (pW (S.wy.getD i []) c v)).map Gu),()):=by
   show ((Hw (S.wy.map Gu).length (i:Int)).bind _)=_;rw[Zx,yO d,Zp,ZZ,Zq d];show ((jv (m,.str [c]) (k,.int (v:Int)) (Gu S.wy[i])).map _)=_;have e1:S.wy.getD i []=S.wy[i]:=by rw[Zv,Zq d];rfl
   rw[e1]at f ⊢;show ((if M=M/\M=M/\(S.wy[i].map _).length<dq then Z (T.dct 0 (dput _ _ _),()) else Y).map _)=_;rw[Zn ⟨rfl,rfl,by rw[Zx];exact f⟩,EN,W0];rfl
  rw[this];rfl
 rw[h];rfl
def yP{S:St}{v:Nat}{r:List (Vr)}(h:i<S.lk.length)(he:e (oc (FW S b) :: r)=Z (n,.int (i:Int)))(d:ev (oc (FW S b) :: r)=Z (.fr,.int (v:Int))) :
  eE 0 [.fld 2] e ev (oc (FW S b) :: r)=Z (.nx (oc (FW ⟨S.lg,S.lk.set i (Z v),S.wy⟩ b) :: r)):=by
 unfold eE;rw[d,Zp];show ((keys [.fld 2] (oc (FW S b) :: r)).bind _)=_;have g:keys [.fld 2] (oc (FW S b) :: r)=Z [.fld 2]:=rfl;rw[g,Zp,he,Zp];have f:pm (jv (n,.int (i:Int)) (.fr,.int (v:Int))) [.fld 2] (FW S b)=Z (FW ⟨S.lg,S.lk.set i (Z v),S.wy⟩ b,()):=by
  show ((jv (n,.int (i:Int)) (.fr,.int (v:Int)) (.lst (S.lk.map Gp))).map _)=_;have:jv (n,.int (i:Int)) (.fr,.int (v:Int)) (.lst (S.lk.map Gp))=Z (.lst ((S.lk.set i (Z v)).map Gp),()):=by
   show ((Hw (S.lk.map Gp).length (i:Int)).map _)=_;rw[Zx,yO h,W0];rfl
  rw[this];rfl
 rw[f];rfl
end
def lj{c:Ex}{n:Nat}{m:Md}(e:c U=Z (m,.bl M))(d:a U=Z (.nx b)):dZ c a (n+1) U=dZ c a n b:=by
 show (c U).bind _=_;rw[e];show (if M=M then (a U).bind _ else Z (.nx U))=_;rw[Zn L,d];rfl
def d6{m:Md}(b:c U=Z (m,.bl B)):dZ c a (n+1) U=Z (.nx U):=by
 show (c U).bind _=_;rw[b];rfl
def iO{mv:List Bool}{as:GG}{xs:Vq}{S:St}{v:T}{b:Bool}{r:List (Vr)}(h:as (oc (FW S b) :: r)=Z xs)(i:argsOk mv xs=M)(j:dz (trees xs)=M)(f:g (II S) (trees xs)=Z (II a,v))(e:FZ v=M) :
  bz 0 [] 0 mv g as (oc (FW S b) :: r)=Z ((.fr,v),oc (FW a b) :: r):=by
 show ((Z ([]:List Ky)).bind λd=>(as (oc (FW S b) :: r)).bind λxs=>(pm (kN 0 mv g xs) d (FW S b)).map λz=>(z.2,(oc (FW S b) :: r).set 0 (oc z.1)))=_;rw[Zp,h,Zp];show ((if 1=0+1/\dA (II S)=M/\argsOk mv xs=M/\dz (trees xs)=M then (g (II S) (trees xs)).bind λz=>if dA z.1=M/\FZ z.2=M then Z (T.obj 1 ((0,.bl b) :: z.1),(Md.fr,z.2)) else Y else Y).map _)=_;rw[Zn ⟨rfl,jC S,i,j⟩,f,Zp,Zn ⟨jC a,e⟩];rfl
def Cy{e:Ex}{S:St}{b:Bool}{r:List (Vr)}{v:Nat}(h:e (oc (FW S b) :: r)=Z (.fr,.int (v:Int)))(f:S.lg.length<16777216):sX (g9 0 [.fld 1] aB (ab e af)) (oc (FW S b) :: r)=Z (.nx (oc (FW ⟨S.lg++[v],S.lk,S.wy⟩ b) :: r)):=by
 show (((Z [Ky.fld 1]).bind λd=>(ab e af (oc (FW S b) :: r)).bind λa=>(pm (λx=>aB x a) d (FW S b)).map _).map _)=_;rw[Zp,xv (r:=af) h L,Zp];show (((aB (.lst (S.lg.map λ(n:Nat)=>T.int (n:Int))) [(.fr,.int (v:Int))]).map _).map _ |>.map _)=_;rw[dR (by rw[Zx];exact f),show (S.lg.map λ(n:Nat)=>T.int (n:Int))++[.int (v:Int)]=(S.lg++[v]).map λ(n:Nat)=>T.int (n:Int) from by rw[ZF];rfl];rfl
def Ci{e:Ex}{S:St}{b:Bool}{r:List (Vr)}{v:Option Nat}(h:e (oc (FW S b) :: r)=Z (.fr,Gp v))(f:S.lk.length<16777216):sX (g9 0 [.fld 2] aB (ab e af)) (oc (FW S b) :: r)=Z (.nx (oc (FW ⟨S.lg,S.lk++[v],S.wy⟩ b) :: r)):=by
 show (((Z [Ky.fld 2]).bind λd=>(ab e af (oc (FW S b) :: r)).bind λa=>(pm (λx=>aB x a) d (FW S b)).map _).map _)=_;rw[Zp,xv (r:=af) h L,Zp];show (((aB (.lst (S.lk.map Gp)) [(.fr,Gp v)]).map _).map _ |>.map _)=_;rw[dR (by rw[Zx];exact f),show (S.lk.map Gp)++[Gp v]=(S.lk++[v]).map Gp from by rw[ZF];rfl];rfl
def C8(o:Option Nat):up .pu (Gp o)=(.fr,Gp o):=by
 unfold up;rw[ku];rfl
def xg(S:St)(l:Nat)(o:Option Nat)(w:List (Nat×Nat))(f:S.lg.length<16777216)(d:S.lk.length<16777216)(a:S.wy.length<16777216):aH (II S) [.int (l:Int),Gp o,Gu w]=Z (II ⟨S.lg++[l],S.lk++[o],S.wy++[w]⟩,.int (S.lg.length:Int)):=by
 have j:=Cy (S:=S) (b:=M) (r:=[Q0 (l:Int),pc (Gp o),oc (Gu w)]) (e:=aa 1) (v:=l) L f;have i:=Ci (S:=⟨S.lg++[l],S.lk,S.wy⟩) (b:=M) (r:=[Q0 (l:Int),pc (Gp o),oc (Gu w)]) (e:=aa 2) (v:=o) (congrArg Z (C8 o)) d;have h:mU 0 [.fld 3] 3 [oc (FW ⟨S.lg++[l],S.lk++[o],S.wy⟩ M),Q0 (l:Int),pc (Gp o),oc (Gu w)]=Z (.nx [oc (FW ⟨S.lg++[l],S.lk++[o],S.wy++[w]⟩ M),Q0 (l:Int),pc (Gp o),Y]):=by
  show ((aB (.lst (S.wy.map Gu)) [(.fr,Gu w)]).map _ |>.map _)=_;rw[dR (by rw[Zx];exact a),show (S.wy.map Gu)++[Gu w]=(S.wy++[w]).map Gu from by rw[ZF];rfl];rfl
 have g:=dC (e:=e2 pJ (eN bX (ab (aW 1 (aa 0)) af)) (Q3 1)) (U:=[oc (FW ⟨S.lg++[l],S.lk++[o],S.wy++[w]⟩ M),Q0 (l:Int),pc (Gp o),Y]) (t:=.int (S.lg.length:Int)) (e2v (Dx (m:=.bo) L) L (by
  show Z (Md.fr,T.int ((((S.lg++[l]).length:Nat):Int)-1))=_;rw[Zo,Z7,show (((S.lg.length+1:Nat)):Int)-1=(S.lg.length:Int) by omega]))
 unfold aH HG;rw[Zn ⟨rfl,rfl⟩];have body:=sq (b:=aj (sX (g9 0 [.fld 2] aB (ab (aa 2) af))) (aj (mU 0 [.fld 3] 3) (eI (e2 pJ (eN bX (ab (aW 1 (aa 0)) af)) (Q3 1))))) j (sq i (sq h g));exact congrArg (λz:Option Out=>z.bind _) body
def BC(C:97<=c/\c<=122):∀(k:Nat)(S b:St)(o:Option Nat),WF S->v<S.lg.length->(∀n,o=Z n->n<S.lg.length)->Lr c a v k S o=Z b->WF b/\b.lg=S.lg/\∃d,∀N,k<N->∀z:Vr,
  dZ (iC (fG (aa 1)) (e2 oEq (e2 oP (e2 aC (aW 3 (aa 0)) (aa 1)) (aa 2)) (aa 3))) bH N [oc (FW S true),pc (Gp o),Q2 ([c]),Q0 (a:Int),z,Q0 (v:Int)] =
   Z (.nx [oc (FW b true),pc (Gp d),Q2 ([c]),Q0 (a:Int),z,Q0 (v:Int)]):=by
 intro k
 induction k with
 |zero =>
  intro S b o W f j e;cases o with
  |none =>
   cases (show Z S=Z b from e);refine⟨W,rfl,Y,λN hN z=>?_⟩;obtain⟨N,rfl⟩:∃M,N=M+1:=⟨N-1,by omega⟩
   exact d6 (m:=.fr) L
  |some n=>cases e
 |succ k w =>
  intro S b o W f j e;cases o with
  |none =>
   cases (show Z S=Z b from e);refine⟨W,rfl,Y,λN hN z=>?_⟩;obtain⟨N,rfl⟩:∃M,N=M+1:=⟨N-1,by omega⟩
   exact d6 (m:=.fr) L
  |some n =>
   have l:=j n L;have p:n<S.wy.length:=by rw[W.wy];exact l
   have cond:∀z:Vr,iC (fG (aa 1)) (e2 oEq (e2 oP (e2 aC (aW 3 (aa 0)) (aa 1)) (aa 2)) (aa 3)) [oc (FW S true),Q0 (n:Int),Q2 ([c]),Q0 (a:Int),z,Q0 (v:Int)]=Z (.fr,.bl (decide (gW (S.wy.getD n []) c=Z a))):=λz=>by
    refine se (m:=.fr) (x:=true) L (λ_=>?_) (λh=>by cases h);refine e2v (Bf (m:=.bo) (lS (m:=.bo) (n:=.fr) L L p) (n:=.fr) L) (y:=(.fr,.int (a:Int))) L ?_;cases hg:gW (S.wy.getD n []) c with
    |none=>rw[ZG (by simp)];exact l8 L L L
    |some q =>
     refine(l8 L L (show eqT (.int (q:Int)) (.int (a:Int))=decide (Z q=Z a) from ?_));simp only[eqT];by_cases h:q=a
     ·subst h;simp
     ·have E:¬(q:Int)=(a:Int):=by omega
      have D:¬Z q=Z a:=λz=>h (Zk z);rw[ZG D];exact ZJ.mpr E
   unfold Lr at e;split at e
   ·rename_i g;have F:=W.way (n:=n) (c:=c) (v:=v) f C;obtain⟨u,s,d,r⟩:=w _ b (S.lk.getD n Y) F f (λm A=>W.up n m A) e;refine⟨u,s,d,λN hN z=>?_⟩;obtain⟨N,rfl⟩:∃M,N=M+1:=⟨N-1,by omega⟩
    refine(lj (m:=.fr) ((cond z).trans (by rw[decide_eq_true g])) ?_).trans (r N (by omega) z);unfold bH;refine sq (yC (S:=S) (i:=n) (n:=.fr) (m:=.fr) (k:=.fr) (c:=c) (v:=v) p L L L (W.small n)) ?_;have G:n<S.lk.length:=by rw[W.lk];exact l
    exact aG (m:=.fr) (t:=Gp (S.lk.getD n Y)) (uH (S:=⟨S.lg,S.lk,S.wy.set n (pW (S.wy.getD n []) c v)⟩) (m:=.bo) (n:=.fr) L L G) (by decide) (by decide:1<6)
   ·rename_i g;cases e;refine⟨W,rfl,Z n,λN hN z=>?_⟩;obtain⟨N,rfl⟩:∃M,N=M+1:=⟨N-1,by omega⟩
    exact d6 (m:=.fr) ((cond z).trans (by rw[ZG g]))
def BI(y:97<=c/\c<=122):∀(k:Nat)(S a:St)(o b:Option Nat),WF S->v<S.lg.length->(∀n,o=Z n->n<S.lg.length)->up1 c v k S o=Z (a,b)->WF a/\a.lg=S.lg/\(∀n,b=Z n->n<S.lg.length)/\∀N,k<N->∀z:Vr,
  dZ (iC (fG (aa 4)) (e2 cA (aa 2) (e2 aC (aW 3 (aa 0)) (aa 4)))) bI N [oc (FW S true),z,Q2 ([c]),Q0 (v:Int),pc (Gp o)] =
   Z (.nx [oc (FW a true),z,Q2 ([c]),Q0 (v:Int),pc (Gp b)]):=by
 intro k
 induction k with
 |zero =>
  intro S a o b W d g e;cases o with
  |none =>
   cases (show Z (S,Y)=Z (a,b) from e);refine⟨W,rfl,(λn h=>nomatch h),λN hN z=>?_⟩;obtain⟨N,rfl⟩:∃M,N=M+1:=⟨N-1,by omega⟩
   exact d6 (m:=.fr) L
  |some n=>cases e
 |succ k u =>
  intro S a o b W d g e;cases o with
  |none =>
   cases (show Z (S,Y)=Z (a,b) from e);refine⟨W,rfl,(λn h=>nomatch h),λN hN z=>?_⟩;obtain⟨N,rfl⟩:∃M,N=M+1:=⟨N-1,by omega⟩
   exact d6 (m:=.fr) L
  |some n =>
   have j:=g n L;have l:n<S.wy.length:=by rw[W.wy];exact j
   have cond:∀z:Vr,iC (fG (aa 4)) (e2 cA (aa 2) (e2 aC (aW 3 (aa 0)) (aa 4))) [oc (FW S true),z,Q2 ([c]),Q0 (v:Int),Q0 (n:Int)]=Z (.fr,.bl (!(gW (S.wy.getD n []) c).isSome)):=λz =>
    se (m:=.fr) (x:=true) L (λ_=>Ew (m:=.bo) (n:=.fr) (lS (m:=.bo) (n:=.fr) L L l) L) (λh=>by cases h)
   unfold up1 at e;split at e
   ·rename_i f;cases e;refine⟨W,rfl,g,λN hN z=>?_⟩;obtain⟨N,rfl⟩:∃M,N=M+1:=⟨N-1,by omega⟩
    exact d6 (m:=.fr) ((cond z).trans (by rw[f];rfl))
   ·rename_i f;have A:=W.way (n:=n) (c:=c) (v:=v) d y;obtain⟨s,r,p,q⟩:=u _ a (S.lk.getD n Y) b A d (λm w=>W.up n m w) e;refine⟨s,r,p,λN hN z=>?_⟩;obtain⟨N,rfl⟩:∃M,N=M+1:=⟨N-1,by omega⟩
    have D:(gW (S.wy.getD n []) c).isSome=B:=by simpa using f
    refine(lj (m:=.fr) ((cond z).trans (by rw[D];rfl)) ?_).trans (q N (by omega) z);unfold bI;refine sq (yC (S:=S) (i:=n) (n:=.fr) (m:=.fr) (k:=.fr) (c:=c) (v:=v) l L L L (W.small n)) ?_;have C:n<S.lk.length:=by rw[W.lk];exact j
    exact aG (m:=.fr) (t:=Gp (S.lk.getD n Y)) (uH (S:=⟨S.lg,S.lk,S.wy.set n (pW (S.wy.getD n []) c v)⟩) (m:=.bo) (n:=.fr) L L C) (by decide) (by decide:4<5)
def Cs(a b:Nat):oEq (m,.int (a:Int)) (n,.int (b:Int))=Z (.fr,.bl (decide (a=b))):=l8 L L (by
 simp only[eqT];by_cases h:a=b
 ·subst h;simp
 ·rw[ZG h];exact ZJ.mpr (by omega))
def xi{S:St}{n r:Nat}(W:WF S)(G:Sm S)(q:n<S.lg.length)(H:97<=c/\c<=122)(e:K8 S n c=Z (a,r)):WF a/\r<a.lg.length/\S.lg.length<=a.lg.length/\a.lg.length<=S.lg.length+1/\av (II S) [.int (n:Int),.str [c]]=Z (II a,.int (r:Int)):=by
 unfold K8 at e;obtain⟨old,j,e⟩:=Zz.mp e;have hold:=W.on n c old j;have R:n<S.wy.length:=by rw[W.wy];exact q
 have how:old<S.wy.length:=by rw[W.wy];exact hold
 have xt:old<S.lk.length:=by rw[W.lk];exact hold
 have Lc:S.lg.length<=100001:=G;unfold av HG;rw[Zn ⟨rfl,rfl⟩];have s1:=aG (i:=3) (m:=.fr) (e:=e2 GW (e2 aC (aW 3 (aa 0)) (aa 1)) (aa 2)) (U:=[oc (FW S M),Q0 (n:Int),Q2 ([c]),Y,Y,Y]) (yx (m:=.bo) (n:=.fr) (lS (m:=.bo) (n:=.fr) L L R) L j) (by decide) (by decide:3<6);have h:=aG (i:=4) (m:=.fr) (e:=e2 da (e2 aC (aW 1 (aa 0)) (aa 1)) (Q3 1)) (U:=[oc (FW S M),Q0 (n:Int),Q2 ([c]),Q0 (old:Int),Y,Y]) (t:=.int ((S.lg.getD n 0+1:Nat):Int)) (e2v (qo (m:=.bo) (n:=.fr) L L q) L L) (by decide) (by decide:4<6);have cd:e2 oEq (e2 aC (aW 1 (aa 0)) (aa 3)) (aa 4) [oc (FW S M),Q0 (n:Int),Q2 ([c]),Q0 (old:Int),Q0 ((S.lg.getD n 0+1:Nat):Int),Y]=Z (.fr,.bl (decide (S.lg.getD old 0=S.lg.getD n 0+1))):=e2v (qo (m:=.bo) (n:=.fr) L L hold) (y:=(.fr,.int ((S.lg.getD n 0+1:Nat):Int))) L (Cs _ _);split at e
 ·rename_i g;obtain⟨rfl,rfl⟩:=Wp (Zk e);rw[decide_eq_true g]at cd;refine⟨W,hold,Zl _,Y5 _,?_⟩;have body:∀b:Sx,aj (aI 3 (e2 GW (e2 aC (aW 3 (aa 0)) (aa 1)) (aa 2))) (aj (aI 4 (e2 da (e2 aC (aW 1 (aa 0)) (aa 1)) (Q3 1))) (aj (G8 (e2 oEq (e2 aC (aW 1 (aa 0)) (aa 3)) (aa 4)) (ip 3) eD) b)) [oc (FW S M),Q0 (n:Int),Q2 ([c]),Y,Y,Y]=Z (.rt (.fr,.int (old:Int)) [oc (FW S M),Q0 (n:Int),Q2 ([c]),Q0 (old:Int),Q0 ((S.lg.getD n 0+1:Nat):Int),Y]):=λb =>
   sq s1 (sq h (lA (Mj cd L)))
  exact congrArg (λz:Option Out=>z.bind _) (body _)
 ·rename_i g;rw[ZG g]at cd;obtain⟨s,Q,e3⟩:=Zs.mp e;obtain⟨rfl,rfl⟩:=Wp e3;have wn:=W.Lq old;have P:=W.more (l:=S.lg.getD n 0+1) (o:=S.lk.getD old Y) (w:=S.wy.getD old []) (λm f=>W.up old m f) (λd m f=>W.on old d m f) wn.1 wn.2;have hlen:(S.lg++[S.lg.getD n 0+1]).length=S.lg.length+1:=by rw[Zo];rfl
  have O:=P.link (n:=old) (v:=S.lg.length) (by show S.lg.length<(S.lg++[S.lg.getD n 0+1]).length;omega);obtain⟨C,A,X,u⟩:=BC H 1000 _ s (Z n) O (by show S.lg.length<(S.lg++[S.lg.getD n 0+1]).length;omega) (λm f=>by cases f;show n<(S.lg++[S.lg.getD n 0+1]).length;omega) Q;have Px:s.lg.length=S.lg.length+1:=by rw[A];exact hlen
  refine⟨C,by omega,by omega,by omega,?_⟩;have nw:=xg S (S.lg.getD n 0+1) (S.lk.getD old Y) (S.wy.getD old []) (by omega) (by rw[W.lk];omega) (by rw[W.wy];omega);have args:ab (aa 4) (ab (e2 aC (aW 2 (aa 0)) (aa 3)) (ab (eN j4 (ab (e2 aC (aW 3 (aa 0)) (aa 3)) af)) af)) [oc (FW S M),Q0 (n:Int),Q2 ([c]),Q0 (old:Int),Q0 ((S.lg.getD n 0+1:Nat):Int),Y]=Z [(.fr,.int ((S.lg.getD n 0+1:Nat):Int)),(.fr,Gp (S.lk.getD old Y)),(.fr,Gu (S.wy.getD old []))] :=
   xv L (xv (uH (m:=.bo) (n:=.fr) L L xt) (xv (ff (xv (lS (m:=.bo) (n:=.fr) L L how) L) (by
    show (if cL (((S.wy.getD old []).map λp=>(T.str [p.1],T.int (p.2:Int))).map (·.2))=M then Z (Md.fr,Gu (S.wy.getD old [])) else Y)=_;rw[Zn (by rw[ZM];exact p6 _ (λ_=>rfl) _)])) L))
  have N:argsOk [B,B,M] [(.fr,.int ((S.lg.getD n 0+1:Nat):Int)),(.fr,Gp (S.lk.getD old Y)),(.fr,Gu (S.wy.getD old []))]=M:=by
   show (M&&(FZ (Gp (S.lk.getD old Y))&&M))=M;rw[ku];rfl
  have an:dz (trees [(Md.fr,T.int ((S.lg.getD n 0+1:Nat):Int)),(.fr,Gp (S.lk.getD old Y)),(.fr,Gu (S.wy.getD old []))])=M:=by
   show (M&&(eV (Gp (S.lk.getD old Y))&&(eV (Gu (S.wy.getD old []))&&M)))=M;rw[m6 _ (ku _),yI];rfl
  have J:=iO (b:=M) args N an nw L;have F:iD 5 (bz 0 [] 0 [B,B,M] aH (ab (aa 4) (ab (e2 aC (aW 2 (aa 0)) (aa 3)) (ab (eN j4 (ab (e2 aC (aW 3 (aa 0)) (aa 3)) af)) af)))) [oc (FW S M),Q0 (n:Int),Q2 ([c]),Q0 (old:Int),Q0 ((S.lg.getD n 0+1:Nat):Int),Y]=Z (.nx [oc (FW ⟨S.lg++[S.lg.getD n 0+1],S.lk++[S.lk.getD old Y],S.wy++[S.wy.getD old []]⟩ M),Q0 (n:Int),Q2 ([c]),Q0 (old:Int),Q0 ((S.lg.getD n 0+1:Nat):Int),Q0 (S.lg.length:Int)]):=by
   unfold iD;rw[J];rfl
  have E:=yP (S:=⟨S.lg++[S.lg.getD n 0+1],S.lk++[S.lk.getD old Y],S.wy++[S.wy.getD old []]⟩) (b:=M) (r:=[Q0 (n:Int),Q2 ([c]),Q0 (old:Int),Q0 ((S.lg.getD n 0+1:Nat):Int),Q0 (S.lg.length:Int)]) (i:=old) (v:=S.lg.length) (n:=.fr) (e:=aa 3) (ev:=aa 5) (by show old<(S.lk++[S.lk.getD old Y]).length;rw[Zo];omega) L L;have D:=u uL (by decide) (Q0 ((S.lg.getD n 0+1:Nat):Int));exact congrArg (λz:Option Out=>z.bind _) (sq s1 (sq h (sq (jO cd L) (sq F (sq E (sq D L))))))
def ED{S S':St}{r:Nat}(W:WF S)(X:S.lg.length<=100000)(y:h<S.lg.length)(A:97<=c/\c<=122)(e:hb S h c=Z (S',r)):WF S'/\r<S'.lg.length/\S.lg.length<=S'.lg.length/\S'.lg.length<=S.lg.length+2/\bE (II S) [.int (h:Int),.str [c]]=Z (II S',.int (r:Int)):=by
 have hw:h<S.wy.length:=by rw[W.wy];exact y
 unfold hb at e;unfold bE HG;rw[Zn ⟨rfl,rfl⟩];have cd:e2 mS (aa 2) (e2 aC (aW 3 (aa 0)) (aa 1)) [oc (FW S M),Q0 (h:Int),Q2 ([c]),Y,Y]=Z (.fr,.bl (gW (S.wy.getD h []) c).isSome):=FS (m:=.bo) (n:=.fr) (lS (m:=.bo) (n:=.fr) L L hw) L;split at e
 ·rename_i u;rw[u]at cd;obtain⟨s,q,t,C,F⟩:=xi W (Nat.le_succ_of_le X) y A e;refine⟨s,q,t,by omega,?_⟩;have j:=iO (mv:=[B,B]) (as:=ab (aa 1) (ab (aa 2) af)) (xs:=[(.fr,.int (h:Int)),(.fr,.str [c])]) (b:=M) (r:=[Q0 (h:Int),Q2 ([c]),Y,Y]) L L L F L;have s1:nZ (bz 0 [] 0 [B,B] av (ab (aa 1) (ab (aa 2) af))) [oc (FW S M),Q0 (h:Int),Q2 ([c]),Y,Y]=Z (.rt (.fr,.int (r:Int)) [oc (FW S' M),Q0 (h:Int),Q2 ([c]),Y,Y]):=by
   unfold nZ;rw[j];rfl
  exact congrArg (λz:Option Out=>z.bind _) (lA (Mj cd s1))
 ·rename_i u;have IZ:(gW (S.wy.getD h []) c).isSome=B:=by simpa using u
  rw[IZ]at cd;obtain⟨⟨a,o⟩,e1,E⟩:=Zz.mp e;have U:=W.more (l:=S.lg.getD h 0+1) (o:=Z 0) (w:=[]) (λm g=>by cases g;exact W.pos) (λd m g=>by cases g) YL (λp P=>nomatch P);have hlen:(S.lg++[S.lg.getD h 0+1]).length=S.lg.length+1:=by rw[Zo];rfl
  obtain⟨s,q,t,C⟩:=BI A 1000 _ a (Z h) o U (by show S.lg.length<(S.lg++[S.lg.getD h 0+1]).length;omega) (λm g=>by cases g;show h<(S.lg++[S.lg.getD h 0+1]).length;omega) e1;have Px:a.lg.length=S.lg.length+1:=by rw[q];exact hlen
  have nw:=xg S (S.lg.getD h 0+1) (Z 0) [] (by omega) (by rw[W.lk];omega) (by rw[W.wy];omega);have args:ab (e2 da (e2 aC (aW 1 (aa 0)) (aa 1)) (Q3 1)) (ab (Q3 0) (ab (pK 0 []) af)) [oc (FW S M),Q0 (h:Int),Q2 ([c]),Y,Y]=Z [(.fr,.int ((S.lg.getD h 0+1:Nat):Int)),(.fr,.int 0),(.fr,.dct 0 [])] :=
   xv (e2v (qo (m:=.bo) (n:=.fr) L L y) L L) (xv L (xv L L))
  have j:=iO (mv:=[B,B,M]) (b:=M) args L L nw L;have s1:iD 3 (bz 0 [] 0 [B,B,M] aH (ab (e2 da (e2 aC (aW 1 (aa 0)) (aa 1)) (Q3 1)) (ab (Q3 0) (ab (pK 0 []) af)))) [oc (FW S M),Q0 (h:Int),Q2 ([c]),Y,Y]=Z (.nx [oc (FW ⟨S.lg++[S.lg.getD h 0+1],S.lk++[Z 0],S.wy++[[]]⟩ M),Q0 (h:Int),Q2 ([c]),Q0 (S.lg.length:Int),Y]):=by
   unfold iD;rw[j];rfl
  have O:=C uL (by decide) (Q0 (h:Int));have hd:∀b:Sx,aj (G8 (e2 mS (aa 2) (e2 aC (aW 3 (aa 0)) (aa 1))) (nZ (bz 0 [] 0 [B,B] av (ab (aa 1) (ab (aa 2) af)))) eD)
    (aj (iD 3 (bz 0 [] 0 [B,B,M] aH (ab (e2 da (e2 aC (aW 1 (aa 0)) (aa 1)) (Q3 1)) (ab (Q3 0) (ab (pK 0 []) af)))))
    (aj (aI 4 (aa 1)) (aj (ko (iC (fG (aa 4)) (e2 cA (aa 2) (e2 aC (aW 3 (aa 0)) (aa 4)))) bI) b))) [oc (FW S M),Q0 (h:Int),Q2 ([c]),Y,Y] =
    b [oc (FW a M),Q0 (h:Int),Q2 ([c]),Q0 (S.lg.length:Int),pc (Gp o)]:=λb =>
   sq (jO cd L) (sq s1 (sq L (bB O)))
  cases o with
  |none =>
   obtain⟨rfl,rfl⟩:=Wp (Zk E);have fin:aj (G8 (fG (aa 4)) (je 0 [.fld 2] (aa 3) (bz 0 [] 0 [B,B] av (ab (aa 4) (ab (aa 2) af)))) eD) (ip 3) [oc (FW a M),Q0 (h:Int),Q2 ([c]),Q0 (S.lg.length:Int),pc (Gp Y)] =
     Z (.rt (.fr,.int (S.lg.length:Int)) [oc (FW a M),Q0 (h:Int),Q2 ([c]),Q0 (S.lg.length:Int),pc (Gp Y)]):=sq (jO (m:=.fr) L L) L
   refine⟨s,by show S.lg.length<a.lg.length;omega,by show S.lg.length<=a.lg.length;omega,by show a.lg.length<=_;omega,?_⟩;exact congrArg (λz:Option Out=>z.bind _) ((hd _).trans fin)
  |some n =>
   obtain⟨⟨f,m⟩,e3,R⟩:=Zs.mp E;obtain⟨rfl,rfl⟩:=Wp R;have Q:n<a.lg.length:=by
    have:=t n L;rw[q];exact this
   obtain⟨D,J,v3,v4,H⟩:=xi s (by show a.lg.length<=100001;omega) Q A e3;have G:=D.link (n:=S.lg.length) (v:=m) J;have j:=iO (mv:=[B,B]) (as:=ab (aa 4) (ab (aa 2) af)) (xs:=[(.fr,.int (n:Int)),(.fr,.str [c])]) (b:=M) (r:=[Q0 (h:Int),Q2 ([c]),Q0 (S.lg.length:Int),Q0 (n:Int)]) L L L H L;have pl:=yP (S:=f) (b:=M) (r:=[Q0 (h:Int),Q2 ([c]),Q0 (S.lg.length:Int),Q0 (n:Int)]) (i:=S.lg.length) (v:=m) (n:=.fr) (e:=aa 3) (ev:=λ_=>Z (.fr,.int (m:Int))) (by rw[D.lk];omega) L L;have N:je 0 [.fld 2] (aa 3) (bz 0 [] 0 [B,B] av (ab (aa 4) (ab (aa 2) af))) [oc (FW a M),Q0 (h:Int),Q2 ([c]),Q0 (S.lg.length:Int),Q0 (n:Int)]=Z (.nx [oc (FW ⟨f.lg,f.lk.set S.lg.length (Z m),f.wy⟩ M),Q0 (h:Int),Q2 ([c]),Q0 (S.lg.length:Int),Q0 (n:Int)]):=by
    unfold je;rw[j];exact pl
   have fin:aj (G8 (fG (aa 4)) (je 0 [.fld 2] (aa 3) (bz 0 [] 0 [B,B] av (ab (aa 4) (ab (aa 2) af)))) eD) (ip 3) [oc (FW a M),Q0 (h:Int),Q2 ([c]),Q0 (S.lg.length:Int),Q0 (n:Int)] =
     Z (.rt (.fr,.int (S.lg.length:Int)) [oc (FW ⟨f.lg,f.lk.set S.lg.length (Z m),f.wy⟩ M),Q0 (h:Int),Q2 ([c]),Q0 (S.lg.length:Int),Q0 (n:Int)]):=sq (Mj (m:=.fr) L N) L
   refine⟨G,by show S.lg.length<f.lg.length;omega,by show S.lg.length<=f.lg.length;omega,by show f.lg.length<=_;omega,?_⟩;exact congrArg (λz:Option Out=>z.bind _) ((hd _).trans fin)
theorem wX{S S':St}:∀{word:Vv}{h r:Nat},WF S->S.lg.length+2*word.length<=100000->h<S.lg.length->(∀c∈word,97<=c/\c<=122)->hg S h word=Z (S',r) →
  WF S'/\r<S'.lg.length/\S'.lg.length<=S.lg.length+2*word.length/\∀f:Vr,∀a:T,∃j,forL (bh 3) bS (word.map λc=>T.str [c]) [oc (FW S M),Q0 (h:Int),pc a,f]=Z (.nx [oc (FW S' M),Q0 (r:Int),pc a,j])
 |[],h,r,W,l,g,i,e=>by
  obtain⟨rfl,rfl⟩:=Wp (Zk e);exact⟨W,g,by simp,λf a=>⟨f,rfl⟩⟩
 |c :: word,h,r,W,l,g,i,e=>by
  obtain⟨⟨v,C⟩,e1,w⟩:=Zz.mp e;rw[ZX]at l;obtain⟨o,n,z,y,m⟩:=ED W (by omega) g (i c Zu) e1;obtain⟨t,s,A,p⟩:=wX (S:=v) (S':=S') (word:=word) o (by omega) n (λd hd=>i d (Zt _ hd)) w;refine⟨t,s,by rw[ZX];omega,λf a=>?_⟩;obtain⟨j,q⟩:=p (Q2 ([c])) a;refine⟨j,?_⟩;rw[Zi];refine(g6 (U1:=[oc (FW S M),Q0 (h:Int),pc a,Q2 ([c])]) L ?_).trans q;have u:=iO (mv:=[B,B]) (as:=ab (aa 1) (ab (aa 3) af)) (xs:=[(.fr,.int (h:Int)),(.fr,.str [c])]) (b:=M) (r:=[Q0 (h:Int),pc a,Q2 ([c])]) L L L m L;unfold bS iD;rw[u];rfl
def Bw{S S':St}{a:Tx}{r:Nat}(W:WF S)(i:S.lg.length+2*a.length<=100000)(j:h<S.lg.length)(n:∀c∈a,97<=c/\c<=122)(e:hg S h a=Z (S',r)) :
  WF S'/\r<S'.lg.length/\S'.lg.length<=S.lg.length+2*a.length/\aR (II S) [.int (h:Int),.str a]=Z (II S',.int (r:Int)):=by
 obtain⟨g,f,d,b⟩:=wX W i j n e;obtain⟨o,q⟩:=b Y (.str a);refine⟨g,f,d,?_⟩;unfold aR HG;rw[Zn ⟨rfl,rfl⟩];have s1:=(gb (tg:=bh 3) (it:=dJ (aa 2)) (body:=bS) (U:=[oc (FW S M),Q0 (h:Int),Q2 a,Y]) (m:=.fr) (l:=a.map λc=>T.str [c]) L L).trans q;exact congrArg (λz:Option Out=>z.bind _) (sq s1 L)
end T12
end
section
namespace AU
noncomputable abbrev Wd:=Vv
noncomputable abbrev W(a:List Wd)(n:Nat):Wd:=a.getD n []
structure I(fr:Option Nat)(S:St)(nd:Wd->Option Nat)(wd:List Wd):Prop where
 wf:WF S
 len:wd.length=S.lg.length
 lg:∀n,n<wd.length->S.lg.getD n 0=(W wd n).length
 z:nd []=some 0
 wz:W wd 0=[]
 lt:∀{x n},nd x=some n->n<wd.length
 sf:∀{x n},nd x=some n->x <:+ W wd n
 top:∀{n},n<wd.length->nd (W wd n)=some n
 iv:∀{x y n},nd x=some n->x <:+ y->y <:+ W wd n->nd y=some n
 pre:∀{x c n},nd (x++[c])=some n->∃m,nd x=some m
 IS:∀{x y n},nd y=some n->x <:+ y->∃m,nd x=some m
 LB:S.lk.getD 0 none=none
 lk:∀{n},0<n->n<wd.length->some n≠fr->∃m,S.lk.getD n none=some m/\(m<wd.length/\some m≠fr)/\W wd m <:+ W wd n/\(W wd m).length<(W wd n).length/\∀y,y <:+ W wd n->(W wd m).length<y.length->nd y=some n
 wy:∀{x n},nd x=some n->∀c,gW (S.wy.getD n []) c=nd (x++[c])
def cw{α:Type}{x y w:List α}(d:x <:+ w)(b:y <:+ w)(a:x.length<=y.length):x <:+ y:=List.suffix_of_suffix_length_le d b a
section
def I.up(H:I fr S nd wd):∀(k n:Nat)(x:Wd),(W wd n).length<=k->n<wd.length->Z n≠fr->x <:+ W wd n->∃m,nd x=Z m/\W wd m <:+ W wd n:=by
 intro k
 induction k with
 |zero =>
  intro n x f b g a;have e:W wd n=[]:=XH.mp (Nat.le_zero.mp f);rw[e]at a;have:x=[]:=Xi.mp a;subst this;exact⟨0,H.z,by rw[H.wz];exact Wx⟩
 |succ k o =>
  intro n x f b g a;by_cases i:n=0
  ·subst i;rw[H.wz]at a;have:x=[]:=Xi.mp a;subst this;exact⟨0,H.z,Yi _⟩
  ·obtain⟨m,u,⟨r,s⟩,h,t,p⟩:=H.lk (YM i) b g;by_cases d:(W wd m).length<x.length
   ·exact⟨n,p x a d,Yi _⟩
   ·obtain⟨q,l,j⟩:=o m x (by lia) r s (cw a h (by exact ZL d));exact⟨q,l,j.trans h⟩
def I.ON(H:I fr S nd wd)(b:n<wd.length)(d:Z n≠fr)(a:x <:+ W wd n):∃m,nd x=Z m/\W wd m <:+ W wd n:=H.up _ n x (Zl _) b d a
def I.all(H:I fr S nd wd)(e:q<wd.length)(f:Z q≠fr)(d:nd x=Z n)(b:nd y=Z n)(h:x <:+ W wd q):y <:+ W wd q:=by
 obtain⟨m,a,g⟩:=H.ON e f h;rw[d]at a;cases a;exact(H.sf b).trans g
def I.inj(H:I fr S nd wd){m n:Nat}(b:m<wd.length)(a:n<wd.length)(h:W wd m=W wd n):m=n:=by
 have:=H.top b;rw[h,H.top a]at this;exact(Zk this).symm
def I.way(H:I fr S nd wd){n c:Nat}(b:n<wd.length)(h:gW (S.wy.getD n []) c=Z a):nd (W wd n++[c])=Z a:=by
 rw[← H.wy (H.top b) c];exact h
def I.zero(H:I fr S nd wd)(h:nd x=Z 0):x=[]:=by
 have:=H.sf h;rw[H.wz]at this;exact Xi.mp this
def I.low(H:I fr S nd wd)(h:Z n≠fr)(a:S.lk.getD n Y=Z m)(b:nd y=Z n):(W wd m).length<y.length/\m<wd.length/\W wd m <:+ W wd n/\Z m≠fr:=by
 have g:=H.lt b;by_cases f:n=0
 ·subst f;rw[H.LB]at a;cases a
 ·obtain⟨o,j,⟨e,l⟩,d,i,p⟩:=H.lk (YM f) g h;rw[j]at a;cases a;refine⟨Nat.lt_of_not_le λhle=>?_,e,d,l⟩;have:=H.iv b (cw (H.sf b) d hle) d;rw[H.top e]at this;cases this;exact Yj _ i
def I.below(H:I fr S nd wd)(e:n<wd.length)(g:Z n≠fr)(a:S.lk.getD n Y=Z q)(f:m<wd.length)(b:W wd m <:+ W wd n)(l:m≠n):W wd m <:+ W wd q:=by
 by_cases d:n=0
 ·subst d;rw[H.LB]at a;cases a
 ·obtain⟨p,j,⟨s,_⟩,i,r,h⟩:=H.lk (YM d) e g;rw[j]at a;cases a;refine cw b i (ZL λo=>l ?_);have:=h _ b o;rw[H.top f]at this;exact Zk this
def I.root(H:I fr S nd wd)(b:n<wd.length)(g:Z n≠fr)(d:S.lk.getD n Y=Y)(f:m<wd.length)(a:W wd m <:+ W wd n):m=n:=by
 have i:n=0:=Nat.eq_zero_of_not_pos λe=>by
  obtain⟨q,h,_⟩:=H.lk e b g;rw[h]at d;cases d
 subst i;rw[H.wz]at a;exact H.inj f b (by rw[H.wz,Xi.mp a])
def fF(a:List (List (Nat×Nat)))(n m c v d:Nat)(b:n<a.length):gW ((a.set n (pW (a.getD n []) c v)).getD m []) d=if m=n/\d=c then Z v else gW (a.getD m []) d:=by
 rw[gE];by_cases h:n=m
 ·subst h;rw[Zn ⟨rfl,b⟩,Bu];by_cases hd:d=c
  ·rw[Zn hd,Zn ⟨rfl,hd⟩]
  ·rw[Zm hd,Zm (λz=>hd z.2)]
 ·rw[Zm (λz=>h z.1),Zm (λz=>h z.1.symm)]
def I.MO(H:I fr S nd wd){c old v:Nat}:∀(k:Nat)(T:St)(n:Nat),n<wd.length->Z n≠fr->(W wd n).length<k->(∀m,m<wd.length->W wd m <:+ W wd n->T.lk.getD m Y=S.lk.getD m Y)->wd.length<=T.wy.length →
  (∀m b,m<wd.length->b<wd.length->W wd m <:+ W wd b->W wd b <:+ W wd n->gW (T.wy.getD m []) c=Z old->gW (T.wy.getD b []) c=Z old) →
  ∃j,Lr c old v k T (Z n)=Z ⟨T.lg,T.lk,j⟩/\j.length=T.wy.length/\∀m d,gW (j.getD m []) d=if d=c/\m<wd.length/\W wd m <:+ W wd n/\gW (T.wy.getD m []) c=Z old then Z v else gW (T.wy.getD m []) d:=by
 intro k
 induction k with
 |zero=>intro T n _ _ h;lia
 |succ k D =>
  intro T n f s G y hw mono;have l:n<T.wy.length:=ZR f hw;unfold Lr;by_cases i:gW (T.wy.getD n []) c=Z old
  ·rw[Zn i,y n f (Yi _)];cases r:S.lk.getD n Y with
   |none =>
    refine⟨T.wy.set n (pW (T.wy.getD n []) c v),by cases k<;>rfl,Yn,λm d=>?_⟩;rw[fF _ _ _ _ _ _ l];by_cases a:m=n/\d=c
    ·rw[Zn a,Zn ⟨a.2,by rw[a.1];exact f,by rw[a.1];exact Yi _,by rw[a.1];exact i⟩]
    ·rw[Zm a,Zm λz=>a ⟨H.root f s r z.2.1 z.2.2.1,z.1⟩]
   |some q =>
    obtain⟨F,C,p,A⟩:=H.low s r (H.top f);have ne:∀m,W wd m <:+ W wd q->m≠n:=λm a e=>by
     rw[e]at a;have:=a.length_le;lia
    obtain⟨j,e1,e2,e3⟩:=D ⟨T.lg,T.lk,T.wy.set n (pW (T.wy.getD n []) c v)⟩ q C A (by lia) (λm a o=>y m a (o.trans p)) (by show _<=(T.wy.set _ _).length;rw[Yn];exact hw) (λm b a E o t h=>by
     have u:gW ((T.wy.set n (pW (T.wy.getD n []) c v)).getD m []) c=Z old:=h;show gW ((T.wy.set n (pW (T.wy.getD n []) c v)).getD b []) c=Z old;rw[fF _ _ _ _ _ _ l,Zm (λz=>ne m (o.trans t) z.1)]at u;rw[fF _ _ _ _ _ _ l,Zm (λz=>ne b t z.1)];exact mono m b a E o (t.trans p) u)
    refine⟨j,e1,by rw[e2];exact Yn,λm d=>?_⟩;rw[e3 m d];show (if d=c/\m<wd.length/\W wd m <:+ W wd q/\gW ((T.wy.set n (pW (T.wy.getD n []) c v)).getD m []) c=Z old then Z v else gW ((T.wy.set n (pW (T.wy.getD n []) c v)).getD m []) d)=_;by_cases a:m=n
    ·subst a;rw[Zm (λz=>ne m z.2.2.1 L),fF _ _ _ _ _ _ l];by_cases hd:d=c
     ·rw[Zn ⟨rfl,hd⟩,Zn ⟨hd,f,Yi _,i⟩]
     ·rw[Zm (λz=>hd z.2),Zm (λz=>hd z.1)]
    ·have w:∀d,gW ((T.wy.set n (pW (T.wy.getD n []) c v)).getD m []) d=gW (T.wy.getD m []) d:=λd=>by rw[fF _ _ _ _ _ _ l,Zm (λz=>a z.1)]
     rw[w,w];by_cases g:d=c/\m<wd.length/\W wd m <:+ W wd n/\gW (T.wy.getD m []) c=Z old
     ·rw[Zn g,Zn ⟨g.1,g.2.1,H.below f s r g.2.1 g.2.2.1 a,g.2.2.2⟩]
     ·rw[Zm g,Zm λz=>g ⟨z.1,z.2.1,z.2.2.1.trans p,z.2.2.2⟩]
  ·rw[Zm i];refine⟨T.wy,rfl,rfl,λm d=>?_⟩;rw[Zm λz=>i (mono m n z.2.1 f z.2.2.1 (Yi _) z.2.2.2)]
def I.MP(H:I fr S nd wd){c v:Nat}:∀(k:Nat)(T:St)(n:Nat),n<wd.length->Z n≠fr->(W wd n).length<k->(∀m,m<wd.length->W wd m <:+ W wd n->T.lk.getD m Y=S.lk.getD m Y)->wd.length<=T.wy.length →
  (∀m g,m<wd.length->g<wd.length->W wd m <:+ W wd g->W wd g <:+ W wd n->(gW (T.wy.getD g []) c).isSome->(gW (T.wy.getD m []) c).isSome) →
  ∃w s,up1 c v k T (Z n)=Z (⟨T.lg,T.lk,w⟩,s)/\w.length=T.wy.length/\(∀m d,gW (w.getD m []) d=if d=c/\m<wd.length/\W wd m <:+ W wd n/\gW (T.wy.getD m []) c=Y then Z v else gW (T.wy.getD m []) d) ∧
   (s=Y->∀m,m<wd.length->W wd m <:+ W wd n->gW (T.wy.getD m []) c=Y) ∧
   ∀p,s=Z p->p<wd.length/\W wd p <:+ W wd n/\(gW (T.wy.getD p []) c).isSome/\∀m,m<wd.length->W wd m <:+ W wd n->(W wd p).length<(W wd m).length->gW (T.wy.getD m []) c=Y:=by
 intro k
 induction k with
 |zero=>intro T n _ _ h;lia
 |succ k U =>
  intro T n f o hk J hw mono;have r:n<T.wy.length:=ZR f hw;unfold up1;by_cases l:(gW (T.wy.getD n []) c).isSome=M
  ·rw[Zn l];refine⟨T.wy,Z n,rfl,rfl,λm d=>?_,(λh=>nomatch h),λp t=>?_⟩
   ·rw[Zm λz=>?_];have:=mono m n z.2.1 f z.2.2.1 (Yi _) l;rw[z.2.2.2]at this;cases this
   ·cases t;refine⟨f,Yi _,l,λm a b j=>?_⟩;have:=b.length_le;lia
  ·have y:gW (T.wy.getD n []) c=Y:=by
    cases h:gW (T.wy.getD n []) c with
    |none=>rfl
    |some x=>rw[h]at l;exact absurd L l
   rw[Zm l,J n f (Yi _)];cases j:S.lk.getD n Y with
   |none =>
    refine⟨T.wy.set n (pW (T.wy.getD n []) c v),Y,by cases k<;>rfl,Yn,λm d=>?_,λ_ m a b=>?_,(λp t=>nomatch t)⟩
    ·rw[fF _ _ _ _ _ _ r];by_cases a:m=n/\d=c
     ·rw[Zn a,Zn ⟨a.2,by rw[a.1];exact f,by rw[a.1];exact Yi _,by rw[a.1];exact y⟩]
     ·rw[Zm a,Zm λz=>a ⟨H.root f o j z.2.1 z.2.2.1,z.1⟩]
    ·rw[H.root f o j a b];exact y
   |some q =>
    obtain⟨l1,R,A,Q⟩:=H.low o j (H.top f);have ne:∀m,W wd m <:+ W wd q->m≠n:=λm a e=>by
     rw[e]at a;have:=a.length_le;lia
    obtain⟨w,s,e1,e2,e3,e4,e5⟩:=U ⟨T.lg,T.lk,T.wy.set n (pW (T.wy.getD n []) c v)⟩ q R Q (by lia) (λm a b=>J m a (b.trans A)) (by show _<=(T.wy.set _ _).length;rw[Yn];exact hw) (λm g a Hu b C h=>by
     have E:(gW ((T.wy.set n (pW (T.wy.getD n []) c v)).getD g []) c).isSome:=h;show (gW ((T.wy.set n (pW (T.wy.getD n []) c v)).getD m []) c).isSome;rw[fF _ _ _ _ _ _ r,Zm (λz=>ne g C z.1)]at E;rw[fF _ _ _ _ _ _ r,Zm (λz=>ne m (b.trans C) z.1)];exact mono m g a Hu b (C.trans A) E)
    have old:∀m,W wd m <:+ W wd q->gW ((T.wy.set n (pW (T.wy.getD n []) c v)).getD m []) c=gW (T.wy.getD m []) c:=λm a=>by rw[fF _ _ _ _ _ _ r,Zm (λz=>ne m a z.1)]
    refine⟨w,s,e1,by rw[e2];exact Yn,λm d=>?_,λX m a b=>?_,λp t=>?_⟩
    ·rw[e3 m d];show (if d=c/\m<wd.length/\W wd m <:+ W wd q/\gW ((T.wy.set n (pW (T.wy.getD n []) c v)).getD m []) c=Y then Z v else gW ((T.wy.set n (pW (T.wy.getD n []) c v)).getD m []) d)=_;by_cases a:m=n
     ·subst a;rw[Zm (λz=>ne m z.2.2.1 L),fF _ _ _ _ _ _ r];by_cases hd:d=c
      ·rw[Zn ⟨rfl,hd⟩,Zn ⟨hd,f,Yi _,y⟩]
      ·rw[Zm (λz=>hd z.2),Zm (λz=>hd z.1)]
     ·have F:∀d,gW ((T.wy.set n (pW (T.wy.getD n []) c v)).getD m []) d=gW (T.wy.getD m []) d:=λd=>by rw[fF _ _ _ _ _ _ r,Zm (λz=>a z.1)]
      rw[F,F];by_cases i:d=c/\m<wd.length/\W wd m <:+ W wd n/\gW (T.wy.getD m []) c=Y
      ·rw[Zn i,Zn ⟨i.1,i.2.1,H.below f o j i.2.1 i.2.2.1 a,i.2.2.2⟩]
      ·rw[Zm i,Zm λz=>i ⟨z.1,z.2.1,z.2.2.1.trans A,z.2.2.2⟩]
    ·by_cases u:m=n
     ·rw[u];exact y
     ·have hb:=H.below f o j a b u;rw[← old m hb];exact e4 X m a hb
    ·obtain⟨P,D,O,N⟩:=e5 p t;have G:(gW ((T.wy.set n (pW (T.wy.getD n []) c v)).getD p []) c).isSome:=O;rw[old p D]at G;refine⟨P,D.trans A,G,λm a b G0=>?_⟩;by_cases u:m=n
     ·rw[u];exact y
     ·have hb:=H.below f o j a b u;rw[← old m hb];exact N m a hb G0
end
def B8(g:97<=c/\c<=122):∀(k:Nat)(S a:St)(o:Option Nat),WF S->v<S.lg.length->Lr c b v k S o=Z a->WF a:=by
 intro k
 induction k with
 |zero =>
  intro S a o H d e;cases o with
  |none=>cases (show Z S=Z a from e);exact H
  |some n=>cases e
 |succ k f =>
  intro S a o H d e;cases o with
  |none=>cases (show Z S=Z a from e);exact H
  |some n =>
   unfold Lr at e;split at e
   ·exact f ⟨S.lg,S.lk,S.wy.set n (pW (S.wy.getD n []) c v)⟩ a _ (H.way (n:=n) d g) d e
   ·cases e;exact H
def Cc(g:97<=c/\c<=122):∀(k:Nat)(S a:St)(o b:Option Nat),WF S->v<S.lg.length->up1 c v k S o=Z (a,b)->WF a:=by
 intro k
 induction k with
 |zero =>
  intro S a o b H d e;cases o with
  |none=>cases (show Z (S,Y)=Z (a,b) from e);exact H
  |some n=>cases e
 |succ k f =>
  intro S a o b H d e;cases o with
  |none=>cases (show Z (S,Y)=Z (a,b) from e);exact H
  |some n =>
   unfold up1 at e;split at e
   ·cases e;exact H
   ·exact f ⟨S.lg,S.lk,S.wy.set n (pW (S.wy.getD n []) c v)⟩ a _ b (H.way (n:=n) d g) d e
def iH{α:Type}{x y:List α}{a b:α}(h:x++[a] <:+ y++[b]):a=b/\x <:+ y:=by
 obtain⟨t,e⟩:=h;rw[← Z4]at e;obtain⟨e1,e2⟩:=List.append_inj' e L;exact⟨by simpa using e2,⟨t,e1⟩⟩
def gC{α:Type}{x y:List α}(a:α)(h:x <:+ y):x++[a] <:+ y++[a]:=by
 obtain⟨t,e⟩:=h;exact⟨t,by rw[← e,Z4]⟩
noncomputable def hU(b:Wd->Option Nat)(a l h:Nat)(x:Wd):Option Nat:=if b x=Z a/\x.length<=l then Z h else b x
theorem I.split(H:I O S j a)(J:n<a.length)(hf:Z n≠O)(hc:97<=c/\c<=122)(ho:gW (S.wy.getD n []) c=Z old)(Mq:Z old≠O)(LP:O≠Z a.length)(HI:S.lg.getD old 0≠S.lg.getD n 0+1)(hk:(W a n).length<1000) :
  ∃S',K8 S n c=Z (S',S.lg.length)/\I O S' (hU j old ((W a n).length+1) a.length) (a++[W a n++[c]]):=by
 have N:S.lg.length=a.length:=H.len.symm;have hw:=H.way J ho;have hold:=H.lt hw;have u:=H.sf hw;have lw:(W a n++[c]).length=(W a n).length+1:=by rw[Zo];rfl
 rw[H.lg old hold,H.lg n J]at HI;have G0:(W a n).length+1<(W a old).length:=by
  have:=u.length_le;rw[lw]at this;lia
 have U:old≠0:=λe=>by
  rw[e,H.wz]at G0;simp at G0
 have N6:0<a.length:=by rw[H.len];exact H.wf.pos
 have l1:S.lk.length=a.length:=by rw[H.wf.lk,N]
 have l2:S.wy.length=a.length:=by rw[H.wf.wy,N]
 have LC:∀m,((S.lk++[S.lk.getD old Y]).set old (Z S.lg.length)).getD m Y=if m=old then Z a.length else if m=a.length then S.lk.getD old Y else S.lk.getD m Y:=λm=>by
  rw[gE,bM,l1,N];by_cases h:m=old
  ·rw[Zn ⟨h.symm,by rw[Zo,l1];lia⟩,Zn h]
  ·rw[Zm (λz=>h z.1.symm),Zm h]
 have Iy:∀m,(S.wy++[S.wy.getD old []]).getD m []=if m=a.length then S.wy.getD old [] else S.wy.getD m []:=λm=>by rw[bM,l2]
 have JU:∀m,m<a.length->(S.wy++[S.wy.getD old []]).getD m []=S.wy.getD m []:=λm b=>by rw[Iy,Zm (Zg b)]
 obtain⟨w2,e1,e2,e3⟩:=H.MO (c:=c) (old:=old) (v:=S.lg.length) 1000 ⟨S.lg++[S.lg.getD n 0+1],(S.lk++[S.lk.getD old Y]).set old (Z S.lg.length),S.wy++[S.wy.getD old []]⟩ n J hf hk (λm b X=>by
   have:=X.length_le;show ((S.lk++[S.lk.getD old Y]).set old (Z S.lg.length)).getD m Y=_;rw[LC,Zm (λe=>by rw[e]at this;lia),Zm (Zg b)])
  (by show _<=(S.wy++[S.wy.getD old []]).length;rw[Zo,l2];exact YS _ _)
  (λm t b E X Iv h=>by
   have D:gW ((S.wy++[S.wy.getD old []]).getD m []) c=Z old:=h;show gW ((S.wy++[S.wy.getD old []]).getD t []) c=Z old;rw[JU m b]at D;rw[JU t E,H.wy (H.top E) c];rw[H.wy (H.top b) c]at D;exact H.iv D (gC c X) ((gC c Iv).trans u))
 have wn:=H.wf.Lq old;have W1:=H.wf.more (l:=S.lg.getD n 0+1) (o:=S.lk.getD old Y) (w:=S.wy.getD old []) (λm b=>H.wf.up old m b) (λd m b=>H.wf.on old d m b) wn.1 wn.2;have hlen:(S.lg++[S.lg.getD n 0+1]).length=S.lg.length+1:=by rw[Zo];rfl
 have W2:=W1.link (n:=old) (v:=S.lg.length) (by show S.lg.length<(S.lg++[S.lg.getD n 0+1]).length;lia);have Pu:=B8 hc 1000 _ _ _ W2 (by show S.lg.length<(S.lg++[S.lg.getD n 0+1]).length;lia) e1;refine⟨⟨S.lg++[S.lg.getD n 0+1],(S.lk++[S.lk.getD old Y]).set old (Z S.lg.length),w2⟩,?_,?_⟩
 ·unfold K8;rw[ho,Zp,Zm (by rw[H.lg old hold,H.lg n J];exact HI),e1];rfl
 have Wn:∀m,W (a++[W a n++[c]]) m=if m=a.length then W a n++[c] else W a m:=λm=>bM a _ _ m
 have s:W (a++[W a n++[c]]) a.length=W a n++[c]:=by rw[Wn,Zn L]
 have f:∀{m},m<a.length->W (a++[W a n++[c]]) m=W a m:=λ{m} b=>by rw[Wn,Zm (Zg b)]
 have eX:(a++[W a n++[c]]).length=a.length+1:=by rw[Zo];rfl
 have tell:∀{x m},hU j old ((W a n).length+1) a.length x=Z m->(m=a.length/\j x=Z old/\x.length<=(W a n).length+1)\/(m<a.length/\j x=Z m/\¬(m=old/\x.length<=(W a n).length+1)):=λ{x m} h=>by
  unfold hU at h;split at h
  ·rename_i q;cases h;exact .inl ⟨rfl,q.1,q.2⟩
  ·rename_i q;exact .inr ⟨H.lt h,h,λz=>q ⟨by rw[h,z.1],z.2⟩⟩
 have R:∀{x},j x=Z old->x.length<=(W a n).length+1->hU j old ((W a n).length+1) a.length x=Z a.length:=λ{x} C h2=>Zn ⟨C,h2⟩;have tO:∀{x m},j x=Z m->¬(m=old/\x.length<=(W a n).length+1)->hU j old ((W a n).length+1) a.length x=Z m:=λ{x m} C h2=>by
  unfold hU;rw[Zm (λz=>h2 ⟨by rw[C]at z;exact Zk z.1,z.2⟩),C]
 have Lw:∀{x m},j x=Z m->∃t,hU j old ((W a n).length+1) a.length x=Z t:=λ{x m} h=>by
  unfold hU;split
  ·exact⟨_,rfl⟩
  ·exact⟨m,h⟩
 have un:∀{x m},hU j old ((W a n).length+1) a.length x=Z m->∃t,j x=Z t:=λ{x m} h=>(tell h).elim (λz=>⟨_,z.2.1⟩) λz=>⟨_,z.2.1⟩
 refine⟨Pu,by rw[eX,hlen,N],λm b=>?_,tO H.z (λz=>U z.1.symm),by rw[f N6];exact H.wz,λ{x m} h=>by rcases tell h with z | z<;>lia,λ{x m} h=>?_,λ{m} b=>?_,λ{x y m} h P g=>?_,λ{x d m} h=>?_,λ{x y m} h P=>?_,?_,λ{m} h0 b QJ=>?_,λ{x m} h d=>?_⟩
 ·rw[eX]at b;show (S.lg++[S.lg.getD n 0+1]).getD m 0=_;rw[bM,N];by_cases e:m=a.length
  ·rw[Zn e,e,s,H.lg n J,lw]
  ·rw[Zm e,f (by lia),H.lg m (by lia)]
 ·rcases tell h with⟨rfl,i,F⟩ | ⟨G,i,_⟩
  ·rw[s];exact cw (H.sf i) u (by rw[lw];exact F)
  ·rw[f G];exact H.sf i
 ·rw[eX]at b;by_cases e:m=a.length
  ·rw[e,s];exact R hw (by rw[lw];exact Zl _)
  ·rw[f (by lia)];exact tO (H.top (by lia)) (λz=>by have:=z.2;rw[z.1]at this;lia)
 ·rcases tell h with⟨rfl,i,F⟩ | ⟨G,i,F⟩
  ·rw[s]at g;have:=g.length_le;rw[lw]at this;exact R (H.iv i P (g.trans u)) this
  ·rw[f G]at g;exact tO (H.iv i P g) (λz=>F ⟨z.1,Z2 P.length_le z.2⟩)
 ·obtain⟨t,D⟩:=un h;obtain⟨q,p⟩:=H.pre D;exact Lw p
 ·obtain⟨t,D⟩:=un h;obtain⟨q,p⟩:=H.IS D P;exact Lw p
 ·show ((S.lk++[S.lk.getD old Y]).set old (Z S.lg.length)).getD 0 Y=Y;rw[LC,Zm (YR U),Zm (by exact Zg N6)];exact H.LB
 ·rw[eX]at b;show ∃q,((S.lk++[S.lk.getD old Y]).set old (Z S.lg.length)).getD m Y=Z q/\_;rw[LC,eX];obtain⟨q,q1,⟨Q,Uv⟩,q3,q4,q5⟩:=H.lk (YM U) hold Mq;obtain⟨lo,_⟩:=H.low Mq q1 hw;rw[lw]at lo;by_cases e:m=old
  ·subst e;rw[Zn L];refine⟨a.length,rfl,⟨by exact Yz _,λz=>LP z.symm⟩,?_,?_,λy g A=>?_⟩
   ·rw[s,f hold];exact u
   ·rw[s,f hold,lw];exact G0
   ·rw[s,lw]at A;rw[f hold]at g;exact tO (H.iv hw (cw u g (by rw[lw];exact XD A)) g) (λz=>by have:=z.2;lia)
  ·rw[Zm e];by_cases eL:m=a.length
   ·subst eL;rw[Zn L,q1];refine⟨q,rfl,⟨by exact YY Q,Uv⟩,?_,?_,λy g A=>?_⟩
    ·rw[s,f Q];exact cw q3 u (by rw[lw];exact XD lo)
    ·rw[s,f Q,lw];exact lo
    ·rw[s]at g;rw[f Q]at A;have:=g.length_le;rw[lw]at this;exact R (q5 y (g.trans u) A) this
   ·rw[Zm eL];have E:m<a.length:=by lia
    obtain⟨r,r1,⟨r2,Uu⟩,r3,r4,r5⟩:=H.lk h0 E QJ;rw[r1];refine⟨r,rfl,⟨by exact YY r2,Uu⟩,by rw[f r2,f E];exact r3,by rw[f r2,f E];exact r4,λy g A=>?_⟩;rw[f E]at g;rw[f r2]at A;exact tO (r5 y g A) (λz=>e z.1)
 ·show gW (w2.getD m []) d=_;rw[e3 m d];show (if d=c/\m<a.length/\W a m <:+ W a n/\gW ((S.wy++[S.wy.getD old []]).getD m []) c=Z old then Z S.lg.length else gW ((S.wy++[S.wy.getD old []]).getD m []) d)=_;rcases tell h with⟨rfl,i,F⟩ | ⟨G,i,F⟩
  ·rw[Zm (λz=>Yj _ z.2.1),Iy,Zn L,H.wy i d];unfold hU;rw[Zm];intro z;have C:=z.1;rw[← H.wy i d,H.wy (H.top hold) d]at C;have:=(H.sf C).length_le;rw[Zo,Z7]at this;lia
  ·rw[JU m G,H.wy i c,H.wy i d];unfold hU;by_cases p:j (x++[d])=Z old/\(x++[d]).length<=(W a n).length+1
   ·have Kl:=cw (H.sf p.1) u (by rw[lw];exact p.2);obtain⟨rfl,hx⟩:=iH Kl;obtain⟨t,m1,m2⟩:=H.ON J hf hx;rw[i]at m1;cases m1;rw[Zn ⟨rfl,G,m2,p.1⟩,Zn p,N]
   ·rw[Zm p,Zm];rintro⟨rfl,_,a3,a4⟩;refine p ⟨a4,?_⟩;have b1:=(H.sf i).length_le;have b2:=a3.length_le;rw[Zo,Z7];lia
end AU
end
section
namespace AU
open Classical in
noncomputable def g7(a:Wd->Option Nat)(w:Wd)(f:Nat)(x:Wd):Option Nat:=match a x with
 |some m=>Z m
 |none=>if x <:+ w then Z f else Y
def df(h:a x=Z m):g7 a w f x=Z m:=by
 unfold g7;rw[h]
def fK(h:a x=Y)(b:x <:+ w):g7 a w f x=Z f:=by
 unfold g7;rw[h];exact Zn b
def cu(h:g7 a w f x=Z m):a x=Z m\/(m=f/\a x=Y/\x <:+ w):=by
 unfold g7 at h;split at h
 ·rename_i q e;cases h;exact .inl e
 ·rename_i e;split at h
  ·rename_i b;cases h;exact .inr ⟨rfl,e,b⟩
  ·cases h
def wV{α:Type}{y t:List α}{c:α}(h:y <:+ t++[c])(d:y≠[]):∃a,y=a++[c]/\a <:+ t:=by
 rcases List.eq_nil_or_concat y with e | ⟨a,b,e⟩
 ·exact absurd e d
 ·rw[List.concat_eq_append]at e;subst e;obtain⟨e1,e2⟩:=iH h;exact⟨a,by rw[e1],e2⟩
section
def I.fresh(H:I Y S nd wd)(t:h<wd.length)(hc:97<=c/\c<=122)(hn:gW (S.wy.getD h []) c=Y)(hk:(W wd h).length<1000) :
  ∃D u,up1 c S.lg.length 1000 ⟨S.lg++[S.lg.getD h 0+1],S.lk++[Z 0],S.wy++[[]]⟩ (Z h)=Z (D,u)/\I (Z wd.length) D (g7 nd (W wd h++[c]) wd.length) (wd++[W wd h++[c]])/\D.lk.getD wd.length Y=Z 0/\D.lg.length=S.lg.length+1 ∧
   (∀m,m<wd.length->(gW (S.wy.getD m []) c).isSome->gW (D.wy.getD m []) c=gW (S.wy.getD m []) c) ∧
   (u=Y->∀m,m<wd.length->W wd m <:+ W wd h->gW (S.wy.getD m []) c=Y) ∧
   ∀p,u=Z p->p<wd.length/\W wd p <:+ W wd h/\(gW (S.wy.getD p []) c).isSome/\∀m,m<wd.length->W wd m <:+ W wd h->(W wd p).length<(W wd m).length->gW (S.wy.getD m []) c=Y:=by
 have C:S.lg.length=wd.length:=H.len.symm;have l1:S.lk.length=wd.length:=by rw[H.wf.lk,C]
 have l2:S.wy.length=wd.length:=by rw[H.wf.wy,C]
 have N6:0<wd.length:=by rw[H.len];exact H.wf.pos
 have O:∀m,(S.lk++[Z 0]).getD m Y=if m=wd.length then Z 0 else S.lk.getD m Y:=λm=>by rw[bM,l1]
 have Iy:∀m,(S.wy++[[]]).getD m []=if m=wd.length then [] else S.wy.getD m []:=λm=>by rw[bM,l2]
 have s:∀m,m<wd.length->(S.wy++[[]]).getD m []=S.wy.getD m []:=λm b=>by rw[Iy,Zm (Zg b)]
 have nt:nd (W wd h++[c])=Y:=by rw[← H.wy (H.top t) c];exact hn
 obtain⟨P,u,e1,e2,e3,e4,e5⟩:=H.MP (c:=c) (v:=S.lg.length) 1000 ⟨S.lg++[S.lg.getD h 0+1],S.lk++[Z 0],S.wy++[[]]⟩ h t (λz=>nomatch z) hk (λm b _=>by
   show (S.lk++[Z 0]).getD m Y=_;rw[O,Zm (Zg b)])
  (by show _<=(S.wy++[[]]).length;rw[Zo,l2];exact YS _ _)
  (λm Q b j g Iv q=>by
   have X:(gW ((S.wy++[[]]).getD Q []) c).isSome:=q;show (gW ((S.wy++[[]]).getD m []) c).isSome;rw[s Q j,H.wy (H.top j) c]at X;rw[s m b,H.wy (H.top b) c];obtain⟨r,f⟩:=Yk.mp X;obtain⟨U,UY⟩:=H.IS f (gC c g);rw[UY];rfl)
 have hlen:(S.lg++[S.lg.getD h 0+1]).length=S.lg.length+1:=by rw[Zo];rfl
 have W1:=H.wf.more (l:=S.lg.getD h 0+1) (o:=Z 0) (w:=[]) (λm b=>by cases b;exact H.wf.pos) (λd m b=>by cases b) YL (λp R=>nomatch R);have Pu:=Cc hc 1000 _ _ _ _ W1 (by show S.lg.length<(S.lg++[S.lg.getD h 0+1]).length;lia) e1;have lw:(W wd h++[c]).length=(W wd h).length+1:=by rw[Zo];rfl
 have Wn:∀m,W (wd++[W wd h++[c]]) m=if m=wd.length then W wd h++[c] else W wd m:=λm=>bM wd _ _ m
 have N:W (wd++[W wd h++[c]]) wd.length=W wd h++[c]:=by rw[Wn,Zn L]
 have i:∀{m},m<wd.length->W (wd++[W wd h++[c]]) m=W wd m:=λ{m} b=>by rw[Wn,Zm (Zg b)]
 have eX:(wd++[W wd h++[c]]).length=wd.length+1:=by rw[Zo];rfl
 refine⟨⟨S.lg++[S.lg.getD h 0+1],S.lk++[Z 0],P⟩,u,e1,?_,by show (S.lk++[Z 0]).getD wd.length Y=_;rw[O,Zn L],hlen,λm b g=>?_,λho m b g=>?_,λp R=>?_⟩
 rotate_left
 ·show gW (P.getD m []) c=_;rw[e3 m c];show (if c=c/\m<wd.length/\W wd m <:+ W wd h/\gW ((S.wy++[[]]).getD m []) c=Y then Z S.lg.length else gW ((S.wy++[[]]).getD m []) c)=_;rw[s m b,Zm (λz=>by rw[z.2.2.2]at g;cases g)]
 ·have:=e4 ho m b g;have F:gW ((S.wy++[[]]).getD m []) c=Y:=this;rw[s m b]at F;exact F
 ·obtain⟨p1,p2,p3,p4⟩:=e5 p R;have NA:(gW ((S.wy++[[]]).getD p []) c).isSome:=p3;rw[s p p1]at NA;refine⟨p1,p2,NA,λm b g J=>?_⟩;have:=p4 m b g J;have F:gW ((S.wy++[[]]).getD m []) c=Y:=this;rw[s m b]at F;exact F
 refine⟨Pu,by rw[eX];show _=(S.lg++[S.lg.getD h 0+1]).length;rw[hlen,C],λm b=>?_,df H.z,by rw[i N6];exact H.wz,λ{x m} q=>?_,λ{x m} q=>?_,λ{m} b=>?_,λ{x y m} q E n=>?_,λ{x d m} q=>?_,λ{x y m} q E=>?_,?_,λ{m} h0 b QJ=>?_,λ{x m} q d=>?_⟩
 ·rw[eX]at b;show (S.lg++[S.lg.getD h 0+1]).getD m 0=_;rw[bM,C];by_cases e:m=wd.length
  ·rw[Zn e,e,N,H.lg h t,lw]
  ·rw[Zm e,i (by lia),H.lg m (by lia)]
 ·rw[eX];rcases cu q with z | z
  ·have:=H.lt z;exact YY this
  ·lia
 ·rcases cu q with z | ⟨rfl,_,z⟩
  ·rw[i (H.lt z)];exact H.sf z
  ·rw[N];exact z
 ·rw[eX]at b;by_cases e:m=wd.length
  ·rw[e,N];exact fK nt (Yi _)
  ·rw[i (by lia)];exact df (H.top (by lia))
 ·rcases cu q with z | ⟨rfl,G,z2⟩
  ·rw[i (H.lt z)]at n;exact df (H.iv z E n)
  ·rw[N]at n;refine fK ?_ n;cases e:nd y with
   |none=>rfl
   |some r =>
    obtain⟨U,f⟩:=H.IS e E;rw[G]at f;cases f
 ·rcases cu q with z | ⟨_,_,z⟩
  ·obtain⟨r,f⟩:=H.pre z;exact⟨r,df f⟩
  ·obtain⟨_,A⟩:=iH z;obtain⟨r,f⟩:=H.IS (H.top t) A;exact⟨r,df f⟩
 ·rcases cu q with z | ⟨_,_,z⟩
  ·obtain⟨r,f⟩:=H.IS z E;exact⟨r,df f⟩
  ·cases e:nd x with
   |none=>exact⟨_,fK e (E.trans z)⟩
   |some r=>exact⟨r,df e⟩
 ·show (S.lk++[Z 0]).getD 0 Y=Y;rw[O,Zm (by exact Zg N6)];exact H.LB
 ·rw[eX]at b;have j:m<wd.length:=by
   have:m≠wd.length:=λe=>QJ (by rw[e]);lia
  show ∃q,(S.lk++[Z 0]).getD m Y=Z q/\_;rw[O,Zm (Zg j),eX];obtain⟨r,r1,⟨r2,_⟩,r3,r4,r5⟩:=H.lk h0 j (λz=>nomatch z);refine⟨r,r1,⟨by exact YY r2,λz=>?_⟩,by rw[i r2,i j];exact r3,by rw[i r2,i j];exact r4,λy n J=>?_⟩
  ·have:=Zk z;lia
  ·rw[i j]at n;rw[i r2]at J;exact df (r5 y n J)
 ·show gW (P.getD m []) d=_;rw[e3 m d];show (if d=c/\m<wd.length/\W wd m <:+ W wd h/\gW ((S.wy++[[]]).getD m []) c=Y then Z S.lg.length else gW ((S.wy++[[]]).getD m []) d)=_;rcases cu q with z | ⟨rfl,G,z2⟩
  ·have b:=H.lt z;rw[s m b,H.wy z c,H.wy z d];cases e:nd (x++[d]) with
   |some r =>
    rw[df e,Zm];rintro⟨rfl,_,_,a⟩;rw[e]at a;cases a
   |none =>
    by_cases g:x++[d] <:+ W wd h++[c]
    ·obtain⟨rfl,A⟩:=iH g;obtain⟨Q,m1,m2⟩:=H.ON t (λz=>nomatch z) A;rw[z]at m1;cases m1;rw[fK e g,Zn ⟨rfl,b,m2,e⟩,C]
    ·have:g7 nd (W wd h++[c]) wd.length (x++[d])=Y:=by
      unfold g7;rw[e];exact Zm g
     rw[this,Zm];rintro⟨rfl,_,a,_⟩;exact g (gC d ((H.sf z).trans a))
  ·rw[Zm (λa=>Yj _ a.2.1),Iy,Zn L];have e:nd (x++[d])=Y:=by
    cases e:nd (x++[d]) with
    |none=>rfl
    |some r =>
     obtain⟨U,f⟩:=H.pre e;rw[G]at f;cases f
   have:g7 nd (W wd h++[c]) wd.length (x++[d])=Y:=by
    unfold g7;rw[e];refine Zm λg=>?_;obtain⟨_,A⟩:=iH g;obtain⟨r,f⟩:=H.IS (H.top t) A;rw[G]at f;cases f
   rw[this];rfl
def I.fix{f m:Nat}(H:I (Z f) S nd wd)(j:f<wd.length)(b:m<wd.length)(h:W wd m <:+ W wd f)(a:(W wd m).length<(W wd f).length)(g:∀y,y <:+ W wd f->(W wd m).length<y.length->nd y=Z f):I Y ⟨S.lg,S.lk.set f (Z m),S.wy⟩ nd wd:=by
 have o:f≠0:=λe=>by
  rw[e,H.wz]at a;simp at a
 have lf:f<S.lk.length:=by rw[H.wf.lk,← H.len];exact j
 refine⟨H.wf.link (by rw[← H.len];exact b),H.len,H.lg,H.z,H.wz,H.lt,H.sf,H.top,H.iv,H.pre,H.IS,?_,λ{n} l i _=>?_,H.wy⟩
 ·show (S.lk.set f (Z m)).getD 0 Y=Y;rw[gE,Zm (λz=>o z.1)];exact H.LB
 ·show ∃q,(S.lk.set f (Z m)).getD n Y=Z q/\_;rw[gE];by_cases e:f=n
  ·subst e;rw[Zn ⟨rfl,lf⟩];exact⟨m,rfl,⟨b,λz=>nomatch z⟩,h,a,g⟩
  ·rw[Zm (λz=>e z.1)];obtain⟨r,r1,⟨r2,_⟩,d⟩:=H.lk l i (λz=>e (Zk z).symm);exact⟨r,r1,⟨r2,λz=>nomatch z⟩,d⟩
end
end AU
end
section
namespace AU
structure OJ(nd Gy:Wd->Option Nat)(w:Wd):Prop where
 eq:∀{x y m n},Gy x=some m->Gy y=some n->(m=n↔nd x=nd y/\(x <:+ w↔y <:+ w))
section
def I.NN(H:I fr S nd wd){n c old:Nat}(p:n<wd.length)(P:Z n≠fr)(Q:97<=c/\c<=122)(o:gW (S.wy.getD n []) c=Z old)(g:Z old≠fr)(i:fr≠Z wd.length)(O:(W wd n).length<1000) :
  ∃e r j Gj,K8 S n c=Z (e,r)/\I fr e j Gj/\r<Gj.length/\Z r≠fr/\W Gj r=W wd n++[c]/\(∀m,m<wd.length->W Gj m=W wd m)/\wd.length<=Gj.length/\Gj.length<=wd.length+1 ∧
   (∀x,(∃m,j x=Z m) ↔ ∃m,nd x=Z m)/\OJ nd j (W wd n++[c])/\∀x f,f≠old->nd x=Z f->j x=Z f:=by
 have hw:=H.way p o;have hold:=H.lt hw;have E:=H.sf hw;have lw:(W wd n++[c]).length=(W wd n).length+1:=by rw[Zo];rfl
 by_cases t:S.lg.getD old 0=S.lg.getD n 0+1
 ·have s:W wd old=W wd n++[c]:=by
   have:=t;rw[H.lg old hold,H.lg n p]at this;exact(E.eq_of_length (by rw[lw,this])).symm
  refine⟨S,old,nd,wd,?_,H,hold,g,s,λm _=>rfl,Zl _,Y5 _,λx=>Iff.rfl,⟨λ{x y m k} b a=>?_⟩,λx f _ h=>h⟩
  ·unfold K8;rw[o,Zp,Zn t]
  ·constructor
   ·rintro rfl;exact⟨by rw[b,a],λh=>by rw[← s]at h ⊢;exact H.all hold g b a h,λh=>by rw[← s]at h ⊢;exact H.all hold g a b h⟩
   ·rintro⟨h,_⟩;rw[b,a]at h;exact Zk h
 ·obtain⟨e,e1,u⟩:=H.split p P Q o g i t O;have C:W (wd++[W wd n++[c]]) wd.length=W wd n++[c]:=(bM wd _ _ _).trans (Zn L);have R:∀m,m<wd.length->W (wd++[W wd n++[c]]) m=W wd m:=λm J=>(bM wd _ _ m).trans (Zm (Zg J));have eX:(wd++[W wd n++[c]]).length=wd.length+1:=by rw[Zo];rfl
  have inv:∀{x m},hU nd old ((W wd n).length+1) wd.length x=Z m->(m=wd.length/\nd x=Z old/\x.length<=(W wd n).length+1)\/nd x=Z m:=λ{x m} h=>by
   unfold hU at h;split at h
   ·rename_i q;cases h;exact .inl ⟨rfl,q.1,q.2⟩
   ·exact .inr h
  have D:∀{x},nd x=Z old->(x.length<=(W wd n).length+1↔x <:+ W wd n++[c]):=λ{x} h=>⟨λN=>cw (H.sf h) E (by rw[lw];exact N),λd=>by have:=d.length_le;rw[lw]at this;exact this⟩
  refine⟨e,S.lg.length,_,_,e1,u,by rw[eX,← H.len];exact Yz _,by rw[← H.len];exact λz=>i z.symm,by rw[← H.len];exact C,R,by lia,by exact XT eX,λx=>⟨λ⟨m,h⟩=>(inv h).elim (λz=>⟨_,z.2.1⟩) λz=>⟨_,z⟩,λ⟨m,h⟩=>?_⟩,⟨λ{x y m k} b a=>?_⟩,λx f U h=>?_⟩
  ·unfold hU;split
   ·exact⟨_,rfl⟩
   ·exact⟨m,h⟩
  ·constructor
   ·rintro rfl;have v:wd.length<(wd++[W wd n++[c]]).length:=by lia
    have A:=λh=>u.all v (λz=>i z.symm) b a h;have w:=λh=>u.all v (λz=>i z.symm) a b h;rw[C]at A w;refine⟨?_,A,w⟩;rcases inv b with⟨X,F,_⟩ | z
    ·rcases inv a with⟨_,G,_⟩ | y
     ·rw[F,G]
     ·have:=H.lt y;lia
    ·rcases inv a with⟨y1,_,_⟩ | y
     ·have:=H.lt z;lia
     ·rw[z,y]
   ·rintro⟨h,d⟩;have:hU nd old ((W wd n).length+1) wd.length x=hU nd old ((W wd n).length+1) wd.length y:=by
     unfold hU;rw[h];by_cases q:nd y=Z old
     ·have e1:=D (show nd x=Z old by rw[h,q]);have e2:=D q;by_cases l:y.length<=(W wd n).length+1
      ·rw[Zn ⟨q,e1.mpr (d.mpr (e2.mp l))⟩,Zn ⟨q,l⟩]
      ·rw[Zm (λz=>l (e2.mpr (d.mp (e1.mp z.2)))),Zm (λz=>l z.2)]
     ·rw[Zm (λz=>q z.1),Zm (λz=>q z.1)]
    rw[b,a]at this;exact Zk this
  ·unfold hU;rw[Zm (λz=>U (by rw[h]at z;exact Zk z.1))];exact h
end
section
def I.step(H:I Y S nd wd)(A:h<wd.length)(hc:97<=c/\c<=122)(hk:(W wd h).length+1<1000) :
  ∃S' r v Gj,hb S h c=Z (S',r)/\I Y S' v Gj/\r<Gj.length/\W Gj r=W wd h++[c]/\(∀m,m<wd.length->W Gj m=W wd m)/\wd.length<=Gj.length/\Gj.length<=wd.length+2 ∧
   (∀x,(∃m,v x=Z m)↔(∃m,nd x=Z m)\/x <:+ W wd h++[c])/\OJ nd v (W wd h++[c]):=by
 cases hg:gW (S.wy.getD h []) c with
 |some old =>
  obtain⟨S',r,v,Gj,e,H',h1,_,h2,h3,h4,h5,h6,h7,_⟩:=H.NN A (λz=>nomatch z) hc hg (λz=>nomatch z) (λz=>nomatch z) (by exact Nat.lt_of_succ_lt hk);refine⟨S',r,v,Gj,?_,H',h1,h2,h3,h4,by exact Nat.le_succ_of_le h5,λx=>(h6 x).trans ⟨.inl,λz=>z.elim id λz=>H.IS (H.way A hg) z⟩,h7⟩;unfold hb;rw[hg];exact e
 |none =>
  have G:S.lg.length=wd.length:=H.len.symm;obtain⟨o,o',e1,u,k0,k1,k2,k3,k4⟩:=H.fresh A hc hg (by exact Nat.lt_of_succ_lt hk);have X:W (wd++[W wd h++[c]]) wd.length=W wd h++[c]:=(bM wd _ _ _).trans (Zn L);have U:∀m,m<wd.length->W (wd++[W wd h++[c]]) m=W wd m:=λm hm=>(bM wd _ _ m).trans (Zm (Zg hm));have eX:(wd++[W wd h++[c]]).length=wd.length+1:=by rw[Zo];rfl
  have lw:(W wd h++[c]).length=(W wd h).length+1:=by rw[Zo];rfl
  have nt:nd (W wd h++[c])=Y:=by rw[← H.wy (H.top A) c];exact hg
  have ex:∀x,(∃m,g7 nd (W wd h++[c]) wd.length x=Z m)↔(∃m,nd x=Z m)\/x <:+ W wd h++[c]:=λx=>⟨λ⟨m,q⟩=>(cu q).elim (λz=>.inl ⟨_,z⟩) λz=>.inr z.2.2,λq=>by
   cases e:nd x with
   |some m=>exact⟨m,df e⟩
   |none=>exact q.elim (λ⟨m,z⟩=>by rw[e]at z;cases z) λz=>⟨_,fK e z⟩⟩
  have same:∀{x y m n},g7 nd (W wd h++[c]) wd.length x=Z m->g7 nd (W wd h++[c]) wd.length y=Z n->(m=n↔nd x=nd y):=λ{x y m n} s j=>by
   rcases cu s with z | ⟨z1,z2,_⟩
   ·rcases cu j with i | ⟨y1,y2,_⟩
    ·rw[z,i];exact⟨λe=>by rw[e],λe=>Zk e⟩
    ·have:=H.lt z;refine⟨λe=>by lia,λe=>?_⟩;rw[z,y2]at e;cases e
   ·rcases cu j with i | ⟨y1,y2,_⟩
    ·have:=H.lt i;refine⟨λe=>by lia,λe=>?_⟩;rw[z2,i]at e;cases e
    ·exact⟨λ_=>by rw[z2,y2],λ_=>by rw[z1,y1]⟩
  have Lu:∀{y},y <:+ W wd h++[c]->y≠[]->∀{q},nd y=Z q->∃i m,y=i++[c]/\i <:+ W wd h/\nd i=Z m/\m<wd.length/\W wd m <:+ W wd h/\(gW (S.wy.getD m []) c).isSome:=λ{y} d HI {q} P=>by
   obtain⟨i,rfl,Sz⟩:=wV d HI;obtain⟨m,E,m2⟩:=H.ON A (λz=>nomatch z) Sz;exact⟨i,m,rfl,Sz,E,H.lt E,m2,by rw[H.wy E c,P];rfl⟩
  unfold hb;rw[hg,Zm (by simp),e1];cases o' with
  |none =>
   have w:=k3 L;have none_:∀{y},y <:+ W wd h++[c]->y≠[]->nd y=Y:=λ{y} d HI=>by
    cases e:nd y with
    |none=>rfl
    |some q =>
     obtain⟨i,m,_,_,_,m3,m4,D⟩:=Lu d HI e;rw[w m m3 m4]at D;cases D
   have H3:=u.fix (f:=wd.length) (m:=0) (by lia) (by lia) (by rw[u.wz];exact Wx) (by rw[u.wz,X,lw];exact Nat.succ_pos _) (λy d g=>by
    rw[X]at d;rw[u.wz]at g;exact fK (none_ d (λe=>by rw[e]at g;cases g)) d)
   have eS:(⟨o.lg,o.lk.set wd.length (Z 0),o.wy⟩:St)=o:=by
    have g:wd.length<o.lk.length:=by rw[u.wf.lk,← u.len,eX];exact Yz _
    have:o.lk.set wd.length (Z 0)=o.lk:=by
     rw[Zv,Zq g,Yu]at k0;rw[← k0];exact WV g
    rw[this]
   rw[eS]at H3;refine⟨o,S.lg.length,_,_,rfl,H3,by rw[eX,G];exact Yz _,by rw[G];exact X,U,by lia,by lia,ex,⟨λ{x y m n} s j=>?_⟩⟩;rw[same s j];refine⟨λe=>⟨e,?_⟩,λe=>e.1⟩;have key:∀{x y m n},g7 nd (W wd h++[c]) wd.length x=Z m->g7 nd (W wd h++[c]) wd.length y=Z n->nd x=nd y->x <:+ W wd h++[c]->y <:+ W wd h++[c]:=λ{x y m n} s j e hx=>by
    rcases cu j with z | z
    ·rw[z]at e;by_cases M0:x=[]
     ·subst M0;rw[H.z]at e;cases e;rw[H.zero z];exact Wx
     ·rw[none_ hx M0]at e;cases e
    ·exact z.2.2
   exact⟨key s j e,key j s e.symm⟩
  |some p =>
   obtain⟨C,O,p3,p4⟩:=k4 p L;obtain⟨old,Q⟩:=Yk.mp p3;have M4:gW (o.wy.getD p []) c=Z old:=by rw[k2 p C p3];exact Q
   have Sl:=H.way C Q;have hold:=H.lt Sl;have ph:(W wd p).length<(W wd h).length:=by
    rcases Nat.lt_or_eq_of_le O.length_le with l | l
    ·exact l
    ·have:=H.inj C A (O.eq_of_length l);rw[this,hg]at Q;cases Q
   obtain⟨S3,r,v,Gj,f1,H3,f2,f2',R,f4,f5,f6,f7,f8,f9⟩:=u.NN (n:=p) (c:=c) (old:=old) (by lia) (λz=>by have:=Zk z;lia) hc M4 (λz=>by have:=Zk z;lia) (λz=>by have:=Zk z;lia) (by rw[U p C];lia);rw[U p C]at R f8;have Qt:(W wd p++[c]).length=(W wd p).length+1:=by rw[Zo];rfl
   have Pp:W Gj wd.length=W wd h++[c]:=by rw[f4 _ (by lia),X]
   have none_:∀{y},y <:+ W wd h++[c]->(W wd p).length+1<y.length->nd y=Y:=λ{y} d g=>by
    cases e:nd y with
    |none=>rfl
    |some q =>
     obtain⟨i,m,rfl,E,m2,m3,m4,D⟩:=Lu d (λe=>by rw[e]at g;cases g) e;have l1:=(H.sf m2).length_le;rw[Zo,Z7]at g;rw[p4 m m3 m4 (by lia)]at D;cases D
   have H4:=H3.fix (f:=wd.length) (m:=r) (by lia) f2 (by rw[R,Pp];exact gC c O) (by rw[R,Pp,Qt,lw];exact Nat.succ_lt_succ ph) (λy d g=>by
    rw[Pp]at d;rw[R,Qt]at g;exact f9 y wd.length (by exact Xp hold) (fK (none_ d g) d))
   refine⟨⟨S3.lg,S3.lk.set S.lg.length (Z r),S3.wy⟩,S.lg.length,v,Gj,?_,by rw[G];exact H4,by rw[G];lia,by rw[G];exact Pp,λm hm=>by rw[f4 m (by lia),U m hm],by lia,by lia,λx=>(f7 x).trans (ex x),⟨λ{x y m n} s j=>?_⟩⟩
   ·show (K8 o p c).map _=_;rw[f1];rfl
   ·rw[f8.eq s j];obtain⟨E,N⟩:=(f7 x).mp ⟨m,s⟩;obtain⟨n1,J⟩:=(f7 y).mp ⟨n,j⟩;have e1:g7 nd (W wd h++[c]) wd.length x=g7 nd (W wd h++[c]) wd.length y↔nd x=nd y:=by
     rw[N,J];exact⟨λe=>(same N J).mp (Zk e),λe=>by rw[(same N J).mpr e]⟩
    rw[e1];have sw:W wd p++[c] <:+ W wd h++[c]:=gC c O;have w:∀{z q},nd z=Z q->(z <:+ W wd h++[c]↔z <:+ W wd p++[c]):=λ{z q} F=>⟨λa=>cw a sw (by
     rw[Qt];refine ZL λb=>?_;rw[none_ a b]at F;cases F),λa=>a.trans sw⟩
    have un:∀{z q},nd z=Y->g7 nd (W wd h++[c]) wd.length z=Z q->z <:+ W wd h++[c]/\¬z <:+ W wd p++[c]:=λ{z q} F a=>by
     rcases cu a with b | b
     ·rw[F]at b;cases b
     ·refine⟨b.2.2,λa=>?_⟩;obtain⟨q',P⟩:=H.IS Sl a;rw[F]at P;cases P
    refine⟨λ⟨a,b⟩=>⟨a,?_⟩,λ⟨a,b⟩=>⟨a,?_⟩⟩
    ·cases t:nd x with
     |some q=>rw[w t,w (show nd y=Z q by rw[← a,t])];exact b
     |none =>
      have u1:=un t N;have u2:=un (show nd y=Y by rw[← a,t]) J;exact⟨λ_=>u2.1,λ_=>u1.1⟩
    ·cases t:nd x with
     |some q=>rw[← w t,← w (show nd y=Z q by rw[← a,t])];exact b
     |none =>
      have u1:=un t N;have u2:=un (show nd y=Y by rw[← a,t]) J;exact⟨λz=>absurd z u1.2,λz=>absurd z u2.2⟩
end
structure K(P:Wd->Prop)(S:St)(nd:Wd->Option Nat)(wd:List Wd):Prop where
 i:I none S nd wd
 nil:P []
 some:∀x,(∃m,nd x=some m) ↔ ∃p,P p/\x <:+ p
 eq:∀{x y m n},nd x=.some m->nd y=.some n->(m=n ↔ ∀p,P p->(x <:+ p↔y <:+ p))
def K.congr(H:K P S b a)(h:∀p,P p↔Q p):K Q S b a:=by
 have:P=Q:=funext λp=>propext (h p);rw[← this];exact H
noncomputable def Qr(x:Wd):Option Nat:=if x=[] then Z 0 else Y
def fo(h:Qr x=Z n):x=[]/\n=0:=by
 unfold Qr at h;split at h
 ·exact⟨by assumption,(Zk h).symm⟩
 ·cases h
def K0:K (λp=>p=[]) S0 Qr [[]]:=by
 refine⟨⟨By,rfl,λn d=>?_,rfl,rfl,λ{x n} h=>?_,λ{x n} h=>?_,λ{n} d=>?_,λ{x y n} h b a=>?_,λ{x c n} h=>?_,λ{x y n} h b=>?_,rfl,λ{n} b a=>?_,λ{x n} h c=>?_⟩,rfl,λx=>?_,λ{x y m n} b a=>?_⟩
 ·have:n=0:=Nat.lt_one_iff.mp d;subst this;rfl
 ·rw[(fo h).2];exact Nat.one_pos
 ·rw[(fo h).1];exact Wx
 ·have:n=0:=Nat.lt_one_iff.mp d;subst this;rfl
 ·have e:=(fo h).2;subst e;have:y=[]:=Xi.mp a;subst this;rfl
 ·have:=(fo h).1;exact absurd this (by simp)
 ·have e:=(fo h).1;subst e;have:x=[]:=Xi.mp b;subst this;exact⟨0,rfl⟩
 ·have:n<1:=a;lia
 ·have e:=fo h;obtain⟨rfl,rfl⟩:=e;rfl
 ·constructor
  ·rintro⟨m,h⟩;exact⟨[],rfl,by rw[(fo h).1];exact Wx⟩
  ·rintro⟨p,rfl,h⟩;have:x=[]:=Xi.mp h;subst this;exact⟨0,rfl⟩
 ·obtain⟨rfl,rfl⟩:=fo b;obtain⟨rfl,rfl⟩:=fo a;exact⟨λ_ _ _=>Iff.rfl,λ_=>rfl⟩
section
theorem K.step(H:K P S nd wd)(w:h<wd.length)(A:97<=c/\c<=122)(v:(W wd h).length+1<1000) :
  ∃g r j Gj,hb S h c=.some (g,r)/\K (λp=>P p\/p=W wd h++[c]) g j Gj/\r<Gj.length/\W Gj r=W wd h++[c]/\(∀m,m<wd.length->W Gj m=W wd m)/\wd.length<=Gj.length/\Gj.length<=wd.length+2:=by
 obtain⟨g,r,j,Gj,e,N,J,G,F,E,D,t,C⟩:=H.i.step w A v;refine⟨g,r,j,Gj,e,⟨N,.inl H.nil,λx=>?_,λ{x y m n} s o=>?_⟩,J,G,F,E,D⟩
 ·rw[t,H.some];constructor
  ·rintro (⟨p,a,b⟩ | a)
   ·exact⟨p,.inl a,b⟩
   ·exact⟨_,.inr L,a⟩
  ·rintro⟨p,a | rfl,b⟩
   ·exact .inl ⟨p,a,b⟩
   ·exact .inr b
 ·rw[C.eq s o];have un:∀{z q},j z=.some q->nd z=Y->z <:+ W wd h++[c]/\∀p,P p->¬z <:+ p:=λ{z q} a b=>⟨((t z).mp ⟨q,a⟩).elim (λ⟨m,x⟩=>by rw[b]at x;cases x) id,λp d u=>by
   obtain⟨m,x⟩:=(H.some z).mpr ⟨p,d,u⟩;rw[b]at x;cases x⟩
  have old:nd x=nd y ↔ ∀p,P p->(x <:+ p↔y <:+ p):=by
   cases ex:nd x with
   |some a =>
    cases f:nd y with
    |some b=>exact⟨λe=>(H.eq ex f).mp (Zk e),λe=>by rw[(H.eq ex f).mpr e]⟩
    |none =>
     refine⟨λe=>(nomatch e),λe=>?_⟩;obtain⟨p,d,l⟩:=(H.some x).mp ⟨a,ex⟩;exact absurd ((e p d).mp l) ((un o f).2 p d)
   |none =>
    cases f:nd y with
    |some b =>
     refine⟨λe=>(nomatch e),λe=>?_⟩;obtain⟨p,d,l⟩:=(H.some y).mp ⟨b,f⟩;exact absurd ((e p d).mpr l) ((un s ex).2 p d)
    |none=>exact⟨λ_ p d=>⟨λz=>absurd z ((un s ex).2 p d),λz=>absurd z ((un o f).2 p d)⟩,λ_=>rfl⟩
  rw[old];constructor
  ·rintro⟨a,b⟩ p (d | rfl)
   ·exact a p d
   ·exact b
  ·intro a;exact⟨λp d=>a p (.inl d),a _ (.inr L)⟩
end
def K.grow:∀(w:Vv){P:Wd->Prop}{S:St}{nd:Wd->Option Nat}{b:List Wd}(H:K P S nd b){h:Nat},h<b.length->P (W b h)->(∀c∈w,97<=c/\c<=122)->(W b h).length+w.length<1000 →
  ∃n r J Gj,hg S h w=.some (n,r)/\K (λp=>P p\/∃v,v <+: w/\p=W b h++v) n J Gj/\r<Gj.length/\W Gj r=W b h++w/\(∀m,m<b.length->W Gj m=W b m)/\b.length<=Gj.length/\Gj.length<=b.length+2*w.length:=by
 intro w
 induction w with
 |nil =>
  intro P S nd b H h g f hw j;refine⟨S,h,nd,b,rfl,H.congr λp=>⟨.inl,?_⟩,g,(ZE _).symm,λ_ _=>rfl,Zl _,Zl _⟩;rintro (a | ⟨v,a,rfl⟩)
  ·exact a
  ·rw[List.prefix_nil.mp a,ZE];exact f
 |cons c w o =>
  intro P S nd b H h g f hw j;rw[ZX]at j;obtain⟨Q,r1,R,O,e1,G,z,e,y,l,N⟩:=H.step g (hw c Zu) (by lia);obtain⟨C,r2,E,D,e2,F,u,t,s,q,L⟩:=o G z (.inr e) (λd hd=>hw d (Zt _ hd)) (by rw[e,Zo,Z7];lia);refine⟨C,r2,E,D,?_,F.congr λp=>?_,u,?_,λm i=>by rw[s m (by exact ZR i l),y m i],by exact Z2 l q,by rw[ZX];lia⟩
  ·show (hb S h c).bind _=_;rw[e1];exact e2
  ·rw[e];constructor
   ·rintro ((a | rfl) | ⟨v,a,rfl⟩)
    ·exact .inl a
    ·exact .inr ⟨[c],WT.mpr ⟨rfl,List.nil_prefix⟩,rfl⟩
    ·exact .inr ⟨c :: v,WT.mpr ⟨rfl,a⟩,by rw[Z4];rfl⟩
   ·rintro (a | ⟨v,a,rfl⟩)
    ·exact .inl (.inl a)
    ·cases v with
     |nil=>rw[ZE];exact .inl (.inl f)
     |cons d v =>
      obtain⟨rfl,A⟩:=WT.mp a;exact .inr ⟨v,A,by rw[Z4];rfl⟩
  ·rw[t,e,Z4];rfl
def mB(S:St):List Wd->Option St
 |[]=>Z S
 |t :: b=>(hg S 0 t).bind λz=>mB z.1 b
def K.book:∀(b:List Wd){P:Wd->Prop}{S:St}{nd:Wd->Option Nat}{d:List Wd}(H:K P S nd d),(∀t∈b,∀c∈t,97<=c/\c<=122)->(∀t∈b,t.length<1000) →
  ∃j A Gj,mB S b=.some j/\K (λp=>P p\/∃t∈b,p <+: t) j A Gj/\d.length<=Gj.length/\Gj.length<=d.length+2*(b.map List.length).sum:=by
 intro b
 induction b with
 |nil =>
  intro P S nd d H _ _;refine⟨S,nd,d,rfl,H.congr λp=>⟨.inl,?_⟩,Zl _,YS _ _⟩;rintro (a | ⟨t,f,_⟩)
  ·exact a
  ·cases f
 |cons t b l =>
  intro P S nd d H h g;have m:0<d.length:=H.i.lt H.i.z;obtain⟨L,r1,N,J,e1,y,G,F,E,o,D⟩:=H.grow t m (by rw[H.i.wz];exact H.nil) (h t Zu) (by rw[H.i.wz];have:=g t Zu;simpa using this);obtain⟨q,s,r,e2,w,n,C⟩:=l y (λt f=>h t (Zt _ f)) (λt f=>g t (Zt _ f));refine⟨q,s,r,?_,w.congr λp=>?_,by exact Z2 o n,by rw[Zi,X6];lia⟩
  ·show (hg S 0 t).bind _=_;rw[e1];exact e2
  ·rw[H.i.wz];constructor
   ·rintro ((a | ⟨v,a,rfl⟩) | ⟨u,e,a⟩)
    ·exact .inl a
    ·exact .inr ⟨t,Zu,a⟩
    ·exact .inr ⟨u,Zt _ e,a⟩
   ·rintro (a | ⟨u,e,a⟩)
    ·exact .inl (.inl a)
    ·rcases Zj.mp e with rfl | e
     ·exact .inl (.inr ⟨p,a,rfl⟩)
     ·exact .inr ⟨u,e,a⟩
noncomputable def Hd(b:List Wd)(p:Wd):Prop:=p=[]\/∃t∈b,p <+: t
def K.of(b:List Wd)(f:∀t∈b,∀c∈t,97<=c/\c<=122)(d:∀t∈b,t.length<1000):∃S nd a,mB S0 b=.some S/\K (Hd b) S nd a/\a.length<=1+2*(b.map List.length).sum:=by
 obtain⟨S,nd,a,e,H,_,l⟩:=K0.book b f d;exact⟨S,nd,a,e,H,l⟩
def sk(w:List (Nat×Nat)):Vv:=(List.range' 97 26).filter λc=>(gW w c).isSome
def visit(w:List (Nat×Nat)):Vv->Vv->Vv
 |[],met=>met
 |c :: r,met=>visit w r (if (gW w c).getD 0∈met then met else met++[(gW w c).getD 0])
def GQ(S:St):Nat->Vv->Nat->Option (Vv)
 |k,met,d=>if d<met.length then (match k with
  |0=>Y
  |k+1=>GQ S k (visit (S.wy.getD (met.getD d 0) []) (sk (S.wy.getD (met.getD d 0) [])) met) (d+1)) else Z met
def steps(S:St)(a:Vv)(n:Nat):List (Nat×Nat):=(sk (S.wy.getD n [])).map λc=>(c,a.idxOf ((gW (S.wy.getD n []) c).getD 0))
noncomputable abbrev Row:=Nat×Nat×Option Nat×List (Nat×Nat)
def row(S:St)(a:Vv)(n:Nat):Row:=match S.lk.getD n Y with
 |none=>(0,0,Y,steps S a n)
 |some l=>(S.lg.getD l 0+1,S.lg.getD n 0,Z (a.idxOf l),steps S a n)
def tab(S:St)(a:Vv):List Row:=a.map (row S a)
structure IK(S T:St)(f:Nat->Nat):Prop where
 lt:∀{n},n<S.lg.length->f n<T.lg.length
 z:f 0=0
 inj:∀{m n},m<S.lg.length->n<S.lg.length->f m=f n->m=n
 lg:∀{n},n<S.lg.length->T.lg.getD (f n) 0=S.lg.getD n 0
 lk:∀{n},n<S.lg.length->T.lk.getD (f n) none=(S.lk.getD n none).map f
 wy:∀{n},n<S.lg.length->∀c,gW (T.wy.getD (f n) []) c=(gW (S.wy.getD n []) c).map f
section
def IK.mem{S T:St}{f:Nat->Nat}(F:IK S T f){m:Nat}{l:Vv}(b:m<S.lg.length)(d:∀x∈l,x<S.lg.length):f m∈l.map f↔m∈l:=by
 rw[ZU];exact⟨λ⟨x,a,e⟩=>by rw[← F.inj (d x a) b e];exact a,λh=>⟨m,h,rfl⟩⟩
theorem IK.idx(F:IK S T f)(a:m<S.lg.length):∀{l:Vv},(∀x∈l,x<S.lg.length)->(l.map f).idxOf (f m)=l.idxOf m
 |[],_=>rfl
 |x :: l,b=>by
  rw[Zi,WY,WY,F.idx a λy d=>b y (Zt _ d)];by_cases e:x=m
  ·subst e;simp
  ·have:(x==m)=B:=by simpa using e
   have g:(f x==f m)=B:=by
    have:=λz=>e (F.inj (b x Zu) a z);simpa using this
   rw[this,g]
theorem IK.sk(F:IK S T f){n:Nat}(a:n<S.lg.length):sk (T.wy.getD (f n) [])=sk (S.wy.getD n []):=by
 unfold AU.sk;refine congrArg (λp=>List.filter p (List.range' 97 26)) ?_;funext c;rw[F.wy a,YJ]
def fe(h:c∈sk w):∃m,gW w c=Z m:=Yk.mp (YU.mp h).2
theorem gM(hw:∀c m,gW w c=Z m->m<N):∀(r met:Vv),(∀c∈r,∃m,gW w c=Z m)->(∀x∈met,x<N)->∀x∈visit w r met,x<N
 |[],met,_,a=>a
 |c :: r,met,b,a=>by
  refine gM hw r _ (λd hd=>b d (Zt _ hd)) ?_;obtain⟨m,e⟩:=b c Zu;rw[e,Yu];split
  ·exact a
  ·intro x g;rcases ZW.mp g with h | h
   ·exact a x h
   ·rw[Zf.mp h];exact hw c m e
theorem IK.visit(F:IK S T f)(i:WF S)(g:n<S.lg.length):∀(r met:Vv),(∀c∈r,∃m,gW (S.wy.getD n []) c=Z m)->(∀x∈met,x<S.lg.length)->AU.visit (T.wy.getD (f n) []) r (met.map f)=(AU.visit (S.wy.getD n []) r met).map f
 |[],_,_,_=>rfl
 |c :: r,met,b,a=>by
  obtain⟨m,e⟩:=b c Zu;have j:=i.on n c m e;show AU.visit _ r (if (gW (T.wy.getD (f n) []) c).getD 0∈met.map f then met.map f else met.map f++[(gW (T.wy.getD (f n) []) c).getD 0])=(AU.visit _ r (if (gW (S.wy.getD n []) c).getD 0∈met then met else met++[(gW (S.wy.getD n []) c).getD 0])).map f;rw[F.wy g,e];show AU.visit _ r (if f m∈met.map f then met.map f else met.map f++[f m])=(AU.visit _ r (if m∈met then met else met++[m])).map f;by_cases q:m∈met
  ·rw[Zn q,Zn ((F.mem j a).mpr q)];exact F.visit i g r met (λd hd=>b d (Zt _ hd)) a
  ·rw[Zm q,Zm (λz=>q ((F.mem j a).mp z))];have:=F.visit i g r (met++[m]) (λd hd=>b d (Zt _ hd)) (λx l=>by
    rcases ZW.mp l with h | h
    ·exact a x h
    ·rw[Zf.mp h];exact j)
   rw[ZF]at this;exact this
def getD_mem{l:Vv}(h:d<l.length):l.getD d 0∈l:=by
 rw[Zv,Zq h];exact Yy h
def getD_map{l:Vv}(f:Nat->Nat)(h:d<l.length):(l.map f).getD d 0=f (l.getD d 0):=by
 rw[Zv,Zv,ZZ,Zq h];rfl
theorem IK.GQ(F:IK S T f)(i:WF S):∀(k:Nat)(met:Vv)(d:Nat),(∀x∈met,x<S.lg.length)->AU.GQ T k (met.map f) d=(AU.GQ S k met d).map (·.map f):=by
 intro k
 induction k with
 |zero =>
  intro met d a;unfold AU.GQ;rw[Zx];split<;>rfl
 |succ k j =>
  intro met d a;unfold AU.GQ;rw[Zx];by_cases h:d<met.length
  ·rw[Zn h,Zn h];have g:=a _ (getD_mem h);show AU.GQ T k (AU.visit (T.wy.getD ((met.map f).getD d 0) []) (AU.sk (T.wy.getD ((met.map f).getD d 0) [])) (met.map f)) (d+1)=(AU.GQ S k _ (d+1)).map _;rw[getD_map f h,F.sk g,F.visit i g _ met (λc b=>fe b) a];exact j _ _ (gM (λc m e=>i.on _ c m e) _ _ (λc b=>fe b) a)
  ·rw[Zm h,Zm h];rfl
theorem IK.row(F:IK S T f)(h:WF S)(d:∀x∈a,x<S.lg.length){n:Nat}(b:n<S.lg.length):AU.row T (a.map f) (f n)=AU.row S a n:=by
 have st:AU.steps T (a.map f) (f n)=AU.steps S a n:=by
  unfold AU.steps;rw[F.sk b];refine Yv λc i=>?_;obtain⟨m,e⟩:=fe i;rw[F.wy b,e];show (c,(a.map f).idxOf (f m))=(c,a.idxOf m);rw[F.idx (h.on _ c m e) d]
 unfold AU.row;rw[F.lk b,st];cases e:S.lk.getD n Y with
 |none=>rfl
 |some l =>
  have g:=h.up n l e;show (T.lg.getD (f l) 0+1,T.lg.getD (f n) 0,Z ((a.map f).idxOf (f l)),_)=_;rw[F.lg g,F.lg b,F.idx g d]
theorem IK.tab(F:IK S T f)(e:WF S){a:Vv}(b:∀x∈a,x<S.lg.length):AU.tab T (a.map f)=AU.tab S a:=by
 unfold AU.tab;rw[ZM];exact Yv λn d=>F.row e b (b n d)
end
def K.iso(H:K P S p f)(G:K P T g Gj):IK S T λn=>(g (W f n)).getD 0:=by
 have j:∀{x n},p x=.some n->g x=.some ((g (W f n)).getD 0):=λ{x n} h=>by
  obtain⟨a,o⟩:=(G.some x).mpr ((H.some x).mp ⟨n,h⟩);have l:=H.i.top (H.i.lt h);obtain⟨b,hb⟩:=(G.some (W f n)).mpr ((H.some _).mp ⟨n,l⟩);rw[hb,Yu,o,(G.eq o hb).mpr ((H.eq h l).mp rfl)]
 have no:∀{x},p x=Y->g x=Y:=λ{x} h=>by
  cases e:g x with
  |none=>rfl
  |some m =>
   obtain⟨a,o⟩:=(H.some x).mpr ((G.some x).mp ⟨m,e⟩);rw[h]at o;cases o
 have inj:∀{x y m n},p x=.some m->p y=.some n->(g (W f m)).getD 0=(g (W f n)).getD 0->m=n:=λ{x y m n} D C e=>(H.eq D C).mpr ((G.eq (j D) (j C)).mp e);have L:S.lg.length=f.length:=H.i.len.symm;have L':T.lg.length=Gj.length:=G.i.len.symm;have s:∀{n},n<f.length->W Gj ((g (W f n)).getD 0)=W f n:=λ{n} d=>by
  have l:=H.i.top d;have s1:=j l;have t:=G.i.lt s1;have w:=G.i.top t;obtain⟨a,o⟩:=(H.some (W Gj ((g (W f n)).getD 0))).mpr ((G.some _).mp ⟨_,w⟩);have:=(H.eq o l).mpr ((G.eq w s1).mp rfl);subst this;exact((H.i.sf o).eq_of_length_le ((G.i.sf s1).length_le))
 refine⟨λ{n} d=>?_,?_,λ{m n} A d e=>?_,λ{n} d=>?_,λ{n} d=>?_,λ{n} d c=>?_⟩
 ·rw[L]at d;rw[L'];exact G.i.lt (j (H.i.top d))
 ·show (g (W f 0)).getD 0=0;rw[H.i.wz,G.i.z];rfl
 ·rw[L]at A d;exact inj (H.i.top A) (H.i.top d) e
 ·rw[L]at d;show T.lg.getD ((g (W f n)).getD 0) 0=_;rw[G.i.lg _ (G.i.lt (j (H.i.top d))),s d,H.i.lg n d]
 ·rw[L]at d;show T.lk.getD ((g (W f n)).getD 0) Y=_;have s1:=j (H.i.top d);have t:=G.i.lt s1;by_cases u:n=0
  ·subst u;rw[H.i.LB,H.i.wz,G.i.z];exact G.i.LB
  ·have LM:(g (W f n)).getD 0≠0:=λz=>by
    have:=inj (H.i.top d) H.i.z (by rw[z,H.i.wz,G.i.z];rfl);exact u this
   obtain⟨m,a1,⟨O,_⟩,N,a4,X⟩:=H.i.lk (YM u) d (λz=>nomatch z);obtain⟨r,U,⟨J,_⟩,v,F,E⟩:=G.i.lk (YM LM) t (λz=>nomatch z);rw[s d]at v F E;rw[a1,U];show Z r=Z ((g (W f m)).getD 0);have R:=j (H.i.top O);have So:(W f m).length<=(W Gj r).length:=ZL λz=>by
    have q:=E (W f m) N z;rw[R]at q;have:=inj (H.i.top O) (H.i.top d) (Zk q);rw[this]at a4;lia
   have Q:(W Gj r).length<=(W f m).length:=ZL λz=>by
    have q:=j (X (W Gj r) v z);rw[G.i.top J]at q;have e:=Zk q;rw[e,s d]at F;lia
   have e:W Gj r=W f m:=(cw v N Q).eq_of_length (Nat.le_antisymm Q So);rw[← e,G.i.top J];rfl
 ·rw[L]at d;have l:=H.i.top d;show gW (T.wy.getD ((g (W f n)).getD 0) []) c=_;rw[G.i.wy (j l) c,H.i.wy l c];cases e:p (W f n++[c]) with
  |none=>rw[no e];rfl
  |some k=>rw[j e];rfl
def K.same(H:K P S g f)(G:K P T n Gj)(k:Nat):(GQ T k [0] 0).map (tab T)=(GQ S k [0] 0).map (tab S):=by
 have F:=H.iso G;have b:∀x∈[0],x<S.lg.length:=λx j=>by rw[Zf.mp j];exact H.i.wf.pos
 have e:=F.GQ H.i.wf k [0] 0 b;rw[List.map_singleton,F.z]at e;rw[e];have key:∀(k:Nat)(met:Vv)(d:Nat),(∀x∈met,x<S.lg.length)->∀m,GQ S k met d=Z m->∀x∈m,x<S.lg.length:=by
  intro k
  induction k with
  |zero =>
   intro met d a m e;unfold GQ at e;split at e
   ·cases e
   ·cases e;exact a
  |succ k h =>
   intro met d a m e;unfold GQ at e;split at e
   ·exact h _ _ (gM (λc m e=>H.i.wf.on _ c m e) _ _ (λc l=>fe l) a) m e
   ·cases e;exact a
 cases e2:GQ S k [0] 0 with
 |none=>rfl
 |some m=>exact congrArg Z (F.tab H.i.wf (key k [0] 0 b m e2))
theorem j9{w:List (Nat×Nat)}:∀(r met:Vv),∃l,visit w r met=met++l
 |[],met=>⟨[],(ZE _).symm⟩
 |c :: r,met=>by
  obtain⟨l,e⟩:=j9 (w:=w) r (if (gW w c).getD 0∈met then met else met++[(gW w c).getD 0]);show ∃l,visit w r _=_;rw[e];split
  ·exact⟨l,rfl⟩
  ·exact⟨_,Z4 _ _ _⟩
theorem jK{w:List (Nat×Nat)}:∀(r met:Vv),met.Nodup->(visit w r met).Nodup
 |[],met,h=>h
 |c :: r,met,h=>by
  refine jK (w:=w) r _ ?_;split
  ·exact h
  ·rename_i q;rw[ZQ];refine⟨h,by simp,λa d b hb e=>q ?_⟩;rw[Zf.mp hb]at e;rw[← e];exact d
theorem oh{w:List (Nat×Nat)}:∀(r met:Vv),∀c∈r,(gW w c).getD 0∈visit w r met
 |d :: r,met,c,a=>by
  rcases Zj.mp a with rfl | a
  ·obtain⟨l,e⟩:=j9 (w:=w) r (if (gW w c).getD 0∈met then met else met++[(gW w c).getD 0]);show _∈visit w r _;rw[e];refine Yq _ ?_;split
   ·assumption
   ·exact ZP _ Zu
  ·exact oh r _ c a
def wA(d:∀p∈w,97<=p.1/\p.1<=122)(h:gW w c=Z m):c∈sk w:=by
 refine YU.mpr ⟨?_,by rw[h];rfl⟩;unfold gW at h;obtain⟨p,a,_⟩:=Zs.mp h;have e:=List.find?_some a;have:=d p (List.mem_of_find?_eq_some a);have b:p.1=c:=by simpa using e
 rw[b]at this;rw[Y7];lia
def C0(o:WF S):∀(k:Nat)(met:Vv)(d:Nat),met.Nodup->(∀x∈met,x<S.lg.length)->d<=met.length->S.lg.length<=k+d->(∀i,i<d->∀c m,gW (S.wy.getD (met.getD i 0) []) c=Z m->m∈met) →
  ∃l,GQ S k met d=Z (met++l)/\(met++l).Nodup/\(∀x∈met++l,x<S.lg.length)/\∀n∈met++l,∀c m,gW (S.wy.getD n []) c=Z m->m∈met++l:=by
 intro k;have fin:∀(met:Vv)(d:Nat),¬d<met.length->d<=met.length->(∀i,i<d->∀c m,gW (S.wy.getD (met.getD i 0) []) c=Z m->m∈met)->∀n∈met,∀c m,gW (S.wy.getD n []) c=Z m->m∈met:=by
  intro met d f b h n t c m e;obtain⟨i,g,q⟩:=List.mem_iff_getElem.mp t;refine h i (by lia) c m ?_;have:met.getD i 0=n:=by rw[Zv,Zq g,q];rfl
  rw[this];exact e
 induction k with
 |zero =>
  intro met d nd lt hd u h;have z:met.length<=S.lg.length:=by
   have:=sub_len met (List.range S.lg.length) nd λx s=>Yc.mpr (lt x s)
   rwa [Z3]at this
  have a:¬d<met.length:=by lia
  refine⟨[],?_,?_⟩
  ·unfold GQ;rw[Zm a,ZE]
  ·rw[ZE];exact⟨nd,lt,fin met d a hd h⟩
 |succ k r =>
  intro met d nd lt hd u h;by_cases a:d<met.length
  ·obtain⟨p,e1⟩:=j9 (w:=S.wy.getD (met.getD d 0) []) (sk (S.wy.getD (met.getD d 0) [])) met;obtain⟨l,e,f,b,j⟩:=r (visit (S.wy.getD (met.getD d 0) []) (sk (S.wy.getD (met.getD d 0) [])) met) (d+1) (jK _ _ nd) (gM (λc m e=>o.on _ c m e) _ _ (λc v=>fe v) lt) (by rw[e1,Zo];lia) (by lia) (λi g c m e=>by
    have y:(visit (S.wy.getD (met.getD d 0) []) (sk (S.wy.getD (met.getD d 0) [])) met).getD i 0=met.getD i 0:=by
     rw[e1,Zv,Zv,ZA (by lia)]
    rw[y]at e;by_cases q:i=d
    ·subst q;have:=oh (w:=S.wy.getD (met.getD i 0) []) (sk (S.wy.getD (met.getD i 0) [])) met c (wA (o.Lq _).2 e);rw[e]at this;exact this
    ·rw[e1];exact Yq _ (h i (by lia) c m e))
   rw[e1,Z4]at f b j;refine⟨p++l,?_,f,b,j⟩;unfold GQ;rw[Zn a];show GQ S k _ (d+1)=_;rw[e,e1,Z4]
  ·refine⟨[],?_,?_⟩
   ·unfold GQ;rw[Zm a,ZE]
   ·rw[ZE];exact⟨nd,lt,fin met d a hd h⟩
def zS{α:Type}{p:List α->Prop}(h0:p [])(h1:∀l a,p l->p (l++[a]))(l:List α):p l:=by
 have:∀l:List α,p l.reverse:=by
  intro l
  induction l with
  |nil=>exact h0
  |cons a l ih=>rw[List.reverse_cons];exact h1 _ a ih
 rw[← List.reverse_reverse l];exact this _
def K.met(H:K P S nd wd){k:Nat}(hk:wd.length<=k):∃l,GQ S k [0] 0=Z (0 :: l)/\(0 :: l).Nodup/\(∀x,x∈0 :: l↔x<wd.length)/\(0 :: l).length=wd.length:=by
 have L:S.lg.length=wd.length:=H.i.len.symm;obtain⟨l,e,h1,h2,h3⟩:=C0 H.i.wf k [0] 0 (by simp) (λx hx=>by rw[Zf.mp hx];exact H.i.wf.pos) (YT _) (by lia) (λi hi=>absurd hi (Nat.not_lt_zero _));have h0:∀(x:Wd) n,nd x=Z n->n∈0 :: l:=by
  intro x
  induction x using zS with
  |h0=>intro n e;rw[H.i.z]at e;cases e;exact Zu
  |h1 x c ih =>
   intro n e;obtain⟨m,hm⟩:=H.i.pre e;exact h3 m (ih m hm) c n (by rw[H.i.wy hm];exact e)
 have hx:∀x,x∈0 :: l↔x<wd.length:=λx=>⟨λz=>by rw[← L];exact h2 x z,λz=>h0 _ x (H.i.top z)⟩
 refine⟨l,e,h1,hx,Nat.le_antisymm ?_ ?_⟩
 ·have:=sub_len (0 :: l) (List.range wd.length) h1 λx z=>Yc.mpr ((hx x).mp z)
  rwa [Z3]at this
 ·have:=sub_len (List.range wd.length) (0 :: l) List.nodup_range λx z=>(hx x).mpr (Yc.mp z)
  rwa [Z3]at this
end AU
end
section
namespace T12
open VS AU
def A2(w:List (Nat×Nat))(c:Nat):c∈w.map (·.1)↔(gW w c).isSome=M:=by
 rw[← CC,YF,ZU];exact⟨λ⟨p,b,a⟩=>⟨p,b,by rw[a];exact beq_self_eq_true c⟩,λ⟨p,b,a⟩=>⟨p,b,by simpa using a⟩⟩
def uu{w:List (Nat×Nat)}(a:(w.map (·.1)).Nodup)(b:∀p∈w,97<=p.1/\p.1<=122):(sk w).Perm (w.map (·.1)):=by
 refine(YN ?_ a).mpr λc=>?_
 ·exact List.Nodup.sublist List.filter_sublist Y6
 ·rw[A2];constructor
  ·intro h;exact(YU.mp h).2
  ·intro h;obtain⟨m,e⟩:=Yk.mp h;exact wA b e
def yd{w:List (Nat×Nat)}(e:(w.map (·.1)).Nodup)(d:∀p∈w,97<=p.1/\p.1<=122):gq [(m,Gu w)]=Z (.fr,.lst ((sk w).map λc=>T.str [c])):=by
 show ((strs? ((w.map λp=>(T.str [p.1],T.int (p.2:Int))).map (·.1))).bind _)=_;have e1:(w.map λp=>(T.str [p.1],T.int (p.2:Int))).map (·.1)=(w.map (·.1)).map λc=>T.str [c]:=by
  rw[ZM,ZM];rfl
 rw[e1,strs_map (λc=>[c]),Zp,Zn]
 ·have:(sk w).map (λc=>[c])=cy ((w.map (·.1)).map λc=>[c]):=by
   refine kE ((uu e d).map _) ?_;rw[Xd];refine List.Pairwise.imp ?_ (Wz _ (List.pairwise_lt_range' (s:=97) (n:=26)));intro a b j h;rcases Xf.mp h with h | ⟨_,h⟩
   ·omega
   ·exact absurd h (List.not_lt_nil _)
  rw[← this,ZM];rfl
 ·refine⟨?_,Z6.mpr ?_⟩
  ·rw[Zx,← (uu e d).length_eq];have:(sk w).length<=(List.range' 97 26).length:=WU _ _;rw[Wq]at this;omega
  intro s f;obtain⟨c,i,rfl⟩:=ZU.mp f;obtain⟨p,g,rfl⟩:=ZU.mp i;have:=d p g;show (decide (1<=dq)&&(decide (p.1<1114112)&&M))=M;rw[decide_eq_true (show p.1<1114112 by omega)];rfl
noncomputable def nE:Nat->Vv->List (T×T)
 |_,[]=>[]
 |k,n :: r=>(T.int (n:Int),T.int (k:Int)) :: nE (k+1) r
theorem yc:∀(met:Vv)(k:Nat),(nE k met).length=met.length
 |[],_=>rfl
 |_ :: r,k=>by rw[nE,ZX,ZX,yc r]
theorem oW:∀(met:Vv)(k:Nat),(nE k met).map (·.1)=met.map λ(n:Nat)=>T.int (n:Int)
 |[],_=>rfl
 |_ :: r,k=>by rw[nE,Zi,Zi,oW r]
theorem ye:∀(met:Vv)(k n:Nat),nE k (met++[n])=nE k met++[(T.int (n:Int),T.int ((k+met.length:Nat):Int))]
 |[],k,n=>rfl
 |m :: r,k,n=>by
  rw[Wh,nE,nE,ye r (k+1) n,ZX,Wh];rw[show k+1+r.length=k+(r.length+1) by omega]
def qq(a b:Nat):eqT (.int (a:Int)) (.int (b:Int))=(a==b):=by
 simp only[eqT];by_cases h:a=b
 ·simp[h]
 ·have d:¬(a:Int)=(b:Int):=by omega
  rw[ZJ.mpr h,ZJ.mpr d]
theorem oJ:∀(met:Vv)(k n:Nat),cS (nE k met) (.int (n:Int))=if n∈met then Z (T.int ((k+met.idxOf n:Nat):Int)) else Y
 |[],_,_=>rfl
 |m :: r,k,n=>by
  show ((((T.int (m:Int),T.int (k:Int)) :: nE (k+1) r).find? λp=>eqT p.1 (.int (n:Int))).map (·.2))=_;rw[Z0];simp only[qq];by_cases h:m=n
  ·subst h;simp[WY]
  ·have hb:(m==n)=B:=ZJ.mpr h;have a:=oJ r (k+1) n;unfold cS at a;simp only[hb];rw[a,WY,hb];by_cases q:n∈r
   ·rw[Zn q,Zn (Zt _ q)];show Z (T.int ((k+1+r.idxOf n:Nat):Int))=Z (T.int ((k+(r.idxOf n+1):Nat):Int));rw[show k+1+r.idxOf n=k+(r.idxOf n+1) by omega]
   ·rw[Zm q,Zm (λz=>(Zj.mp z).elim (λe=>h e.symm) q)]
def CV(a:Vv)(n:Nat)(h:n∉a):dput (nE 0 a) (.int (n:Int)) (.int (a.length:Int))=nE 0 (a++[n]):=by
 unfold dput;rw[Zm,ye]
 ·rw[Wg]
 ·intro z;obtain⟨p,b,e⟩:=YF.mp z;have:(cS (nE 0 a) (.int (n:Int))).isSome=M:=by
   unfold cS;rw[YJ,List.find?_isSome];exact⟨p,b,e⟩
  rw[oJ,Zm h]at this;cases this
def nT(met:Vv):T:=.dct 0 (nE 0 met)
noncomputable def mT(met:Vv):T:=.lst (met.map λ(n:Nat)=>T.int (n:Int))
def Bj{m k:Md}{met:Vv}{n:Nat}(h:a U=Z (m,nT met))(he:e U=Z (k,.int (n:Int))):e2 cA e a U=Z (.fr,.bl (decide (n∉met))):=e2v he h (by
 show (match (if M=M then Z (Md.fr,T.bl (cS (nE 0 met) (.int (n:Int))).isSome) else Y) with | some (_,.bl b)=>some (Md.fr,T.bl (!b)) | _=>none)=_;rw[Zn L,oJ];by_cases q:n∈met
 ·rw[Zn q,ZG (λz=>z q)];rfl
 ·rw[Zm q,decide_eq_true q];rfl)
section
theorem vM{d:Nat}{ob:Vr}:∀(r met:Vv)(z:Vr),(∀c∈r,∃m,gW w c=Z m)->met.length+r.length<16777216->∃a,forL (bh 5) bj (r.map λc=>T.str [c]) [ob,oc (nT met),oc (mT met),Q0 (d:Int),pc (Gu w),z]=Z (.nx [ob,oc (nT (visit w r met)),oc (mT (visit w r met)),Q0 (d:Int),pc (Gu w),a])
 |[],met,z,_,_=>⟨z,rfl⟩
 |c :: r,met,z,f,p=>by
  obtain⟨m,e⟩:=f c Zu;rw[ZX]at p;have hlen:(nE 0 met).length=met.length:=yc met 0;by_cases q:m∈met
  ·obtain⟨a,b⟩:=vM r met (Q2 ([c])) (λd hd=>f d (Zt _ hd)) (by omega);refine⟨a,?_⟩;have ev:visit w (c :: r) met=visit w r met:=by
    show visit w r (if (gW w c).getD 0∈met then met else met++[(gW w c).getD 0])=_;rw[e,Yu,Zn q]
   rw[ev,Zi];refine(g6 (U1:=[ob,oc (nT met),oc (mT met),Q0 (d:Int),pc (Gu w),Q2 ([c])]) L ?_).trans b;unfold bj;refine jO (m:=.fr) ?_ L;refine(Bj (m:=.bo) (k:=.fr) (met:=met) (n:=m) L (yx (m:=.pu) (n:=.fr) (c:=c) (w:=w) L L e)).trans ?_;rw[ZG (λz=>z q)]
  ·obtain⟨a,b⟩:=vM r (met++[m]) (Q2 ([c])) (λd hd=>f d (Zt _ hd)) (by rw[Zo,Z7];omega);refine⟨a,?_⟩;have ev:visit w (c :: r) met=visit w r (met++[m]):=by
    show visit w r (if (gW w c).getD 0∈met then met else met++[(gW w c).getD 0])=_;rw[e,Yu,Zm q]
   rw[ev,Zi];refine(g6 (U1:=[ob,oc (nT met),oc (mT met),Q0 (d:Int),pc (Gu w),Q2 ([c])]) L ?_).trans b;unfold bj;refine Mj (m:=.fr) ?_ ?_
   ·refine(Bj (m:=.bo) (k:=.fr) (met:=met) (n:=m) L (yx (m:=.pu) (n:=.fr) (c:=c) (w:=w) L L e)).trans ?_;rw[decide_eq_true q]
   ·have h:∀nn g:Vr,e2 GW (aa 4) (aa 5) [ob,nn,g,Q0 (d:Int),pc (Gu w),Q2 ([c])]=Z (.fr,.int (m:Int)):=λnn g=>yx (m:=.pu) (n:=.fr) (c:=c) (w:=w) L L e;have j:mh 1 (e2 GW (aa 4) (aa 5)) (eN bX (ab (aa 2) af)) [ob,oc (nT met),oc (mT met),Q0 (d:Int),pc (Gu w),Q2 ([c])]=Z (.nx [ob,oc (nT (met++[m])),oc (mT met),Q0 (d:Int),pc (Gu w),Q2 ([c])]):=by
     have o:eN bX (ab (aa 2) af) [ob,oc (nT met),oc (mT met),Q0 (d:Int),pc (Gu w),Q2 ([c])]=Z (.fr,.int (met.length:Int)):=ff (xv (x:=(.bo,mT met)) L L) (by
      show Z (Md.fr,T.int (((met.map λ(n:Nat)=>T.int (n:Int)).length:Nat):Int))=_;rw[Zx])
     unfold mh;rw[o,Zp];show ((e2 GW (aa 4) (aa 5) [ob,oc (nT met),oc (mT met),Q0 (d:Int),pc (Gu w),Q2 ([c])]).bind _)=_;rw[h,Zp];show (if M=M/\M=M/\(nE 0 met).length<dq then Z (Out.nx [ob,oc (.dct 0 (dput (nE 0 met) (.int (m:Int)) (.int (met.length:Int)))),oc (mT met),Q0 (d:Int),pc (Gu w),Q2 ([c])]) else Y)=_;rw[Zn ⟨rfl,rfl,by rw[hlen];show met.length<16777216;omega⟩,CV met m q];rfl
    refine sq j ?_;refine(oY (i:=2) (l:=met.map λ(n:Nat)=>T.int (n:Int)) (v:=.int (m:Int)) L (h _ _) (by rw[Zx];omega)).trans ?_;rw[show (met.map λ(n:Nat)=>T.int (n:Int))++[.int (m:Int)]=(met++[m]).map λ(n:Nat)=>T.int (n:Int) from by rw[ZF];rfl];rfl
end
def lW(w:List (Nat×Nat)):(sk w).length<=26:=by
 refine Z2 (WU _ _) ?_;rw[Wq];exact Zl _
def oC{S:St}{a:Vv}(b:a.Nodup)(d:∀x∈a,x<S.lg.length):a.length<=S.lg.length:=by
 have:=sub_len a (List.range S.lg.length) b λx e=>Yc.mpr (d x e)
 rwa [Z3]at this
def E8(j:WF S)(F:S.lg.length<=100001):∀(k:Nat)(met:Vv)(d:Nat)(M:Vv),met.Nodup->(∀x∈met,x<S.lg.length)->GQ S k met d=Z M->∀N,k<N->∀f a:Vr,∃i A C,
  dZ (e2 oLt (aa 3) (eN bX (ab (aa 2) af))) bP N [pc (FW S B),oc (nT met),oc (mT met),Q0 ((d:Nat):Int),f,a] =
   Z (.nx [pc (FW S B),oc (nT M),oc (mT M),pc i,A,C]):=by
 have cond:∀(met:Vv)(d:Nat)(f a:Vr),e2 oLt (aa 3) (eN bX (ab (aa 2) af)) [pc (FW S B),oc (nT met),oc (mT met),Q0 ((d:Nat):Int),f,a]=Z (.fr,.bl (decide (d<met.length))):=λmet d f a =>
  e2v (x:=(.fr,.int (d:Int))) L (ff (v:=(.fr,.int (met.length:Int))) (xv (x:=(.bo,mT met)) L L) (by
   show Z (Md.fr,T.int (((met.map λ(n:Nat)=>T.int (n:Int)).length:Nat):Int))=_;rw[Zx])) (by
   show Z (Md.fr,T.bl (decide ((d:Int)<(met.length:Int))))=_;rw[show decide ((d:Int)<(met.length:Int))=decide (d<met.length) from decide_eq_decide.mpr (by omega)])
 intro k
 induction k with
 |zero =>
  intro met d M nd lt e N hN f a;obtain⟨N,rfl⟩:∃M,N=M+1:=⟨N-1,by omega⟩
  unfold GQ at e;split at e
  ·cases e
  ·rename_i h;cases e;exact⟨_,f,a,d6 (m:=.fr) ((cond _ _ _ _).trans (by rw[ZG h]))⟩
 |succ k u =>
  intro met d M nd lt e N hN f a;obtain⟨N,rfl⟩:∃M,N=M+1:=⟨N-1,by omega⟩
  unfold GQ at e;split at e
  ·rename_i h;have z:=lt _ (getD_mem h);have D:met.getD d 0<S.wy.length:=by rw[j.wy];exact z
   have ml:=oC nd lt;have E:=lW (S.wy.getD (met.getD d 0) []);obtain⟨o,s⟩:=vM (w:=S.wy.getD (met.getD d 0) []) (d:=d) (ob:=pc (FW S B)) (sk (S.wy.getD (met.getD d 0) [])) met a (λc g=>fe g) (by omega);obtain⟨i,r,p,q⟩:=u _ (d+1) M (jK _ _ nd) (gM (λc m e=>j.on _ c m e) _ _ (λc g=>fe g) lt) e N (by omega) (pc (Gu (S.wy.getD (met.getD d 0) []))) o;refine⟨i,r,p,(lj (m:=.fr) ((cond _ _ _ _).trans (by rw[decide_eq_true h])) ?_).trans q⟩;unfold bP;have ix:e2 aC (aa 2) (aa 3) [pc (FW S B),oc (nT met),oc (mT met),Q0 ((d:Nat):Int),f,a]=Z (.fr,.int ((met.getD d 0:Nat):Int)):=e2v (x:=(.bo,mT met)) (y:=(.fr,.int (d:Int))) L L (kI _ met d 0 h);have s1:aI 4 (e2 aC (aW 3 (aa 0)) (e2 aC (aa 2) (aa 3))) [pc (FW S B),oc (nT met),oc (mT met),Q0 ((d:Nat):Int),f,a]=Z (.nx [pc (FW S B),oc (nT met),oc (mT met),Q0 ((d:Nat):Int),pc (Gu (S.wy.getD (met.getD d 0) [])),a]) :=
    aG (m:=.pu) (lS (S:=S) (b:=B) (m:=.pu) (n:=.fr) L ix D) (by decide) (by decide:4<6)
   refine sq s1 ?_;have nw:=j.Lq (met.getD d 0);refine sq ((gb (m:=.fr) (l:=(sk (S.wy.getD (met.getD d 0) [])).map λc=>T.str [c]) ?_ L).trans s) ?_
   ·show (eN gq (ab (aa 4) af) _).bind uK=_;rw[ff (xv (x:=(.pu,Gu (S.wy.getD (met.getD d 0) []))) L L) (yd nw.1 nw.2)];rfl
   ·exact aG (m:=.fr) (t:=.int (((d+1:Nat)):Int)) L (by decide) (by decide:3<6)
  ·rename_i h;cases e;exact⟨_,f,a,d6 (m:=.fr) ((cond _ _ _ _).trans (by rw[ZG h]))⟩
def BF(a:WF S)(g:S.lg.length<=100001){M:Vv}(h:k<1000000)(e:GQ S k [0] 0=Z M):aD [FW S B]=Z (.fr,nT M):=by
 obtain⟨i,d,b,q⟩:=E8 a g k [0] 0 M (by simp) (λx f=>by rw[Zf.mp f];exact a.pos) e uL (by show k<1000000;exact h) Y Y;refine fh (U:=[pc (FW S B),Y,pc (mT M),pc i,d,b]) L ?_;exact sq L (sq L (sq L (sq q (sq L L))))
noncomputable def G7(l:List (Nat×Nat)):T:=.tup (l.map λp=>T.tup [.str [p.1],.int (p.2:Int)])
def dM(r:Row):T:=.tup [.int (r.1:Int),.int (r.2.1:Int),Gp r.2.2.1,G7 r.2.2.2]
theorem uc:∀l:List (Nat×Nat),cL (l.map λp=>T.tup [.str [p.1],.int (p.2:Int)])=M
 |[]=>rfl
 |p :: l=>by
  rw[Zi];show (M&&cL _)=M;rw[uc l];rfl
def iB(l:List (Nat×Nat)):FZ (G7 l)=M:=uc l
def uC(r:Row):FZ (dM r)=M:=by
 show (M&&(M&&(FZ (Gp r.2.2.1)&&(FZ (G7 r.2.2.2)&&M))))=M;rw[ku,iB];rfl
def EI(h:a U=Z (.fr,x))(g:b U=Z (.fr,y))(f:c U=Z (.fr,z))(e:d U=Z (.fr,w)):ia (ab a (ab b (ab c (ab d af)))) U=Z (.fr,.tup [x,y,z,w]):=by
 show (ab a (ab b (ab c (ab d af))) U).bind t4=_;rw[xv h (xv g (xv f (xv (r:=af) e L))),Zp];show Z (up .fr _)=_;unfold up;split<;>rfl
def Dz(d:WF S)(o:∀x,x<S.lg.length->x∈a)(g:n<S.lg.length):bO [FW S B,.int (n:Int),.dct 3 (nE 0 a)]=Z (.fr,dM (row S a n)):=by
 have hw:n<S.wy.length:=by rw[d.wy];exact g
 have z:n<S.lk.length:=by rw[d.lk];exact g
 have nw:=d.Lq n;have get:∀v,v<S.lg.length->cS (nE 0 a) (.int (v:Int))=Z (T.int ((a.idxOf v:Nat):Int)):=λv u=>by rw[oJ,Zn (o v u),Wg]
 have s1:aI 3 (e2 aC (aW 2 (aa 0)) (aa 1)) [pc (FW S B),Q0 (n:Int),pc (.dct 3 (nE 0 a)),Y,Y,Y]=Z (.nx [pc (FW S B),Q0 (n:Int),pc (.dct 3 (nE 0 a)),pc (Gp (S.lk.getD n Y)),Y,Y]):=aG (m:=.fr) (uH (S:=S) (b:=B) (m:=.pu) (n:=.fr) L L z) (by decide) (by decide:3<6);have f:aI 4 (e2 aC (aW 3 (aa 0)) (aa 1)) [pc (FW S B),Q0 (n:Int),pc (.dct 3 (nE 0 a)),pc (Gp (S.lk.getD n Y)),Y,Y]=Z (.nx [pc (FW S B),Q0 (n:Int),pc (.dct 3 (nE 0 a)),pc (Gp (S.lk.getD n Y)),pc (Gu (S.wy.getD n [])),Y]):=aG (m:=.pu) (lS (S:=S) (b:=B) (m:=.pu) (n:=.fr) L L hw) (by decide) (by decide:4<6);have C:eN fC (ab (cz 1 (bh 0) (dJ (eN gq (ab (aa 4) af))) Y (ia (ab (aa 0) (ab (e2 o8 (aa 3) (e2 GW (aa 5) (aa 0))) af)))) af) [pc (FW S B),Q0 (n:Int),pc (.dct 3 (nE 0 a)),pc (Gp (S.lk.getD n Y)),pc (Gu (S.wy.getD n [])),Y]=Z (.fr,G7 (steps S a n)):=by
  have D:=dY (k:=1) (tg:=bh 0) (it:=dJ (eN gq (ab (aa 4) af))) (elt:=ia (ab (aa 0) (ab (e2 o8 (aa 3) (e2 GW (aa 5) (aa 0))) af))) (m:=.fr) (U:=[pc (FW S B),Q0 (n:Int),pc (.dct 3 (nE 0 a)),pc (Gp (S.lk.getD n Y)),pc (Gu (S.wy.getD n [])),Y]) (λc=>T.str [c]) (λc=>T.tup [.str [c],.int ((a.idxOf ((gW (S.wy.getD n []) c).getD 0):Nat):Int)]) (sk (S.wy.getD n [])) (by
   show (eN gq (ab (aa 4) af) _).bind uK=_;rw[ff (xv (x:=(.pu,Gu (S.wy.getD n []))) L L) (yd nw.1 nw.2)];rfl) L (Z2 (lW _) (by decide)) (λc A=>by
   obtain⟨v,ev⟩:=fe A;refine⟨[Q2 ([c]),pc (FW S B),Q0 (n:Int),pc (.dct 3 (nE 0 a)),pc (Gp (S.lk.getD n Y)),pc (Gu (S.wy.getD n [])),Y],rfl,?_⟩;have s:e2 o8 (aa 3) (e2 GW (aa 5) (aa 0)) [Q2 ([c]),pc (FW S B),Q0 (n:Int),pc (.dct 3 (nE 0 a)),pc (Gp (S.lk.getD n Y)),pc (Gu (S.wy.getD n [])),Y]=Z (.fr,.int ((a.idxOf v:Nat):Int)) :=
    e2v (x:=(.pu,.dct 3 (nE 0 a))) L (yx (m:=.pu) (n:=.fr) (c:=c) (w:=S.wy.getD n []) L L ev) (by
     show (if M=M then (cS (nE 0 a) (.int (v:Int))).map (sub .pu) else Y)=_;rw[Zn L,get v (d.on n c v ev)];rfl)
   rw[ev,Yu];show (ab (aa 0) (ab (e2 o8 (aa 3) (e2 GW (aa 5) (aa 0))) af) _).bind t4=_;rw[xv (x:=(.fr,.str [c])) L (xv (r:=af) s L)];rfl)
  refine ff (xv (r:=af) D L) ?_;show (if _<=dq then Z (up .fr (.tup _)) else Y)=_;rw[Zn (by rw[Zx];exact Z2 (lW _) (by decide))];have:T.tup ((sk (S.wy.getD n [])).map λc=>T.tup [.str [c],.int ((a.idxOf ((gW (S.wy.getD n []) c).getD 0):Nat):Int)])=G7 (steps S a n):=by
   unfold G7 steps;rw[ZM];rfl
  rw[this];unfold up;rw[iB];rfl
 have e:=aG (i:=5) C (by decide) (by decide:5<6);have p:∀U:Env,U[5]?=Z (pc (G7 (steps S a n)))->aa 5 U=Z (.fr,G7 (steps S a n)):=λU h=>by
  show (match U[5]? with | some (some (.pu t))=>some (up .pu t) | some (some (.ow t))=>some (.bo,t) | _=>none)=_;rw[h];show Z (up .pu _)=_;unfold up;rw[iB];rfl
 unfold row;cases j:S.lk.getD n Y with
 |none =>
  rw[j]at s1 f e;refine fh (v:=(.fr,dM (0,0,Y,steps S a n))) (U:=[pc (FW S B),Q0 (n:Int),pc (.dct 3 (nE 0 a)),pc (Gp Y),pc (Gu (S.wy.getD n [])),pc (G7 (steps S a n))]) L ?_;refine sq s1 (sq f (sq e (lA (Mj (m:=.fr) L (dC (EI L L L (p _ L)))))))
 |some l =>
  rw[j]at s1 f e;have q:=d.up n l j;refine fh (v:=(.fr,dM (S.lg.getD l 0+1,S.lg.getD n 0,Z (a.idxOf l),steps S a n))) (U:=[pc (FW S B),Q0 (n:Int),pc (.dct 3 (nE 0 a)),pc (Gp (Z l)),pc (Gu (S.wy.getD n [])),pc (G7 (steps S a n))]) L ?_;refine sq s1 (sq f (sq e (sq (jO (m:=.fr) L L) (dC (EI ?_ ?_ ?_ (p _ L))))))
  ·exact e2v (qo (S:=S) (b:=B) (m:=.pu) (n:=.fr) (i:=l) L L q) L L
  ·exact qo (S:=S) (b:=B) (m:=.pu) (n:=.fr) (i:=n) L L g
  ·exact e2v (x:=(.pu,.dct 3 (nE 0 a))) (y:=(.fr,.int (l:Int))) L L (by
    show (if M=M then (cS (nE 0 a) (.int (l:Int))).map (sub .pu) else Y)=_;rw[Zn L,get l q];rfl)
def Ge(t:List Row):T:=.lst (t.map dM)
def Cj(b:WF S)(g:S.lg.length<=100001){M:Vv}{k:Nat}(l:k<1000000)(e:GQ S k [0] 0=Z M)(a:∀x,x∈M↔x<S.lg.length)(j:M.length<=16777216):dc [FW S B]=Z (.fr,Ge (tab S M)):=by
 have d:=BF b g l e;refine fh (U:=[pc (FW S B),Y]) L ?_;have s1:kX 1 (dG 0 aD (aa 0) af) [pc (FW S B),Y]=Z (.nx [pc (FW S B),oc (nT M)]):=by
  show (dG 0 aD (aa 0) af [pc (FW S B),Y]).bind _=_;have:dG 0 aD (aa 0) af [pc (FW S B),Y]=Z (.fr,nT M):=by
   show ((aD [FW S B]).bind _)=_;rw[d];rfl
  rw[this];rfl
 refine sq s1 ?_;have o:=dY (k:=1) (tg:=bh 0) (it:=qg 1) (elt:=dG 0 bO (aa 1) (ab (aa 0) (ab (aa 2) af))) (m:=.fr) (U:=[pc (FW S B),pc (.dct 3 (nE 0 M))]) (λ(n:Nat)=>T.int (n:Int)) (λn=>dM (row S M n)) M (by
  show (if ((nE 0 M).all λp=>isInt p.1)=true then Z (Md.fr,(nE 0 M).map (·.1)) else Y)=_;rw[Zn,oW];rw[Z6];intro p h;have:p.1∈(nE 0 M).map (·.1):=List.mem_map_of_mem h;rw[oW]at this;obtain⟨n,_,e⟩:=ZU.mp this;rw[← e];rfl) L j (λn i=>by
  refine⟨[Q0 (n:Int),pc (FW S B),pc (.dct 3 (nE 0 M))],rfl,?_⟩;show ((bO [FW S B,.int (n:Int),.dct 3 (nE 0 M)]).bind _)=_;rw[Dz b (λx f=>(a x).mpr f) ((a n).mp i)];rfl)
 show ((cz 1 (bh 0) (qg 1) Y (dG 0 bO (aa 1) (ab (aa 0) (ab (aa 2) af))) [pc (FW S B),pc (.dct 3 (nE 0 M))]).bind _)=_;rw[o];unfold Ge tab;rw[ZM];rfl
def Ks(a:List Tx)(b:Vv)(S:St):qQ:=[(4,.lst (a.map .str)),(5,.lst (b.map λ(n:Nat)=>T.int (n:Int))),(6,FW S B)]
def Gg(a:List Tx)(d:Vv)(S:St)(b:Bool):T:=.obj 2 ((0,.bl b) :: Ks a d S)
def AF(S:St):eV (FW S B)=M:=by
 show ((M && !(0==0&&B))&&dA (II S))=M;rw[jC];rfl
def jJ(a:List Tx)(b:Vv)(S:St):dA (Ks a b S)=M:=by
 have e:eV (.lst (a.map T.str))=M:=dX _ (λ_=>rfl) _;have d:eV (.lst (b.map λ(n:Nat)=>T.int (n:Int)))=M:=dX _ (λ_=>rfl) _;show ((eV _ && !(4==0&&Lb _))&&((eV _ && !(5==0&&Lb _))&&((eV _ && !(6==0&&Lb _))&&M)))=M;rw[e,d,AF];rfl
def Ag(a:List Tx)(d:Vv)(S:St)(b:Bool):oS 4 (Gg a d S b)=Z (.lst (a.map .str)):=rfl
def FC(d:List Tx)(a:Vv)(S:St)(b:Bool):oS 5 (Gg d a S b)=Z (.lst (a.map λ(n:Nat)=>T.int (n:Int))):=rfl
def FN(a:List Tx)(d:Vv)(S:St)(b:Bool):oS 6 (Gg a d S b)=Z (FW S B):=rfl
section
def w6{m:Md}(h:a U=Z (m,Gg tx hd S b)):eN bX (ab (aW 4 a) af) U=Z (.fr,.int (tx.length:Nat)):=ff (xv (gp h (Ag tx hd S b)) L) (by
 show Z (Md.fr,T.int (((tx.map T.str).length:Nat):Int))=_;rw[Zx])
def DB{e:Ex}{v:Tx}(h:e (oc (Gg tx hd S b) :: r)=Z (.fr,.str v))(f:tx.length<16777216):sX (g9 0 [.fld 4] aB (ab e af)) (oc (Gg tx hd S b) :: r)=Z (.nx (oc (Gg (tx++[v]) hd S b) :: r)):=by
 show (((Z [Ky.fld 4]).bind λd=>(ab e af (oc (Gg tx hd S b) :: r)).bind λa=>(pm (λx=>aB x a) d (Gg tx hd S b)).map _).map _)=_;rw[Zp,xv (r:=af) h L,Zp];show (((aB (.lst (tx.map T.str)) [(.fr,.str v)]).map _).map _ |>.map _)=_;rw[dR (by rw[Zx];exact f),show (tx.map T.str)++[.str v]=(tx++[v]).map T.str from by rw[ZF];rfl];rfl
def Do{e:Ex}{v:Nat}(h:e (oc (Gg tx hd S b) :: r)=Z (.fr,.int (v:Int)))(f:hd.length<16777216):sX (g9 0 [.fld 5] aB (ab e af)) (oc (Gg tx hd S b) :: r)=Z (.nx (oc (Gg tx (hd++[v]) S b) :: r)):=by
 show (((Z [Ky.fld 5]).bind λd=>(ab e af (oc (Gg tx hd S b) :: r)).bind λa=>(pm (λx=>aB x a) d (Gg tx hd S b)).map _).map _)=_;rw[Zp,xv (r:=af) h L,Zp];show (((aB (.lst (hd.map λ(n:Nat)=>T.int (n:Int))) [(.fr,.int (v:Int))]).map _).map _ |>.map _)=_;rw[dR (by rw[Zx];exact f),show (hd.map λ(n:Nat)=>T.int (n:Int))++[.int (v:Int)]=(hd++[v]).map λ(n:Nat)=>T.int (n:Int) from by rw[ZF];rfl];rfl
def xj{tx:List Tx}{hd:Vv}(h:tx.length<8)(i:hd.length=tx.length):br (Ks tx hd S) []=Z (Ks (tx++[[]]) (hd++[0]) S,.int (tx.length:Int)):=by
 unfold br HG;rw[Zn ⟨rfl,rfl⟩];have a:e2 MY (eN bX (ab (aW 4 (aa 0)) af)) (Q3 8) [oc (Gg tx hd S M)]=Z (.fr,.bl B):=e2v (w6 (m:=.bo) L) L (by
  show Z (Md.fr,T.bl (decide ((8:Int)<=(tx.length:Int))))=_;rw[ZG (by omega)])
 have g:=DB (tx:=tx) (hd:=hd) (S:=S) (b:=M) (r:=[]) (e:=eC (.str [])) (v:=[]) L (by omega);have f:=Do (tx:=tx++[[]]) (hd:=hd) (S:=S) (b:=M) (r:=[]) (e:=Q3 0) (v:=0) L (by omega);have d:=dC (e:=e2 pJ (eN bX (ab (aW 4 (aa 0)) af)) (Q3 1)) (U:=[oc (Gg (tx++[[]]) (hd++[0]) S M)]) (t:=.int (tx.length:Int)) (e2v (w6 (m:=.bo) L) L (by
  show Z (Md.fr,T.int ((((tx++[[]]).length:Nat):Int)-1))=_;rw[Zo,Z7,show (((tx.length+1:Nat)):Int)-1=(tx.length:Int) by omega]))
 exact congrArg (λz:Option Out=>z.bind _) (sq (jO a L) (sq g (sq f d)))
def Ey{l:Vo}(a:i<l.length):bf [.lst l,.int (i:Int)]=Z (.fr,.non):=by
 refine E7 (U:=[pc (.lst l),Q0 (i:Int)]) L ?_;refine(vy (m:=.fr) (Bs (m:=.fr) (x:=B) ?_ (λ_=>?_) (λh=>by cases h))).trans rfl
 ·exact rZ (m:=.fr) (b:=M) L
 ·refine rZ (m:=.fr) (b:=M) (A7 (x:=(.fr,.int 0)) (y:=(.fr,.int (i:Int))) (z:=(.fr,.int (l.length:Int))) L L ?_ (ff (xv (x:=(.pu,.lst l)) L L) L) ?_)
  ·show Z (Md.fr,T.bl (decide ((0:Int)<=(i:Int))))=_;rw[decide_eq_true (by omega)]
  ·show Z (Md.fr,T.bl (decide ((i:Int)<(l.length:Int))))=_;rw[decide_eq_true (by omega)]
def uV{tx:List Tx}(a:i<tx.length):bf [.lst (tx.map .str),.int (i:Int)]=Z (.fr,.non):=Ey (by rw[Zx];exact a)
end
noncomputable def di(a:List Tx):Nat:=(a.map List.length).sum
theorem tM:∀a:List Tx,(a.map λt=>(t.length:Int)).sum=(di a:Int)
 |[]=>rfl
 |t :: a=>by
  rw[Zi,X6,tM a];unfold di;rw[Zi,X6];omega
def yT(a:List Tx)(b:a.length<=16777216):fQ [.lst (a.map .str)]=Z (.fr,.int (di a:Int)):=by
 refine fh (U:=[pc (.lst (a.map .str))]) L ?_;refine dC (ff (xv (r:=af) (dY (m:=.pu) T.str (λ(t:Tx)=>T.int (t.length:Int)) a L L b (λt d=>⟨[Q2 t,pc (.lst (a.map .str))],rfl,rfl⟩)) L) ?_);show (qi (a.map λ(t:Tx)=>T.int (t.length:Int))).bind _=_;rw[ints_map (λ(t:Tx)=>(t.length:Int)),Zp,tM]
section
def CA{hd:Vv}{i v:Nat}{e ev:Ex}{n:Md}{r:List (Vr)}(g:i<hd.length)(he:e (oc (Gg tx hd S b) :: r)=Z (n,.int (i:Int)))(a:ev (oc (Gg tx hd S b) :: r)=Z (.fr,.int (v:Int))) :
  eE 0 [.fld 5] e ev (oc (Gg tx hd S b) :: r)=Z (.nx (oc (Gg tx (hd.set i v) S b) :: r)):=by
 unfold eE;rw[a,Zp];show ((keys [.fld 5] (oc (Gg tx hd S b) :: r)).bind _)=_;have f:keys [.fld 5] (oc (Gg tx hd S b) :: r)=Z [.fld 5]:=rfl;rw[f,Zp,he,Zp];have d:pm (jv (n,.int (i:Int)) (.fr,.int (v:Int))) [.fld 5] (Gg tx hd S b)=Z (Gg tx (hd.set i v) S b,()):=by
  show ((jv (n,.int (i:Int)) (.fr,.int (v:Int)) (.lst (hd.map λ(n:Nat)=>T.int (n:Int)))).map _)=_;have:jv (n,.int (i:Int)) (.fr,.int (v:Int)) (.lst (hd.map λ(n:Nat)=>T.int (n:Int)))=Z (.lst ((hd.set i v).map λ(n:Nat)=>T.int (n:Int)),()):=by
   show ((Hw (hd.map λ(n:Nat)=>T.int (n:Int)).length (i:Int)).map _)=_;rw[Zx,yO g,W0];rfl
  rw[this];rfl
 rw[d];rfl
def BA{tx:List Tx}{n:Md}(h:i<tx.length)(he:e (oc (Gg tx hd S b) :: r)=Z (n,.int (i:Int)))(d:a (oc (Gg tx hd S b) :: r)=Z (.fr,.str v)) :
  eE 0 [.fld 4] e a (oc (Gg tx hd S b) :: r)=Z (.nx (oc (Gg (tx.set i v) hd S b) :: r)):=by
 unfold eE;rw[d,Zp];show ((keys [.fld 4] (oc (Gg tx hd S b) :: r)).bind _)=_;have g:keys [.fld 4] (oc (Gg tx hd S b) :: r)=Z [.fld 4]:=rfl;rw[g,Zp,he,Zp];have f:pm (jv (n,.int (i:Int)) (.fr,.str v)) [.fld 4] (Gg tx hd S b)=Z (Gg (tx.set i v) hd S b,()):=by
  show ((jv (n,.int (i:Int)) (.fr,.str v) (.lst (tx.map T.str))).map _)=_;have:jv (n,.int (i:Int)) (.fr,.str v) (.lst (tx.map T.str))=Z (.lst ((tx.set i v).map T.str),()):=by
   show ((Hw (tx.map T.str).length (i:Int)).map _)=_;rw[Zx,yO h,W0];rfl
  rw[this];rfl
 rw[f];rfl
def Ak{tx:List Tx}{hd:Vv}{i r:Nat}{w:Tx}(W:WF S)(G:hd.length=tx.length)(a:i<tx.length)(H:tx.length<=8)(F:di tx+w.length<=120)(q:S.lg.length+2*w.length<=100000)(p:hd.getD i 0<S.lg.length)(s:∀c∈w,97<=c/\c<=122)(E:(tx.getD i []).length<=120)(e:hg S (hd.getD i 0) w=Z (S',r)) :
  bp (Ks tx hd S) [.int (i:Int),.str w]=Z (Ks (tx.set i (tx.getD i []++w)) (hd.set i r) S',.non):=by
 obtain⟨D,C,A,g⟩:=Bw W q p s e;unfold bp HG;rw[Zn ⟨rfl,rfl⟩];have s1:sX (xP (bw bf (ab (aW 4 (aa 0)) (ab (aa 1) af)))) [oc (Gg tx hd S M),Q0 (i:Int),Q2 w]=Z (.nx [oc (Gg tx hd S M),Q0 (i:Int),Q2 w]):=by
  have:bw bf (ab (aW 4 (aa 0)) (ab (aa 1) af)) [oc (Gg tx hd S M),Q0 (i:Int),Q2 w]=Z (.fr,.non):=cO (xv (gp (m:=.bo) (t:=Gg tx hd S M) L (Ag tx hd S M)) (xv (x:=(.fr,.int (i:Int))) L L)) (uV a);show (((bw bf _ _).map _).map _)=_;rw[this];rfl
 have u:e2 MX (e2 da (bw fQ (ab (aW 4 (aa 0)) af)) (eN bX (ab (aa 2) af))) (Q3 120) [oc (Gg tx hd S M),Q0 (i:Int),Q2 w]=Z (.fr,.bl B) :=
  e2v (x:=(.fr,.int ((di tx:Int)+(w.length:Int)))) (e2v (cO (xv (r:=af) (gp (m:=.bo) (t:=Gg tx hd S M) L (Ag tx hd S M)) L) (yT tx (by omega))) (y:=(.fr,.int (w.length:Int))) L L) L (by
   show Z (Md.fr,T.bl (decide ((120:Int)<(di tx:Int)+(w.length:Int))))=_;rw[ZG (by omega)])
 have f:bz 0 [.fld 6] 0 [B,B] aR (ab (e2 aC (aW 5 (aa 0)) (aa 1)) (ab (aa 2) af)) [oc (Gg tx hd S M),Q0 (i:Int),Q2 w]=Z ((.fr,.int (r:Int)),[oc (Gg tx hd S' M),Q0 (i:Int),Q2 w]):=by
  show ((Z [Ky.fld 6]).bind λo=>(ab (e2 aC (aW 5 (aa 0)) (aa 1)) (ab (aa 2) af) [oc (Gg tx hd S M),Q0 (i:Int),Q2 w]).bind λd=>(pm (kN 0 [B,B] aR d) o (Gg tx hd S M)).map λz=>(z.2,[oc z.1,Q0 (i:Int),Q2 w]))=_;rw[Zp,xv (x:=(.fr,.int ((hd.getD i 0:Nat):Int))) (e2v (gp (m:=.bo) (t:=Gg tx hd S M) L (FC tx hd S M)) (y:=(.fr,.int (i:Int))) L (kI _ hd i 0 (by omega))) (xv (r:=af) (x:=(.fr,.str w)) L L),Zp];show (((if 1=0+1/\dA (II S)=M/\argsOk [B,B] [(Md.fr,T.int ((hd.getD i 0:Nat):Int)),(Md.fr,T.str w)]=M/\dz (trees [(Md.fr,T.int ((hd.getD i 0:Nat):Int)),(Md.fr,T.str w)])=M then (aR (II S) [.int ((hd.getD i 0:Nat):Int),.str w]).bind λz=>if dA z.1=M/\FZ z.2=M then Z (T.obj 1 ((0,.bl B) :: z.1),(Md.fr,z.2)) else Y else Y).map _).map _)=_;rw[Zn ⟨rfl,jC S,rfl,rfl⟩,g,Zp,Zn ⟨jC S',rfl⟩];rfl
 have l:je 0 [.fld 5] (aa 1) (bz 0 [.fld 6] 0 [B,B] aR (ab (e2 aC (aW 5 (aa 0)) (aa 1)) (ab (aa 2) af))) [oc (Gg tx hd S M),Q0 (i:Int),Q2 w]=Z (.nx [oc (Gg tx (hd.set i r) S' M),Q0 (i:Int),Q2 w]):=by
  unfold je;rw[f];exact CA (tx:=tx) (hd:=hd) (S:=S') (b:=M) (r:=[Q0 (i:Int),Q2 w]) (e:=aa 1) (ev:=λ_=>Z (.fr,.int (r:Int))) (i:=i) (v:=r) (n:=.fr) (by omega) L L
 have j:eE 0 [.fld 4] (aa 1) (e2 da (e2 aC (aW 4 (aa 0)) (aa 1)) (aa 2)) [oc (Gg tx (hd.set i r) S' M),Q0 (i:Int),Q2 w]=Z (.nx [oc (Gg (tx.set i (tx.getD i []++w)) (hd.set i r) S' M),Q0 (i:Int),Q2 w]) :=
  BA (n:=.fr) a L (e2v (gp (m:=.bo) (t:=Gg tx (hd.set i r) S' M) L (Ag tx (hd.set i r) S' M) |> λh=>e2v h (y:=(.fr,.int (i:Int))) L (kI T.str tx i [] a)) (y:=(.fr,.str w)) L (xM (by omega)))
 exact congrArg (λz:Option Out=>z.bind _) (sq s1 (sq (jO u L) (sq l j)))
end
def jH{α:Type}(l:List α)(x d:α):(l++[x]).getD l.length d=x:=(bM l x d l.length).trans (Zn L)
def ur{α:Type}(l:List α)(x y:α):(l++[x]).set l.length y=l++[y]:=by
 rw[List.set_append_right _ _ (Zl _),Nat.sub_self];rfl
def qH(a b:List Tx):di (a++b)=di a+di b:=by
 unfold di;rw[ZF,List.sum_append]
def BZ:∀(rest:List Tx){tx:List Tx}{hd:Vv}{S S':St}{B:T}{z:Vr},WF S->hd.length=tx.length->tx.length+rest.length<=8->di tx+di rest<=120->S.lg.length+2*di rest<=100000->(∀t∈rest,∀c∈t,97<=c/\c<=122)->mB S rest=Z S' →
  ∃j h,forL (bh 2) bx (rest.map .str) [oc (Gg tx hd S M),pc B,z]=Z (.nx [oc (Gg (tx++rest) j S' M),pc B,h]):=by
 intro rest
 induction rest with
 |nil =>
  intro tx hd S S' B z W a n l m f e;cases (show Z S=Z S' from e);exact⟨hd,z,by rw[ZE];rfl⟩
 |cons t rest s =>
  intro tx hd S S' B z W a n l m f e;obtain⟨⟨d,r⟩,e1,D⟩:=Zz.mp (show (hg S 0 t).bind _=Z S' from e);rw[ZX]at n;have C:di (t :: rest)=t.length+di rest:=by unfold di;rw[Zi,X6]
  rw[C]at l m;have A:hg S ((hd++[0]).getD tx.length 0) t=Z (d,r):=by rw[← a,jH];exact e1
  have o:=Bw W (by omega) W.pos (f t Zu) e1;have g:=Ak (tx:=tx++[[]]) (hd:=hd++[0]) (S:=S) (S':=d) (i:=tx.length) (r:=r) (w:=t) W (by rw[Zo,Zo,a];rfl) (by rw[Zo];exact Yz _) (by rw[Zo];show tx.length+1<=8;omega) (by rw[qH];show di tx+0+t.length<=120;omega) (by omega) (by rw[← a,jH];exact W.pos) (f t Zu) (by rw[jH];exact YT _) A;rw[jH,ur,Y1]at g;have y:(hd++[0]).set tx.length r=hd++[r]:=by rw[← a];exact ur hd 0 r
  rw[y]at g;have b:=xj (tx:=tx) (hd:=hd) (S:=S) (by omega) a;obtain⟨j,h,q⟩:=s (tx:=tx++[t]) (hd:=hd++[r]) (S:=d) (S':=S') (B:=B) (z:=Q2 t) o.1 (by rw[Zo,Zo,a];rfl) (by rw[Zo,Z7];omega) (by rw[qH];show di tx+(t.length+0)+di rest<=120;omega) (by have:=o.2.2.1;omega) (λu v=>f u (Zt _ v)) D;refine⟨j,h,?_⟩;rw[Zi];refine(g6 (U1:=[oc (Gg tx hd S M),pc B,Q2 t]) L ?_).trans (q.trans (by rw[Z4];rfl));have p:bz 0 [] 1 [] br af [oc (Gg tx hd S M),pc B,Q2 t]=Z ((.fr,.int (tx.length:Int)),[oc (Gg (tx++[[]]) (hd++[0]) S M),pc B,Q2 t]):=by
   show (((if 2=1+1/\dA (Ks tx hd S)=M/\argsOk [] []=M/\dz (trees [])=M then (br (Ks tx hd S) (trees [])).bind λz=>if dA z.1=M/\FZ z.2=M then Z (T.obj 2 ((0,.bl M) :: z.1),(Md.fr,z.2)) else Y else Y).map _))=_;rw[Zn ⟨rfl,jJ tx hd S,rfl,rfl⟩,show trees []=[] from rfl,b,Zp,Zn ⟨jJ _ _ _,rfl⟩];rfl
  have x2:oa 0 1 [false,false] bp (bz 0 [] 1 [] br af) (ab (aa 2) af) [oc (Gg tx hd S M),pc B,Q2 t]=Z ((.fr,.non),[oc (Gg (tx++[t]) (hd++[r]) d M),pc B,Q2 t]):=by
   unfold oa;rw[Zn (show CN 1 [oc (Gg tx hd S M),pc B,pc (T.str t)][0]?=M from rfl),p,Zp,Zn (show FZ (T.int (tx.length:Int))=M from rfl)];have ct:kN 1 [false,false] bp [(Md.fr,T.int (tx.length:Int)),(Md.fr,T.str t)] (Gg (tx++[[]]) (hd++[0]) S M)=Z (Gg (tx++[t]) (hd++[r]) d M,(Md.fr,T.non)):=by
    show (if 2=1+1/\dA (Ks (tx++[[]]) (hd++[0]) S)=M/\argsOk [false,false] [(Md.fr,T.int (tx.length:Int)),(Md.fr,T.str t)]=M/\dz (trees [(Md.fr,T.int (tx.length:Int)),(Md.fr,T.str t)])=M then (bp (Ks (tx++[[]]) (hd++[0]) S) (trees [(Md.fr,T.int (tx.length:Int)),(Md.fr,T.str t)])).bind λz=>if dA z.1=M/\FZ z.2=M then Z (T.obj 2 ((0,.bl M) :: z.1),(Md.fr,z.2)) else Y else Y)=_;rw[Zn ⟨rfl,jJ _ _ _,rfl,rfl⟩,show trees [(Md.fr,T.int (tx.length:Int)),(Md.fr,T.str t)]=[T.int (tx.length:Int),T.str t] from rfl,g,Zp,Zn ⟨jJ _ _ _,rfl⟩];rfl
   show ((kN 1 [false,false] bp [(Md.fr,T.int (tx.length:Int)),(Md.fr,T.str t)] (Gg (tx++[[]]) (hd++[0]) S M)).map _)=_;rw[ct];rfl
  unfold bx Nu;rw[x2];rfl
structure Jh(bk:List Tx):Prop where
 Jc:bk.length<=8
 sum:di bk<=120
 az:∀t∈bk,∀c∈t,97<=c/\c<=122
theorem Jh.Nq:∀{l:List Tx},t∈l->t.length<=di l
 |a :: l,h=>by
  have e:di (a :: l)=a.length+di l:=by unfold di;rw[Zi,X6]
  rw[e];rcases Zj.mp h with rfl | h
  ·omega
  ·have:=Jh.Nq h;omega
def Jh.len(h:Jh a):∀t∈a,t.length<1000:=λt b=>WG (Jh.Nq b) (WG h.sum (by decide))
def cR(a:List Tx):St:=(mB S0 a).getD S0
def fS(a:List Tx):Vv:=(GQ (cR a) 1000 [0] 0).getD []
def tabOf(bk:List Tx):List Row:=tab (cR bk) (fS bk)
theorem Jh.k{a:List Tx}(h:Jh a):mB S0 a=Z (cR a)/\∃nd b,K (Hd a) (cR a) nd b/\b.length<=241/\GQ (cR a) 1000 [0] 0=Z (fS a)/\(∀x,x∈fS a↔x<(cR a).lg.length)/\(fS a).length=b.length/\(fS a).idxOf 0=0/\(fS a).Nodup:=by
 obtain⟨S,nd,b,e,H,l⟩:=K.of a h.az h.len;have f:cR a=S:=by unfold cR;rw[e];rfl
 rw[f];have g:b.length<=241:=by
  have:=h.sum;unfold di at this;omega
 obtain⟨m,e2,d,e3,j⟩:=H.met (k:=1000) (by omega);have eM:fS a=0 :: m:=by unfold fS;rw[f,e2];rfl
 rw[eM];exact⟨e,nd,b,H,g,e2,λx=>by rw[e3,H.i.len],j,List.idxOf_cons_self,d⟩
def CS(h:Jh d):∃hd,aM [] [.lst (d.map .str)]=Z (Ks d hd (cR d),.non):=by
 obtain⟨e,_⟩:=h.k;have g:=h.sum;obtain⟨hd,z,q⟩:=BZ d (tx:=[]) (hd:=[]) (S:=S0) (S':=cR d) (B:=.lst (d.map .str)) (z:=Y) By L (by have:=h.Jc;simpa using this) (by show 0+di d<=120;omega) (by show 1+2*di d<=100000;omega) h.az e;rw[Y1]at q;refine⟨hd,?_⟩;unfold aM HG;rw[Zn ⟨rfl,rfl⟩];have f:=(gb (tg:=bh 2) (it:=dJ (aa 1)) (body:=bx) (U:=[oc (Gg [] [] S0 M),pc (.lst (d.map .str)),Y]) (m:=.pu) (l:=d.map .str) L L).trans q;have body:=(bB (a:=iq 0 4 (gO af)) (b:=aj (iq 0 5 (gO af)) (aj (iq 0 6 (eNew 0 cT af)) (G8 (fG (aa 1)) (jo (bh 2) (dJ (aa 1)) bx) eD))) (U:=[oc (.obj 2 [(0,.bl M)]),pc (.lst (d.map .str)),Y]) (U1:=[oc (.obj 2 [(0,.bl M),(4,.lst [])]),pc (.lst (d.map .str)),Y]) L).trans
  (sq (U1:=[oc (.obj 2 [(0,.bl M),(4,.lst []),(5,.lst [])]),pc (.lst (d.map .str)),Y]) L (sq (U1:=[oc (Gg [] [] S0 M),pc (.lst (d.map .str)),Y]) L (Mj (m:=.fr) L f)))
 exact congrArg (λz:Option Out=>z.bind _) body
def oU{bk:List Tx}(h:Jh bk){U:Env}{m:Md}(f:arg U=Z (m,.lst (bk.map .str))):dG 1 bu (eNew 1 aM (ab arg af)) af U=Z (.fr,Ge (tabOf bk)):=by
 obtain⟨hd,e⟩:=CS h;obtain⟨_,nd,n,H,l,e2,e3,o,_⟩:=h.k;have hlen:(cR bk).lg.length<=100001:=by rw[← H.i.len];omega
 have b:=Cj H.i.wf hlen (k:=1000) (by decide) e2 e3 (by omega);have d:eNew 1 aM (ab arg af) U=Z (.fr,Gg bk hd (cR bk) B):=by
  unfold eNew;rw[xv (r:=af) f L,Zp];have j:dz (trees [(m,T.lst (bk.map .str))])=M:=by
   show (dz (bk.map T.str)&&M)=M;rw[dX _ (λ_=>rfl)];rfl
  rw[Zn j,show trees [(m,T.lst (bk.map .str))]=[T.lst (bk.map .str)] from rfl,e,Zp,Zn ⟨jJ _ _ _,rfl⟩];rfl
 have a:bu [Gg bk hd (cR bk) B]=Z (.fr,Ge (tabOf bk)):=by
  refine fh (U:=[pc (Gg bk hd (cR bk) B)]) L (dC ?_);have g:aW 6 (aa 0) [pc (Gg bk hd (cR bk) B)]=Z (.pu,FW (cR bk) B):=gp (m:=.pu) (t:=Gg bk hd (cR bk) B) L (FN bk hd (cR bk) B);unfold dG;show ((aW 6 (aa 0) [pc (Gg bk hd (cR bk) B)]).bind _)=_;rw[g];show ((dc [FW (cR bk) B]).bind _)=_;rw[b];rfl
 show ((eNew 1 aM (ab arg af) U).bind _)=_;rw[d];show ((bu [Gg bk hd (cR bk) B]).bind _)=_;rw[a];rfl
end T12
end
section
namespace T12
open VS
theorem iK{β:Type}{tg:Tg}{body:Sx}(g:β->T)(Inv:List β->Env->Prop)(h:∀t r U,Inv (t :: r) U->∃e a,tg (g t) U=Z e/\body e=Z (.nx a)/\Inv r a):∀(l:List β)(U:Env),Inv l U->∃b,forL tg body (l.map g) U=Z (.nx b)/\Inv [] b
 |[],U,d=>⟨U,rfl,d⟩
 |t :: l,U,d=>by
  obtain⟨e,a,e1,e2,f⟩:=h t l U d;obtain⟨b,e3,i⟩:=iK g Inv h l a f;exact⟨b,(g6 e1 e2).trans e3,i⟩
noncomputable def cellAt(a:Vu)(k:Nat):Int:=a.getD k 0
def uX(a:Vu)(k:Nat):aN [.scr a,.int k]=Z (.fr,.int (cellAt a k)):=by
 by_cases h:k<a.length
 ·refine fh (U:=[pc (.scr a),Q0 k]) L (lA ((xG (m:=.fr) ?_).trans (dC (e2v (x:=(.fr,.scr a)) (y:=(.fr,.int k)) L L ?_))))
  ·refine e2v (x:=(.fr,.int k)) (y:=(.fr,.int (a.length:Int))) L L ?_;show Z (Md.fr,T.bl (decide ((k:Int)<(a.length:Int))))=_;rw[decide_eq_true (by omega)]
  ·rw[A8 a k (by omega) (by omega),YX];rfl
 ·refine fh (U:=[pc (.scr a),Q0 k]) L ((bB ((vy (m:=.fr) ?_).trans L)).trans (dC ?_))
  ·refine e2v (x:=(.fr,.int k)) (y:=(.fr,.int (a.length:Int))) L L ?_;show Z (Md.fr,T.bl (decide ((k:Int)<(a.length:Int))))=_;rw[ZG (by omega)]
  ·unfold cellAt;rw[Zv,ZD (by omega)];rfl
def ll{k:Nat}(b:aa 0 U=Z (m,.scr a))(h:e U=Z (.fr,.int (k:Int))):bw aN (ab (aa 0) (ab e af)) U=Z (.fr,.int (cellAt a k)):=cO (xv b (xv (r:=af) h L)) (uX a k)
def tH(c k:Int)(g:0<=k)(f:k<1000000):∃v,cK [.int c,.int k]=Z (.fr,.int v):=by
 have e:=Xh (c%2147483629+48271*k+11) (b:=2147483629) (by decide);have e1:=YC (c%2147483629+48271*k+11) (b:=2147483629) (by decide);generalize d:(c%2147483629+48271*k+11)%2147483629=n at e e1;have i:=Xh (n*n) (b:=2147483629) (by decide);have h:=YC (n*n) (b:=2147483629) (by decide);have s1:aI 2 (e2 oMod (e2 da (e2 da (e2 oMod (aa 0) (Q3 2147483629)) (e2 k8 (Q3 48271) (aa 1))) (Q3 11)) (Q3 2147483629)) [Q0 c,Q0 k,Y]=Z (.nx [Q0 c,Q0 k,Q0 n]):=by
  refine aG (m:=.fr) (e2v (e2v (e2v (e2v (x:=(.fr,.int c)) (y:=(.fr,.int 2147483629)) L L (fA (by decide))) (e2v (x:=(.fr,.int 48271)) (y:=(.fr,.int k)) L L (lH (by decide))) L) (y:=(.fr,.int 11)) L L) (y:=(.fr,.int 2147483629)) L ?_) (by decide) (by show 2<3;decide);rw[fA (by decide),d]
 have a:aI 2 (e2 da (e2 oMod (e2 k8 (aa 2) (aa 2)) (Q3 2147483629)) (e2 k8 (Q3 7919) (aa 1))) [Q0 c,Q0 k,Q0 n]=Z (.nx [Q0 c,Q0 k,Q0 (n*n%2147483629+7919*k)]) :=
  aG (m:=.fr) (e2v (e2v (e2v (x:=(.fr,.int n)) (y:=(.fr,.int n)) L L (lH (by omega))) (y:=(.fr,.int 2147483629)) L (fA (by decide))) (e2v (x:=(.fr,.int 7919)) (y:=(.fr,.int k)) L L (lH (by decide))) L) (by decide) (by show 2<3;decide)
 exact⟨_,fh (U:=[Q0 c,Q0 k,Q0 (n*n%2147483629+7919*k)]) L ((bB s1).trans ((bB a).trans (dC (e2v (e2v (x:=(.fr,.int (n*n%2147483629+7919*k))) (y:=(.fr,.int (n*n%2147483629+7919*k))) L L (lH (by omega))) (y:=(.fr,.int 2147483587)) L (fA (by decide))))))⟩
abbrev ET(d:Vu)(L:Tx)(b j c a:Int)(s:Vv)(z:Vr):Env:=[pc (.scr d),Q2 L,Q0 b,Q0 j,Q0 c,Q0 a,oc (.lst (s.map λx=>T.str [x])),z]
def wI{U:Env}{L:Tx}{e:Ex}{m:Md}{y:Int}(h:0<L.length)(a:aa 1 U=Z (m,.str L))(he:e U=Z (.fr,.int y)):∃x∈L,e2 aC (aa 1) (e2 oMod e (eN bX (ab (aa 1) af))) U=Z (.fr,.str [x]):=by
 have g:=Xh y (b:=(L.length:Int)) (by omega);have f:=YC y (b:=(L.length:Int)) (by omega);have d:(y%(L.length:Int)).toNat<L.length:=by omega
 refine⟨L.getD (y%(L.length:Int)).toNat 0,?_,e2v a (e2v he (ff (v:=(.fr,.int (L.length:Int))) (xv (r:=af) a rfl) rfl) (fA (by omega))) (C9 L _ g f)⟩;rw[Zv,Zq d];exact Yy d
def Bk{L:Tx}{b j c a:Int}{x:Nat}(h:e (ET d L b j c a s z)=Z (.fr,.str [x]))(f:s.length<1000):sX (lV 6 [] aB (ab e af)) (ET d L b j c a s z)=Z (.nx (ET d L b j c a (s++[x]) z)):=by
 rw[oY (i:=6) (l:=s.map λx=>T.str [x]) rfl h (by rw[Zx];omega)];show Z (Out.nx [pc (.scr d),Q2 L,Q0 b,Q0 j,Q0 c,Q0 a,oc (.lst (s.map (λx=>T.str [x])++[T.str [x]])),z])=Z (Out.nx [pc (.scr d),Q2 L,Q0 b,Q0 j,Q0 c,Q0 a,oc (.lst ((s++[x]).map λx=>T.str [x])),z]);rw[ZF];rfl
def yQ(d:Vu)(L:Tx)(b a:Int)(j:Nat)(G:j<=1000)(u:0<L.length)(J:L.length<1000)(n:Nat)(F:n<1000)(c:Int):∃f s z,forL (bh 7) eu ((List.range n).map λ(k:Nat)=>T.int (k:Int)) (ET d L b j c a [] Y)=Z (.nx (ET d L b j f a s z))/\s.length<=n/\∀x∈s,x∈L:=by
 obtain⟨H,e,f,s,z,rfl,o,l,_⟩:=iK (tg:=bh 7) (body:=eu) (λ(k:Nat)=>T.int (k:Int)) (λr U=>∃c s z,U=ET d L b j c a s z/\s.length+r.length<=n/\(∀x∈s,x∈L)/\∀k∈r,k<n) (by
  rintro k r _ ⟨c,s,z,rfl,o,l,w⟩;rw[ZX]at o;have i:=w k Zu;have C:∀U,aa 0 U=Z (Md.fr,T.scr d)->e2 oMod (bw aN (ab (aa 0) (ab (Q3 0) af))) (Q3 2) U=Z (.fr,.int (cellAt d 0%2)):=λU h=>e2v (ll (k:=0) h rfl) (y:=(.fr,.int 2)) rfl (fA (by decide));have A:e2 oEq (e2 oMod (bw aN (ab (aa 0) (ab (Q3 0) af))) (Q3 2)) (Q3 0) (ET d L b j c a s (Q0 k))=Z (.fr,.bl (cellAt d 0%2==0)):=by
   refine e2v (C _ rfl) (y:=(.fr,.int 0)) rfl (l8 rfl rfl ?_);simp only[eqT]
  have fin:∀(f:Int)(x:Nat),x∈L->∃c q z,ET d L b j f a (s++[x]) (Q0 k)=ET d L b j c a q z/\q.length+r.length<=n/\(∀x∈q,x∈L)/\∀k∈r,k<n:=λf x g=>⟨_,_,_,rfl,by rw[Zo,Z7];omega,λy D=>(ZW.mp D).elim (l y) (λh=>Zf.mp h ▸ g),λk i=>w k (Zt _ i)⟩
  by_cases p:cellAt d 0%2=0
  ·obtain⟨x,g,ex⟩:=wI (U:=ET d L b j c a s (Q0 k)) (e:=aa 4) (m:=.fr) (y:=c) u rfl rfl;refine⟨ET d L b j c a s (Q0 k),ET d L b j (c/(L.length:Int)) a (s++[x]) (Q0 k),rfl,(xG (A.trans (by rw[beq_iff_eq.mpr p]))).trans ((bB (Bk ex (by omega))).trans ?_),fin _ x g⟩;exact aG (m:=.fr) (t:=.int (c/(L.length:Int))) (e2v (x:=(.fr,.int c)) (y:=(.fr,.int (L.length:Int))) rfl rfl (iy (by omega))) (by decide) (by show 4<8;decide)
  ·obtain⟨v,E⟩:=tH c (30*(j:Int)+k) (by omega) (by omega);obtain⟨x,g,ex⟩:=wI (U:=ET d L b j c a s (Q0 k)) (e:=e2 cn (bw cK (ab (aa 4) (ab (e2 da (e2 k8 (Q3 30) (aa 3)) (aa 7)) af))) (Q3 7)) (m:=.fr) (y:=v/7) u rfl (e2v (cO (xv (x:=(.fr,.int c)) rfl (xv (r:=af) (e2v (e2v (x:=(.fr,.int 30)) (y:=(.fr,.int (j:Int))) rfl rfl (lH (by decide))) (y:=(.fr,.int (k:Int))) rfl rfl) rfl)) E) (y:=(.fr,.int 7)) rfl (iy (by decide)));exact⟨ET d L b j c a s (Q0 k),ET d L b j c a (s++[x]) (Q0 k),rfl,(vy (A.trans (by rw[ZJ.mpr p]))).trans (Bk ex (by omega)),fin _ x g⟩) (List.range n) (ET d L b j c a [] Y) ⟨c,[],Y,rfl,by rw[Z3];exact XT (Wg _),(λ_ h=>nomatch h),λk i=>Yc.mp i⟩
 exact⟨f,s,z,e,o,l⟩
def CP(d:Vu)(L:Tx)(a:Int)(j:Nat)(o:j<=1000)(l:0<L.length)(r:L.length<1000)(v:0<=a)(u:a<1000):∃t:Tx,dr [.scr d,.str L,.int a,.int j]=Z (.fr,.str t)/\t.length<=a.toNat/\∀x∈t,x∈L:=by
 generalize p:cellAt d (1+j)=c;have C:=Xh c (b:=a+1) (by omega);have A:=YC c (b:=a+1) (by omega);obtain⟨f,s,z,e,w,q⟩:=yQ d L a (c%(a+1)) j o l r (c%(a+1)).toNat (by omega) (c/(a+1));refine⟨s,?_,by omega,q⟩;have s1:aI 4 (bw aN (ab (aa 0) (ab (e2 da (Q3 1) (aa 3)) af))) [pc (.scr d),Q2 L,Q0 a,Q0 j,Y,Y,Y,Y]=Z (.nx [pc (.scr d),Q2 L,Q0 a,Q0 j,Q0 c,Y,Y,Y]):=by
  rw[← p];refine aG (m:=.fr) (ll (k:=1+j) rfl (e2v (x:=(.fr,.int 1)) (y:=(.fr,.int (j:Int))) rfl rfl ?_)) (by decide) (by show 4<8;decide);show Z (Md.fr,T.int (1+(j:Int)))=_;rw[show (1+(j:Int))=((1+j:Nat):Int) by omega]
 have i:aI 5 (e2 oMod (aa 4) (e2 da (aa 2) (Q3 1))) [pc (.scr d),Q2 L,Q0 a,Q0 j,Q0 c,Y,Y,Y]=Z (.nx [pc (.scr d),Q2 L,Q0 a,Q0 j,Q0 c,Q0 (c%(a+1)),Y,Y]):=aG (m:=.fr) (e2v (x:=(.fr,.int c)) (y:=(.fr,.int (a+1))) rfl rfl (fA (by omega))) (by decide) (by show 5<8;decide);have h:aI 4 (e2 cn (aa 4) (e2 da (aa 2) (Q3 1))) [pc (.scr d),Q2 L,Q0 a,Q0 j,Q0 c,Q0 (c%(a+1)),Y,Y]=Z (.nx [pc (.scr d),Q2 L,Q0 a,Q0 j,Q0 (c/(a+1)),Q0 (c%(a+1)),Y,Y]):=aG (m:=.fr) (e2v (x:=(.fr,.int c)) (y:=(.fr,.int (a+1))) rfl rfl (iy (by omega))) (by decide) (by show 4<8;decide);have g:jo (bh 7) (d8 (aa 5)) eu (ET d L a j (c/(a+1)) (c%(a+1)) [] Y)=Z (.nx (ET d L a j f (c%(a+1)) s z)):=by
  refine(gb (m:=.fr) ?_ rfl).trans e;rw[mQ (m:=.fr) (j:=c%(a+1)) rfl (by omega),qd]
 refine fh (U:=[pc (.scr d),Q2 L,Q0 a,Q0 j,Q0 f,Q0 (c%(a+1)),pc (.lst (s.map λx=>T.str [x])),z]) rfl ((bB s1).trans ((bB i).trans ((bB h).trans ((bB (U1:=ET d L a j (c/(a+1)) (c%(a+1)) [] Y) rfl).trans ((bB g).trans ((bB (U1:=[pc (.scr d),Q2 L,Q0 a,Q0 j,Q0 f,Q0 (c%(a+1)),pc (.lst (s.map λx=>T.str [x])),z]) rfl).trans (dC ?_)))))));have:=kD (m:=.fr) (n:=(up Md.pu (.lst (s.map λx=>T.str [x]))).1) (strs_map (λx=>[x]) s) (by rw[fz];omega);rw[fz]at this;exact this
abbrev EB(e:Vu)(d:Int)(L:Tx)(a b:Int):Env:=[pc (.scr e),Q0 d,Q2 L,Q0 a,Q0 b]
def oq(i:Vu)(L:Tx)(d b g:Int)(y:0<=d)(w:d<1000)(F:0<=b)(E:b<=8)(u:0<L.length)(A:L.length<1000)(z:∀c∈L,97<=c/\c<=122) :
  ∃bk:List Tx,cz 1 (bh 0) (d8 (aa 3)) Y (bw dr (ab (aa 1) (ab (aa 3) (ab (aa 5) (ab (aa 0) af))))) (EB i g L b d)=Z (.fr,.lst (bk.map .str))/\bk.length<=8/\bk.flatten.length<=b.toNat*d.toNat/\∀t∈bk,∀c∈t,97<=c/\c<=122:=by
 have ex:∀j:Nat,∃t:Tx,j<=1000->dr [.scr i,.str L,.int d,.int j]=Z (.fr,.str t)/\t.length<=d.toNat/\∀x∈t,x∈L:=λj=>by
  by_cases e:j<=1000
  ·obtain⟨t,h⟩:=CP i L d j e u A y w;exact⟨t,λ_=>h⟩
  ·exact⟨[],λh=>absurd h e⟩
 obtain⟨f,p⟩:=Classical.axiomOfChoice ex;have o:∀j∈List.range b.toNat,j<=1000:=λj e=>by
  have:=Yc.mp e;omega
 refine⟨(List.range b.toNat).map f,?_,by rw[Zx,Z3];omega,?_,λt s c v=>?_⟩
 ·rw[ZM];refine dY (m:=.fr) (λ(j:Nat)=>T.int (j:Int)) (λj=>T.str (f j)) (List.range b.toNat) ?_ rfl (by rw[Z3];omega) λj e=>⟨_,rfl,cO (xv (x:=(.fr,.scr i)) rfl (xv (x:=(.fr,.str L)) rfl (xv (x:=(.fr,.int d)) rfl (xv (x:=(.fr,.int (j:Int))) (r:=af) rfl rfl)))) (p j (o j e)).1⟩
  rw[mQ (m:=.fr) (j:=b) rfl (by omega),qd]
 ·generalize b.toNat=n at o ⊢;have:∀l:Vv,(∀j∈l,j<=1000)->(l.map f).flatten.length<=l.length*d.toNat:=by
   intro l
   induction l with
   |nil=>intro _;exact YT _
   |cons a l q =>
    intro h;have D:=q λj e=>h j (Zt _ e);have C:=(p a (h a Zu)).2.1;rw[Zi,ZI,Zo,ZX,Nat.succ_mul];omega
  have:=this (List.range n) o;rw[Z3]at this;exact this
 ·obtain⟨j,e,rfl⟩:=ZU.mp s;exact z c ((p j (o j e)).2.2 c v)
noncomputable def d0:List Tx:=[[97,98],[97,98,99],[97,98,99,100],[97,122],[97],[97,98,99,100,101,102,103,104,105,106,107,108,109,110,111,112,113,114,115,116,117,118,119,120,121,122]]
noncomputable def counts:Vu:=[1,2,3,4,2,1,0,8]
def qh:(∀k,k<6->0<(d0.getD k []).length/\(d0.getD k []).length<1000/\∀c∈d0.getD k [],97<=c/\c<=122)/\∀k,k<8->0<=counts.getD k 0/\counts.getD k 0<=8:=by decide
def zG{m n:Md}(c:Int)(b:0<=c)(a:c<=8):∃most:Int,aC (m,.lst [.int 24,.int 12,.int 8,.int 6]) (n,.int ((if 4<c then 4 else c)-1))=Z (.fr,.int most)/\0<=most/\most<=24/\c.toNat*most.toNat<=60:=by
 have:c=0\/c=1\/c=2\/c=3\/c=4\/4<c:=by omega
 rcases this with rfl | rfl | rfl | rfl | rfl | h
 ·exact⟨6,rfl,by decide,by decide,by decide⟩
 ·exact⟨24,rfl,by decide,by decide,by decide⟩
 ·exact⟨12,rfl,by decide,by decide,by decide⟩
 ·exact⟨8,rfl,by decide,by decide,by decide⟩
 ·exact⟨6,rfl,by decide,by decide,by decide⟩
 ·rw[Zn h];refine⟨6,rfl,by decide,by decide,?_⟩;show c.toNat*6<=60;omega
def CW(a:Vu):∃bk:List Tx,g0 [.scr a]=Z (.fr,.lst (bk.map .str))/\bk.length<=8/\bk.flatten.length<=120/\∀t∈bk,∀c∈t,97<=c/\c<=122:=by
 generalize R:cellAt a 0=cell;have a0:=Xh (cell/2) (b:=6) (by decide);have a1:=YC (cell/2) (b:=6) (by decide);have b0:=Xh (cell/12) (b:=8) (by decide);have b1:=YC (cell/12) (b:=8) (by decide);obtain⟨u,s,p⟩:=qh.1 (cell/2%6).toNat (by omega);obtain⟨f,l⟩:=qh.2 (cell/12%8).toNat (by omega);have li:=xm (m:=.fr) (n:=.fr) T.str d0 (cell/2%6) [] a0 (by show cell/2%6<6;exact a1) rfl;have ci:=xm (m:=.fr) (n:=.fr) T.int counts (cell/12%8) 0 b0 (by show cell/12%8<8;exact b1) rfl;have fd:∀(U:Env)(q:Int),0<q/\q<1073741824->aa 1 U=Z (Md.fr,T.int cell)->e2 cn (aa 1) (Q3 q) U=Z (.fr,.int (cell/q)):=λU q v h=>e2v h (y:=(.fr,.int q)) rfl (iy v);have A:∀(U:Env)(q r:Int),0<q/\q<1073741824->0<r->aa 1 U=Z (Md.fr,T.int cell)->e2 oMod (e2 cn (aa 1) (Q3 q)) (Q3 r) U=Z (.fr,.int (cell/q%r)):=λU q r v P h=>e2v (fd U q v h) (y:=(.fr,.int r)) rfl (fA P);generalize d0.getD (cell/2%6).toNat []=L at u s p li;generalize counts.getD (cell/12%8).toNat 0=count at f l ci;obtain⟨most,N,O,m1,m2⟩:=zG (m:=.fr) (n:=.fr) count f l;have s1:aI 1 (bw aN (ab (aa 0) (ab (Q3 0) af))) [pc (.scr a),Y,Y,Y,Y]=Z (.nx [pc (.scr a),Q0 cell,Y,Y,Y]):=by
  rw[← R];exact aG (m:=.fr) (ll (k:=0) rfl rfl) (by decide) (by show 1<5;decide)
 have J:e2 oMod (e2 cn (aa 1) (Q3 2)) (Q3 6) [pc (.scr a),Q0 cell,Y,Y,Y]=Z (.fr,.int (cell/2%6)):=A _ 2 6 (by decide) (by decide) rfl;have H:e2 oMod (e2 cn (aa 1) (Q3 12)) (Q3 8) [pc (.scr a),Q0 cell,Q2 L,Y,Y]=Z (.fr,.int (cell/12%8)):=A _ 12 8 (by decide) (by decide) rfl;have F:∀x,e2 oMod (e2 cn (aa 1) (Q3 96)) (Q3 8) (EB a cell L count x)=Z (.fr,.int (cell/96%8)):=λx=>A _ 96 8 (by decide) (by decide) rfl;have fin:∀(x:Int),0<=x->x<1000->count.toNat*x.toNat<=120->∃bk:List Tx,(aj (G8 (iC (e2 oEq (aa 3) (Q3 8)) (e2 IL (e2 oMod (e2 cn (aa 1) (Q3 96)) (Q3 8)) (Q3 5))) (aI 4 (Q3 3)) eD) (eI (cz 1 (bh 0) (d8 (aa 3)) Y (bw dr (ab (aa 1) (ab (aa 3) (ab (aa 5) (ab (aa 0) af)))))))) (EB a cell L count x)=Z (.rt (.fr,.lst (bk.map .str)) (EB a cell L count (if (count==8 && !(cell/96%8==5))=true then 3 else x)))/\bk.length<=8/\bk.flatten.length<=120/\∀t∈bk,∀c∈t,97<=c/\c<=122:=by
  intro x d C x2;have i:iC (e2 oEq (aa 3) (Q3 8)) (e2 IL (e2 oMod (e2 cn (aa 1) (Q3 96)) (Q3 8)) (Q3 5)) (EB a cell L count x)=Z (.fr,.bl (count==8 && !(cell/96%8==5))):=by
   refine Fu (m:=.fr) (n:=.fr) (e2v (x:=(.fr,.int count)) (y:=(.fr,.int 8)) rfl rfl (l8 rfl rfl ?_)) (e2v (F x) (y:=(.fr,.int 5)) rfl (lK rfl rfl ?_))
   ·simp only[eqT]
   ·simp only[eqT]
  cases hb:(count==8 && !(cell/96%8==5)) with
  |true =>
   rw[hb]at i;have c8:count=8:=beq_iff_eq.mp (Ze.mp hb).1;obtain⟨bk,e,z,E,w⟩:=oq a L 3 count cell (by decide) (by decide) f l u s p;exact⟨bk,(bB ((xG i).trans (show aI 4 (Q3 3) (EB a cell L count x)=Z (.nx (EB a cell L count 3)) from rfl))).trans (dC e),z,Z2 E (by rw[c8];decide),w⟩
  |false =>
   rw[hb]at i;obtain⟨bk,e,z,E,w⟩:=oq a L x count cell d C f l u s p;exact⟨bk,(bB ((vy i).trans rfl)).trans (dC e),z,by omega,w⟩
 have pre:∀rest:Sx,aj (aI 1 (bw aN (ab (aa 0) (ab (Q3 0) af)))) (aj (aI 2 (e2 aC (gO (ab (eC (.str [97,98])) (ab (eC (.str [97,98,99])) (ab (eC (.str [97,98,99,100])) (ab (eC (.str [97,122])) (ab (eC (.str [97])) (ab (eC (.str [97,98,99,100,101,102,103,104,105,106,107,108,109,110,111,112,113,114,115,116,117,118,119,120,121,122])) af))))))) (e2 oMod (e2 cn (aa 1) (Q3 2)) (Q3 6)))) (aj (aI 3 (e2 aC (gO (ab (Q3 1) (ab (Q3 2) (ab (Q3 3) (ab (Q3 4) (ab (Q3 2) (ab (Q3 1) (ab (Q3 0) (ab (Q3 8) af))))))))) (e2 oMod (e2 cn (aa 1) (Q3 12)) (Q3 8)))) (aj (aI 4 (e2 aC (gO (ab (Q3 24) (ab (Q3 12) (ab (Q3 8) (ab (Q3 6) af))))) (e2 pJ (eN rn (ab (aa 3) (ab (Q3 4) af))) (Q3 1)))) rest))) [pc (.scr a),Y,Y,Y,Y]=rest (EB a cell L count most):=λrest =>
  (bB s1).trans ((bB (aG (m:=.fr) (e2v (x:=(.fr,.lst (d0.map T.str))) rfl J li) (by decide) (by show 2<5;decide))).trans ((bB (aG (m:=.fr) (e2v (x:=(.fr,.lst (counts.map T.int))) rfl H ci) (by decide) (by show 3<5;decide))).trans (bB (aG (m:=.fr) (e2v (x:=(.fr,.lst [.int 24,.int 12,.int 8,.int 6])) rfl (y:=(.fr,.int ((if 4<count then 4 else count)-1))) rfl N) (by decide) (by show 4<5;decide)))))
 have j:e2 oEq (e2 oMod (e2 cn (aa 1) (Q3 96)) (Q3 8)) (Q3 5) (EB a cell L count most)=Z (.fr,.bl (cell/96%8==5)):=by
  refine e2v (F most) (y:=(.fr,.int 5)) rfl (l8 rfl rfl ?_);simp only[eqT]
 cases hb:(cell/96%8==5) with
 |true =>
  rw[hb]at j;generalize S:(60:Int)=Q;have o:(1:Int)<=(if count > 1 then count else 1)/\(if count > 1 then count else 1)<=8/\count<=(if count > 1 then count else 1):=by split<;>omega
  generalize X:(if count > 1 then count else 1)=M at o;have D:aI 4 (e2 cn (Q3 Q) (eN pZ (ab (Q3 1) (ab (aa 3) af)))) (EB a cell L count most)=Z (.nx (EB a cell L count (Q/M))):=by
   refine aG (m:=.fr) (e2v (x:=(.fr,.int Q)) rfl (y:=(.fr,.int M)) ?_ (iy (by omega))) (by decide) (by show 4<5;decide);rw[← X];rfl
  have d:0<=Q/M:=Int.ediv_nonneg (by omega) (by omega);have C:M*(Q/M)<=Q:=Int.mul_ediv_self_le (by omega);have x2:count*(Q/M)<=M*(Q/M):=Vy o.2.2 d;have x3:1*(Q/M)<=M*(Q/M):=Vy o.1 d;have G:count.toNat*(Q/M).toNat<=120:=by
   have:((count.toNat*(Q/M).toNat:Nat):Int)=count*(Q/M):=by rw[Int.natCast_mul,Int.toNat_of_nonneg f,Int.toNat_of_nonneg d]
   omega
  obtain⟨bk,e,g⟩:=fin (Q/M) d (by omega) G;rw[← S]at D e;exact⟨bk,fh rfl ((pre _).trans ((bB ((xG j).trans D)).trans e)),g⟩
 |false =>
  rw[hb]at j;obtain⟨bk,e,g⟩:=fin most O (by omega) (by omega);exact⟨bk,fh rfl ((pre _).trans ((bB ((vy j).trans rfl)).trans e)),g⟩
end T12
end
section
namespace AU
structure Xc(J τ:Nat->Nat):Prop where
 l:∀c,τ (J c)=c
 r:∀c,J (τ c)=c
 az:∀c,97<=c/\c<=122->97<=J c/\J c<=122
section
variable{τ:Nat->Nat}
def Xc.ml(X:Xc J τ)(x:Wd):(x.map J).map τ=x:=by
 rw[ZM]
 conv=>rhs;rw[← WR x]
 exact Yv λc _=>X.l c
def Xc.mr(X:Xc J τ)(x:Wd):(x.map τ).map J=x:=by
 rw[ZM]
 conv=>rhs;rw[← WR x]
 exact Yv λc _=>X.r c
def Xc.IS(X:Xc J τ){x y:Wd}:x.map τ <:+ y.map τ ↔ x <:+ y:=by
 refine⟨λh=>?_,λh=>h.map τ⟩;have:=h.map J
 rwa [X.mr,X.mr]at this
def Xc.JX(X:Xc J τ){y:Wd}:x <:+ y.map J↔x.map τ <:+ y:=by
 have:=X.IS (x:=x) (y:=y.map J);rw[X.ml]at this;exact this.symm
noncomputable def rW(J:Nat->Nat)(w:List (Nat×Nat)):List (Nat×Nat):=w.map λp=>(J p.1,p.2)
def rS(J:Nat->Nat)(S:St):St:=⟨S.lg,S.lk,S.wy.map (rW J)⟩
noncomputable def rD(J:Nat->Nat)(a:List Wd):List Wd:=a.map (·.map J)
noncomputable def rN(τ:Nat->Nat)(a:Wd->Option Nat)(x:Wd):Option Nat:=a (x.map τ)
theorem Xc.gW(X:Xc J τ):∀(w:List (Nat×Nat))(c:Nat),gW (rW J w) c=gW w (τ c)
 |[],_=>rfl
 |p :: w,c=>by
  have a:=X.gW w c;unfold AU.gW rW at *;rw[Zi,Z0,Z0];have e:((J p.1,p.2).1==c)=(p.1 == τ c):=by
   rw[XJ];simp only[beq_iff_eq];exact⟨λh=>by rw[← h,X.l],λh=>by rw[h,X.r]⟩
  rw[e];cases p.1 == τ c with
  |true=>rfl
  |false=>exact a
def nW(S:St)(n:Nat):(rS J S).wy.getD n []=rW J (S.wy.getD n []):=by
 show (S.wy.map (rW J)).getD n []=_;rw[Zv,Zv,ZZ];cases S.wy[n]? <;> rfl
def ny(a:List Wd)(n:Nat):W (rD J a) n=(W a n).map J:=by
 show (a.map (·.map J)).getD n []=(a.getD n []).map J;rw[Zv,Zv,ZZ];cases a[n]? <;> rfl
def I.Ny(X:Xc J τ)(H:I Y S f g):I Y (rS J S) (rN τ f) (rD J g):=by
 have L:(rD J g).length=g.length:=Zx _;refine⟨⟨H.wf.lk,(Zx _).trans H.wf.wy,H.wf.pos,H.wf.up,λi c n e=>?_,λw hw=>?_,λw hw p t=>?_⟩,L.trans H.len,λn d=>?_,H.z,?_,λ{x n} h=>?_,λ{x n} h=>?_,λ{n} d=>?_,λ{x y n} h a b=>?_,λ{x c n} h=>?_,λ{x y n} h a=>?_,H.LB,λ{n} A d u=>?_,λ{x n} h c=>?_⟩
 ·rw[nW,X.gW]at e;exact H.wf.on i _ n e
 ·obtain⟨v,j,rfl⟩:=ZU.mp hw;have:=H.wf.nd v j;unfold rW;rw[ZM,show ((λp:Nat×Nat=>p.1) ∘ λp:Nat×Nat=>(J p.1,p.2))=J ∘ (·.1) from rfl,← ZM];exact this.map J λa b O e=>O (by rw[← X.l a,← X.l b,e])
 ·obtain⟨v,j,rfl⟩:=ZU.mp hw;obtain⟨q,s,rfl⟩:=ZU.mp t;exact X.az _ (H.wf.az v j q s)
 ·rw[L]at d;rw[ny,Zx];exact H.lg n d
 ·rw[ny,H.wz];rfl
 ·rw[L];exact H.lt h
 ·rw[ny];exact X.JX.mpr (H.sf h)
 ·rw[L]at d;rw[ny];show f (((W g n).map J).map τ)=_;rw[X.ml];exact H.top d
 ·rw[ny]at b;exact H.iv h (a.map τ) (X.JX.mp b)
 ·have h:f ((x++[c]).map τ)=Z n:=h;rw[ZF]at h;exact H.pre h
 ·exact H.IS h (a.map τ)
 ·rw[L]at d;obtain⟨m,N,⟨G,F⟩,E,D,C⟩:=H.lk A d u;refine⟨m,N,⟨by rw[L];exact G,F⟩,?_,?_,λy r o=>?_⟩
  ·rw[ny,ny];exact E.map J
  ·rw[ny,ny,Zx,Zx];exact D
  ·rw[ny]at r o;rw[Zx]at o;exact C _ (X.JX.mp r) (by rw[Zx];exact o)
 ·rw[nW,X.gW,H.wy h];show f (x.map τ++[τ c])=f ((x++[c]).map τ);rw[ZF];rfl
theorem K.Ny(X:Xc J τ)(H:K (Hd b) S f e):K (Hd (b.map (·.map J))) (rS J S) (rN τ f) (rD J e):=by
 have hd:∀p,Hd (b.map (·.map J)) p↔Hd b (p.map τ):=λp=>by
  unfold Hd;refine⟨λh=>h.imp (λh=>by rw[h];rfl) λ⟨t,d,a⟩=>?_,λh=>h.imp (λh=>List.map_eq_nil_iff.mp h) λ⟨t,d,a⟩=>⟨t.map J,List.mem_map_of_mem d,?_⟩⟩
  ·obtain⟨u,j,rfl⟩:=ZU.mp d;refine⟨u,j,?_⟩;have:=a.map τ
   rwa [X.ml]at this
  ·have:=a.map J
   rwa [X.mr]at this
 have ex:∀{Q:Wd->Prop},(∃p,Hd b p/\Q p) ↔ ∃p,Hd (b.map (·.map J)) p/\Q (p.map τ):=λ{Q}=>⟨λ⟨p,h,q⟩=>⟨p.map J,(hd _).mpr (by rw[X.ml];exact h),by rw[X.ml];exact q⟩,λ⟨p,h,q⟩=>⟨p.map τ,(hd _).mp h,q⟩⟩
 refine⟨H.i.Ny X,(hd _).mpr H.nil,λx=>?_,λ{x y m n} h g=>?_⟩
 ·refine(H.some (x.map τ)).trans (ex.trans ?_);exact exists_congr λp=>and_congr_right λ_=>X.IS
 ·refine(H.eq h g).trans ⟨λq p a=>?_,λq p a=>?_⟩
  ·have:=q _ ((hd p).mp a)
   rwa [X.IS,X.IS]at this
  ·have:=q (p.map J) ((hd _).mpr (by rw[X.ml];exact a))
   rwa [X.JX,X.JX]at this
theorem qE:∀{a b:Vv},a.Pairwise (· < ·)->b.Pairwise (· < ·)->(∀x,x∈a↔x∈b)->a=b
 |[],[],_,_,_=>rfl
 |[],y :: b,_,_,h=>nomatch (h y).mpr Zu
 |x :: a,[],_,_,h=>nomatch (h x).mp Zu
 |x :: a,y :: b,p,q,h=>by
  have i:=XI.mp p;have f:=XI.mp q;have e:x=y:=by
   rcases Zj.mp ((h x).mp Zu) with e | e
   ·exact e
   ·rcases Zj.mp ((h y).mpr Zu) with g | g
    ·exact g.symm
    ·exact absurd (f.1 x e) (Nat.lt_asymm (i.1 y g))
  subst e;rw[qE i.2 f.2 λz=>⟨λd=>(Zj.mp ((h z).mp (Zt _ d))).resolve_left λe=>Yj _ (e ▸ i.1 z d),λd=>(Zj.mp ((h z).mpr (Zt _ d))).resolve_left λe=>Yj _ (e ▸ f.1 z d)⟩]
def pA(w:List (Nat×Nat)):(sk w).Pairwise (· < ·):=Wz _ (by decide)
def j3:c∈sk w↔(97<=c/\c<=122)/\(gW w c).isSome:=by
 unfold sk;rw[YU,Y7];constructor<;>intro h<;>refine⟨?_,h.2⟩<;>have:=h.1<;>omega
structure Ri(J:Nat->Nat)(S:St)(Uq:Nat->Prop):Prop where
 on:∀n c m,gW (S.wy.getD n []) c=some m->Uq c
 up:∀c d,Uq c->Uq d->c<d->J c<J d
def rR(J:Nat->Nat)(r:Row):Row:=(r.1,r.2.1,r.2.2.1,rW J r.2.2.2)
def sY(h:gW w c=Z m):(c,m)∈w:=by
 obtain⟨p,a,b⟩:=Zs.mp h;have:=List.find?_some a;have e:p.1=c:=by simpa using this
 rw[← e,← b];exact List.mem_of_find?_eq_some a
theorem Xc.sk(X:Xc J τ)(H:WF S)(n x:Nat):x∈sk (rW J (S.wy.getD n []))↔x∈(sk (S.wy.getD n [])).map J:=by
 rw[j3,ZU,X.gW];refine⟨λ⟨d,b⟩=>⟨τ x,j3.mpr ⟨?_,b⟩,X.r x⟩,λ⟨c,a,e⟩=>?_⟩
 ·obtain⟨m,e⟩:=Yk.mp b;exact(H.Lq n).2 _ (sY e)
 ·rw[← e,X.l];exact⟨X.az c (j3.mp a).1,(j3.mp a).2⟩
def Xc.Um(X:Xc J τ)(H:WF S)(n:Nat):(AU.sk (rW J (S.wy.getD n []))).length=(AU.sk (S.wy.getD n [])).length:=by
 have nd:∀w,(AU.sk w).Nodup:=λw=>(pA w).imp λh=>Zg h;have:=((YN (nd _) ((nd (S.wy.getD n [])).map J λa b d e=>d (by rw[← X.l a,← X.l b,e]))).mpr λx=>X.sk H n x).length_eq
 rwa [Zx]at this
theorem Ri.sk(R:Ri J S Uq)(X:Xc J τ)(H:WF S)(n:Nat):sk (rW J (S.wy.getD n []))=(sk (S.wy.getD n [])).map J:=by
 refine qE (pA _) ?_ λx=>X.sk H n x;rw[Xd];refine(pA (S.wy.getD n [])).imp_of_mem λ{a b} f hb h=>?_;obtain⟨m,e⟩:=Yk.mp (j3.mp f).2;obtain⟨d,g⟩:=Yk.mp (j3.mp hb).2;exact R.up a b (R.on n a m e) (R.on n b d g) h
theorem Xc.visit(X:Xc J τ)(w:List (Nat×Nat)):∀(r met:Vv),AU.visit (rW J w) (r.map J) met=AU.visit w r met
 |[],_=>rfl
 |c :: r,met=>by
  rw[Zi];unfold AU.visit;rw[X.gW,X.l];exact X.visit w r _
theorem Ri.GQ(R:Ri J S Uq)(X:Xc J τ)(H:WF S):∀(k:Nat)(met:Vv)(d:Nat),AU.GQ (rS J S) k met d=AU.GQ S k met d:=by
 intro k
 induction k with
 |zero=>intro met d;unfold AU.GQ;rfl
 |succ k a =>
  intro met d;unfold AU.GQ;by_cases h:d<met.length
  ·rw[Zn h,Zn h];show AU.GQ (rS J S) k (AU.visit ((rS J S).wy.getD (met.getD d 0) []) (AU.sk ((rS J S).wy.getD (met.getD d 0) [])) met) (d+1)=AU.GQ S k (AU.visit (S.wy.getD (met.getD d 0) []) (AU.sk (S.wy.getD (met.getD d 0) [])) met) (d+1);rw[nW,R.sk X H,X.visit,a]
  ·rw[Zm h,Zm h]
theorem Ri.row(R:Ri J S Uq)(X:Xc J τ)(H:WF S)(a:Vv)(n:Nat):AU.row (rS J S) a n=rR J (AU.row S a n):=by
 have st:AU.steps (rS J S) a n=rW J (AU.steps S a n):=by
  unfold AU.steps;rw[nW,R.sk X H];unfold rW;rw[ZM,ZM];refine Yv λc _=>?_;show (J c,a.idxOf ((AU.gW (rW J (S.wy.getD n [])) (J c)).getD 0))=_;rw[X.gW,X.l];rfl
 unfold AU.row;rw[st];show (match S.lk.getD n Y with | none=>_ | some l=>_)=_;cases S.lk.getD n Y<;>rfl
theorem Ri.tab(R:Ri J S Uq)(X:Xc J τ)(H:WF S)(a:Vv):AU.tab (rS J S) a=(AU.tab S a).map (rR J):=by
 unfold AU.tab;rw[ZM];exact Yv λn _=>R.row X H a n
end
end AU
end
section
namespace T12
open VS AU
noncomputable abbrev s1(c:Nat):T:=.str [c]
theorem jX:∀l:Vv,cL (l.map s1)=M
 |[]=>rfl
 |c :: l=>by
  show (FZ (T.str [c])&&cL (l.map s1))=M;rw[jX l];rfl
theorem nS:∀(l:Vv)(j:Nat),(l.map s1).eraseIdx j=(l.eraseIdx j).map s1
 |[],_=>rfl
 |_ :: _,0=>rfl
 |a :: l,j+1=>congrArg (s1 a :: ·) (nS l j)
def B5{U:Env}{l:Vv}{j:Nat}{m:Md}(d:U[i]?=Z (oc (.lst (l.map s1))))(b:c U=Z (m,.int (j:Int)))(a:j<l.length)(e:l.length<1000):rg i (ab c af) U=Z ((.fr,s1 (l.getD j 0)),U.set i (oc (.lst ((l.eraseIdx j).map s1)))):=by
 unfold rg;rw[d];show ((ab c af) U).bind _=_;rw[xv (r:=af) b L];show (if cL (l.map s1)=M/\0<=(j:Int)/\(j:Int)<((l.map s1).length:Nat)/\(j:Int)<4611686018427387904 then _ else Y)=_;rw[Zn ⟨jX l,by omega,by rw[Zx];omega,by omega⟩];have e1:(l.map s1).getD (j:Int).toNat .non=s1 (l.getD j 0):=by
  rw[show (j:Int).toNat=j by omega,Zv,Zv,ZZ,Zq a];rfl
 rw[e1,show (j:Int).toNat=j by omega,nS]
def BW{x:Xx}{U:Env}{l:Vv}{c:Nat}(f:U[n]?=Z (oc (.lst b)))(d:x U=Z ((.fr,s1 c),a))(e:a[n]?=Z (oc (.lst (l.map s1))))(g:l.length<1000):rh n x U=Z (.nx (a.set n (oc (.lst ((l++[c]).map s1))))):=by
 unfold rh;rw[f];show ((x U).bind _)=_;rw[d];show (match a[n]? with | some (some (Cell.ow t))=>_ | _=>none)=_;rw[e];show ((aB (.lst (l.map s1)) [(Md.fr,s1 c)]).map _)=_;rw[show aB (.lst (l.map s1)) [(Md.fr,s1 c)]=Z (.lst (l.map s1++[s1 c]),(.fr,.non)) from ?_,ZF]
 ·rfl
 ·show (if (l.map s1).length<dq then _ else Y)=_;rw[Zn (by rw[Zx];show l.length<16777216;omega)]
theorem mO:∀(l:Vv){j:Nat},j<l.length->(l.eraseIdx j++[l.getD j 0]).Perm l
 |[],_,h=>nomatch h
 |a :: l,0,_=>by
  show (l++[a]).Perm (a :: l);exact List.perm_append_singleton a l
 |a :: l,j+1,h=>by
  show (a :: (l.eraseIdx j++[l.getD j 0])).Perm (a :: l);exact(mO l (Nat.lt_of_succ_lt_succ h)).cons a
noncomputable abbrev AZ:Vv:=List.range' 97 26
def vE(a:Vu):∃L:Vv,de [.scr a]=Z (.fr,.lst (L.map s1))/\L.Perm AZ:=by
 obtain⟨w,e,left,other,z,rfl,d,f,_⟩:=iK (tg:=bh 3) (body:=gH) (λ(k:Nat)=>T.int (k:Int)) (λr U=>∃left other z,U=[pc (.scr a),oc (.lst (left.map s1)),oc (.lst (other.map s1)),z]/\(left++other).Perm AZ/\left.length=r.length/\∀k∈r,k<26) (by
  rintro k r _ ⟨left,other,z,rfl,d,f,i⟩;have ln:=d.length_eq;rw[Zo,Wq]at ln;have h:=i k Zu;rw[ZX]at f;obtain⟨v,o⟩:=tH (cellAt a 10) k (by omega) (by omega);have u:=Xh v (b:=(left.length:Int)) (by omega);have t:=YC v (b:=(left.length:Int)) (by omega);obtain⟨j,s⟩:∃j:Nat,v%(left.length:Int)=(j:Int):=⟨(v%(left.length:Int)).toNat,by omega⟩
  have g:j<left.length:=by omega
  refine⟨_,_,rfl,BW (l:=other) (c:=left.getD j 0) rfl (B5 (j:=j) (m:=.fr) (l:=left) rfl (e2v (cO (xv (ll (k:=10) rfl rfl) (xv (r:=af) (x:=(.fr,.int (k:Int))) rfl rfl)) o) (ff (v:=(.fr,.int (left.length:Int))) (xv (r:=af) rfl rfl) (by
   show Z (Md.fr,T.int (((left.map s1).length:Nat):Int))=_;rw[Zx])) ((fA (by omega)).trans (by rw[s]))) g (by omega)) rfl (by omega),left.eraseIdx j,other++[left.getD j 0],_,rfl,?_,?_,λx n=>i x (Zt _ n)⟩
  ·refine List.Perm.trans ?_ d;have p:=(mO left g).append_right other;refine List.Perm.trans ?_ p;rw[Z4];exact List.Perm.append_left _ List.perm_append_comm
  ·rw[List.length_eraseIdx_of_lt g];omega) (List.range 26) [pc (.scr a),oc (.lst (AZ.map s1)),oc (.lst (([]:Vv).map s1)),Y] ⟨AZ,[],Y,rfl,by rw[ZE],rfl,λk h=>Yc.mp h⟩
 have q:left=[]:=XH.mp f;subst q;refine⟨other,fh rfl (sq (U1:=[pc (.scr a),oc (.lst (AZ.map s1)),Y,Y]) rfl (sq (U1:=[pc (.scr a),oc (.lst (AZ.map s1)),oc (.lst (([]:Vv).map s1)),Y]) rfl (sq ((gb (m:=.fr) (l:=(List.range 26).map λ(k:Nat)=>T.int (k:Int)) rfl rfl).trans e) (sq rfl rfl)))),d⟩
def Bv{us rs:Vv}(s:us.Nodup)(t:rs.Nodup)(p:∀c∈us,c∈AZ)(D:∀c∈rs,c∈AZ)(G:us.length=rs.length):∃J τ,Xc J τ/\∀i,i<us.length->J (us.getD i 0)=rs.getD i 0:=by
 have full:∀{x:Vv},x.Nodup->(∀c∈x,c∈AZ)->(x++AZ.filter λc=>decide (c∉x)).Nodup/\(∀c,c∈(x++AZ.filter λc=>decide (c∉x))↔c∈AZ)/\(x++AZ.filter λc=>decide (c∉x)).length=26:=λ{x} nx C=>by
  have d:(x++AZ.filter λc=>decide (c∉x)).Nodup:=by
   refine ZQ.mpr ⟨nx,Wz _ Y6,λa j b hb e=>?_⟩;have:=(YU.mp hb).2;subst e;simp[j]at this
  have f:∀c,c∈(x++AZ.filter λc=>decide (c∉x))↔c∈AZ:=λc=>by
   rw[ZW,YU];by_cases h:c∈x
   ·simp only[h,true_or,true_iff];exact C c h
   ·simp[h]
  exact⟨d,f,((YN d Y6).mpr f).length_eq⟩
 obtain⟨d,f,F⟩:=full s p;obtain⟨n,l,E⟩:=full t D;have y:∀i,i<us.length->(us++AZ.filter λc=>decide (c∉us)).getD i 0=us.getD i 0:=λi h=>by
  rw[Zv,Zv,ZA h]
 have z:∀i,i<us.length->(rs++AZ.filter λc=>decide (c∉rs)).getD i 0=rs.getD i 0:=λi h=>by
  rw[Zv,Zv,ZA (by omega)]
 have ul:us.length<=(us++AZ.filter λc=>decide (c∉us)).length:=by rw[Zo];omega
 generalize us++AZ.filter (λc=>decide (c∉us))=u at *;generalize rs++AZ.filter (λc=>decide (c∉rs))=r at *;have m:∀{x:Vv}{i:Nat},i<x.length->x.getD i 0∈x:=λh=>AU.getD_mem h;have A:∀{x:Vv}{c:Nat},c∈x->x.getD (x.idxOf c) 0=c:=λ{x c} h=>by
  have:=Ye h;rw[Zv,Zq this,Yu,Xo this]
 have o:∀{x:Vv}{i:Nat},x.Nodup->i<x.length->x.idxOf (x.getD i 0)=i:=λ{x i} nd h=>by
  rw[Zv,Zq h];exact nd.idxOf_getElem i h
 have key:∀{a b:Vv},a.Nodup->b.Nodup->(∀c,c∈a↔c∈AZ)->(∀c,c∈b↔c∈AZ)->a.length=b.length->∀c,(λc=>if c∈AZ then a.getD (b.idxOf c) 0 else c) ((λc=>if c∈AZ then b.getD (a.idxOf c) 0 else c) c)=c:=λ{a b} na nb w v e c=>by
  by_cases h:c∈AZ
  ·have j:=(w c).mpr h;have g:=Ye j;have hb:a.idxOf c<b.length:=by omega
   have q:=m (x:=b) hb;simp only[h,if_true,(v _).mp q];rw[o nb hb,A j]
  ·simp only[h,if_false]
 refine⟨λc=>if c∈AZ then r.getD (u.idxOf c) 0 else c,λc=>if c∈AZ then u.getD (r.idxOf c) 0 else c,⟨key d n f l (by omega),key n d l f (by omega),λc H=>?_⟩,λi g=>?_⟩
 ·have h:c∈AZ:=Y7.mpr (by omega);have g:=Ye ((f c).mpr h);have q:=(l _).mp (m (x:=r) (i:=u.idxOf c) (by omega));have:=Y7.mp q;simp only[h,if_true];omega
 ·have q:us.getD i 0∈AZ:=p _ (m g);simp only[q,if_true];rw[← y i g,o d (by omega),z i g]
abbrev nm(ps:List (Nat×Nat)):List (T×T):=ps.map λp=>(s1 p.1,s1 p.2)
def Bm(a b:Nat):eqT (s1 a) (s1 b)=(a==b):=by
 simp only[eqT];rw[XJ];simp
theorem pB:∀(a acc:List (Nat×Nat)),((acc++a).map (·.1)).Nodup->(nm a).foldl (λd q=>dput d q.1 q.2) (nm acc)=nm (acc++a)
 |[],acc,_=>by rw[ZE];rfl
 |w :: a,acc,h=>by
  have g:w.1∉acc.map (·.1):=λz=>by
   rw[ZF,Zi]at h;exact(ZQ.mp h).2.2 w.1 z w.1 Zu L
  have e:dput (nm acc) (s1 w.1) (s1 w.2)=nm (acc++[w]):=by
   unfold dput;rw[Zm (by
    simp only[YF,not_exists,not_and];intro p f;obtain⟨q,b,rfl⟩:=ZU.mp f;rw[Bm,beq_iff_eq];intro z;exact g (ZU.mpr ⟨q,b,z⟩))]
   simp
  show (nm a).foldl _ (dput (nm acc) (s1 w.1) (s1 w.2))=_;rw[e,pB a (acc++[w]) (by rw[Z4];exact h),Z4];rfl
theorem xp:∀(a:List (Nat×Nat))(c:Nat),cS (nm a) (s1 c)=(gW a c).map s1
 |[],_=>rfl
 |p :: a,c=>by
  have b:=xp a c;unfold cS gW at *;show ((List.find? (λq=>eqT q.1 (s1 c)) ((s1 p.1,s1 p.2) :: nm a)).map _)=_;rw[Z0,Z0];show ((match eqT (s1 p.1) (s1 c) with | true=>_ | false=>_:Option (T×T)).map _)=_;rw[Bm];cases p.1==c with
  |true=>rfl
  |false=>exact b
theorem pb:∀l:Vv,strs? (l.map s1)=Z (l.map λc=>[c])
 |[]=>rfl
 |c :: l=>by
  show (strs? (l.map s1)).map _=_;rw[pb l];rfl
def wF(a b:Vv):((a.map λc=>[c]).map T.str).zip (b.map s1)=nm (a.zip b):=by
 rw[ZM,List.zip_map];rfl
theorem lT:∀{a b:Vv},a.Nodup->((a.zip b).map (·.1)).Nodup
 |[],_,_=>.nil
 |_ :: _,[],_=>.nil
 |u :: a,r :: b,h=>by
  have h:=Zd.mp h;refine Zd.mpr ⟨λz=>h.1 ?_,lT h.2⟩;obtain⟨p,d,e⟩:=ZU.mp z;have e:p.1=u:=e;rw[← e];exact(WZ d).1
def yG{m:Md}(b a:Vv)(h:b.Nodup):kf [(m,.str b),(n,.lst (a.map s1))]=Z (.fr,.dct 0 (nm (b.zip a))):=by
 show ((Z (b.map λc=>[c])).bind λe=>if cL (a.map s1) then Z (Md.fr,T.dct 0 (((e.map T.str).zip (a.map s1)).foldl (λd q=>dput d q.1 q.2) [])) else Y)=_;rw[Zp,Zn (jX a),wF];have:=pB (b.zip a) [] (by rw[Y1];exact lT h);exact congrArg (λz=>Z (Md.fr,T.dct 0 z)) this
def yB{m:Md}(b a:Vv)(h:b.Nodup):kf [(m,.lst (b.map s1)),(n,.lst (a.map s1))]=Z (.fr,.dct 0 (nm (b.zip a))):=by
 show ((strs? (b.map s1)).bind λe=>if cL (a.map s1) then Z (Md.fr,T.dct 0 (((e.map T.str).zip (a.map s1)).foldl (λd q=>dput d q.1 q.2) [])) else Y)=_;rw[pb,Zp,Zn (jX a),wF];have:=pB (b.zip a) [] (by rw[Y1];exact lT h);exact congrArg (λz=>Z (Md.fr,T.dct 0 z)) this
theorem wD:∀{a b:Vv}{i:Nat},a.Nodup->a.length=b.length->i<a.length->gW (a.zip b) (a.getD i 0)=Z (b.getD i 0)
 |[],_,_,_,_,h=>nomatch h
 |_ :: _,[],_,_,h,_=>nomatch h
 |u :: a,r :: b,0,_,_,_=>by
  unfold gW;rw[ZV,Z0];simp
 |u :: a,r :: b,i+1,h,g,j=>by
  have h:=Zd.mp h;have d:i<a.length:=Nat.lt_of_succ_lt_succ j;have f:=wD h.2 (WB g) d;have ne:(u==a.getD i 0)=B:=ZJ.mpr λe=>h.1 (e ▸ AU.getD_mem d);unfold gW at *;rw[ZV,Z0];show (match (u==a.getD i 0) with | true=>_ | false=>_:Option (Nat×Nat)).map _=_;rw[ne];exact f
def Nm(a:List (Nat×Nat))(J:Nat->Nat)(l:Vv):Prop:=∀c∈l,gW a c=Z (J c)
def xN{ps:List (Nat×Nat)}{J:Nat->Nat}{l:Vv}{c:Nat}{a b:Ex}{U:Env}{m n:Md}(N:Nm ps J l)(d:c∈l)(f:a U=Z (m,.dct 0 (nm ps)))(e:b U=Z (n,s1 c)):e2 GW a b U=Z (.fr,s1 (J c)):=by
 refine e2v f e ?_;show ((cS (nm ps) (s1 c)).map (sub m))=_;rw[xp,N c d];cases m<;>rfl
def sj(N:Nm a J t)(g:t.length<=1000):bL [.str t,.dct 0 (nm a)]=Z (.fr,.str (t.map J)):=by
 refine fh L (dC ?_);have e:=dY (k:=1) (tg:=bh 0) (it:=dJ (aa 0)) (elt:=e2 GW (aa 2) (aa 0)) (m:=.fr) (U:=[Q2 t,pc (.dct 0 (nm a))]) s1 (λc=>s1 (J c)) t L L (by omega) λc b=>⟨_,rfl,xN (m:=.pu) (n:=.fr) N b L L⟩
 have d:eM gf (eC (.str [])) (ab (cz 1 (bh 0) (dJ (aa 0)) Y (e2 GW (aa 2) (aa 0))) af) [Q2 t,pc (.dct 0 (nm a))]=gf (.fr,.str []) [(.fr,.lst ((t.map J).map s1))]:=by
  show ((Z (Md.fr,T.str [])).bind λo=>((ab (cz 1 (bh 0) (dJ (aa 0)) Y (e2 GW (aa 2) (aa 0))) af) [Q2 t,pc (.dct 0 (nm a))]).bind λf=>gf o f)=_;rw[xv (r:=af) e L,ZM];rfl
 refine d.trans ?_;have:=kD (m:=.fr) (n:=.fr) (strs_map (λx=>[x]) (t.map J)) (by rw[fz,Zx];omega);rw[fz]at this;exact this
def xn{ps:List (Nat×Nat)}{J:Nat->Nat}{bk:List Tx}(N:∀t∈bk,Nm ps J t)(g:bk.length<=8)(d:∀t∈bk,t.length<=1000){U:Env}(f:U[1]?=Z (pc (.lst (bk.map .str))))(e:U[4]?=Z (pc (.dct 0 (nm ps)))) :
  cz 1 (bh 0) (dJ (aa 1)) Y (bw bL (ab (aa 0) (ab (aa 5) af))) U=Z (.fr,.lst ((bk.map (·.map J)).map .str)):=by
 have b:aa 1 U=Z (.pu,.lst (bk.map .str)):=by
  unfold aa;rw[f];rfl
 have:=dY (k:=1) (tg:=bh 0) (it:=dJ (aa 1)) (elt:=bw bL (ab (aa 0) (ab (aa 5) af))) (m:=.pu) (U:=U) T.str (λt=>T.str (t.map J)) bk (vX b) (by rfl) (by omega) λt a=>⟨Q2 t :: U,rfl,cO (xv (x:=(.fr,.str t)) L (xv (r:=af) (x:=(.pu,.dct 0 (nm ps))) (by
  show aa 5 (Q2 t :: U)=_;unfold aa;rw[Xs,e];rfl) L)) (sj (N t a) (d t a))⟩
 rw[this,ZM];rfl
noncomputable abbrev Jv(p:Nat×Nat):T:=.tup [.str [p.1],.int (p.2:Int)]
section
noncomputable abbrev dE(a b:Nat->Nat)(q:Vv):List (T×T):=q.map λn=>(T.int (a n:Int),T.int (b n:Int))
noncomputable abbrev pE(a b:Nat->Nat)(q:Vv):Vo:=q.map λn=>T.tup [.int (a n:Int),.int (b n:Int)]
def yA(h:∀x∈q,a x=a m->x=m):cS (dE a b q) (.int (a m:Int))=if m∈q then Z (T.int (b m:Int)) else Y:=by
 induction q with
 |nil=>rfl
 |cons n q d =>
  have d:=d λx f=>h x (Zt _ f);unfold cS at *;show ((match eqT (T.int (a n:Int)) (T.int (a m:Int)) with | true=>some (T.int (a n:Int),T.int (b n:Int)) | false=>List.find? _ (dE a b q):Option (T×T)).map _)=_;rw[qq];by_cases e:n=m
  ·subst e;simp
  ·have:(a n==a m)=B:=ZJ.mpr λz=>e (h n Zu z);rw[this];refine d.trans ?_;by_cases g:m∈q
   ·rw[Zn g,Zn (Zt _ g)]
   ·rw[Zm g,Zm λz=>(Zj.mp z).elim (λz=>e z.symm) g]
def Fl(h:∀x∈q,a x=a m->x=m)(g:m∉q):dput (dE a b q) (.int (a m:Int)) (.int (b m:Int))=dE a b (q++[m]):=by
 unfold dput;rw[Zm]
 ·show _=List.map _ (q++[m]);rw[ZF];rfl
 ·intro z;obtain⟨p,f,e⟩:=YF.mp z;obtain⟨x,d,rfl⟩:=ZU.mp f;rw[qq,beq_iff_eq]at e;exact g (h x d e ▸ d)
def D8{U:Env}{x e:Ex}{k l:Md}(h:∀x∈q,a x=a m->x=m)(d:x U=Z (k,.dct 0 (dE a b q)))(he:e U=Z (l,.int (a m:Int))):e2 cA e x U=Z (.fr,.bl (decide (m∉q))):=e2v he d (by
 show (match (if M=M then Z (Md.fr,T.bl (cS (dE a b q) (.int (a m:Int))).isSome) else Y) with | some (_,.bl b)=>some (Md.fr,T.bl (!b)) | _=>none)=_;rw[Zn L,yA h];by_cases g:m∈q
 ·rw[Zn g,ZG (λz=>z g)];rfl
 ·rw[Zm g,decide_eq_true g];rfl)
def EJ{U:Env}{q:Vv}{m:Nat}{x e:Ex}{k l:Md}(h:∀x∈q,a x=a m->x=m)(d:m∈q)(f:x U=Z (k,.dct 0 (dE a b q)))(he:e U=Z (l,.int (a m:Int))):e2 GW x e U=Z (.fr,.int (b m:Int)):=e2v f he (by
 show (if M=M then (cS (dE a b q) (.int (a m:Int))).map (sub k) else Y)=_;rw[Zn L,yA h,Zn d];rfl)
abbrev EA(l n:T)(m:List (Nat×Nat))(a b:Nat->Nat)(q:Vv)(d h g:Nat)(j:List (Nat×Nat))(i f e:Vr):Env:=[pc l,pc n,pc (.dct 0 (nm m)),oc (.lst (pE a b q)),oc (.dct 0 (dE a b q)),Q0 (d:Int),Q0 (h:Int),Q0 (g:Int),pc (Gu j),i,f,e,Y]
theorem RN{tb ot:T}{ps ws w:List (Nat×Nat)}{d one two:Nat}{J:Nat->Nat}{N:Nat}(o:∀x y,x<N->y<N->a x=a y->x=y)(hw:∀c m,gW w c=Z m->m<N/\gW ps c=Z (J c)/\gW ws (J c)=Z (b m)):∀(r q:Vv)(p h f:Vr),(∀c∈r,∃m,gW w c=Z m)->(∀x∈q,x<N)->q.length+r.length<1000000 →
  ∃s u A,forL (jm [(bh 9),(bh 10)]) ic ((r.map λc=>(c,a ((gW w c).getD 0))).map Jv) (EA tb ot ps a b q d one two ws p h f)=Z (.nx (EA tb ot ps a b (visit w r q) d one two ws s u A))
 |[],q,p,h,f,_,_,_=>⟨p,h,f,rfl⟩
 |c :: r,q,p,h,f,E,F,R=>by
  obtain⟨m,e⟩:=E c Zu;obtain⟨H,JB,UW⟩:=hw c m e;rw[ZX]at R;have C:∀x∈q,a x=a m->x=m:=λx j=>o x m (F x j) H;have V1:∀U:Env,U[2]?=Z (pc (.dct 0 (nm ps)))->U[8]?=Z (pc (Gu ws))->U[9]?=Z (pc (s1 c))->e2 oP (aa 8) (e2 GW (aa 2) (aa 9)) U=Z (.fr,.int (b m:Int)):=λU h2 X S=>by
   have:=Bf (U:=U) (m:=.pu) (n:=.fr) (a:=aa 8) (e:=e2 GW (aa 2) (aa 9)) (w:=ws) (c:=J c) (by unfold aa;rw[X];rfl) (xN (ps:=ps) (J:=J) (l:=[c]) (c:=c) (m:=.pu) (n:=.fr) (λx j=>by rw[Zf.mp j];exact JB) Zu (by unfold aa;rw[h2];rfl) (by unfold aa;rw[S];rfl));rw[UW]at this;exact this
  have G:(jm [(bh 9),(bh 10)]) (Jv (c,a ((gW w c).getD 0))) (EA tb ot ps a b q d one two ws p h f)=Z (EA tb ot ps a b q d one two ws (pc (s1 c)) (Q0 (a m:Int)) f):=by
   rw[e];rfl
  have P:aI 11 (e2 oP (aa 8) (e2 GW (aa 2) (aa 9))) (EA tb ot ps a b q d one two ws (pc (s1 c)) (Q0 (a m:Int)) f)=Z (.nx (EA tb ot ps a b q d one two ws (pc (s1 c)) (Q0 (a m:Int)) (Q0 (b m:Int)))):=aG (m:=.fr) (V1 _ L L L) (by decide) (by show 11<13;decide);have gt:e3 qB (aa 4) (aa 10) (aa 11) (EA tb ot ps a b q d one two ws (pc (s1 c)) (Q0 (a m:Int)) (Q0 (b m:Int)))=Z (.fr,.int (b m:Int)):=by
   show (if gK (T.int (a m:Int))/\FZ (T.int (b m:Int)) then Z (match cS (dE a b q) (.int (a m:Int)) with | some t=>sub .bo t | none=>(.fr,.int (b m:Int))) else none)=_;rw[Zn ⟨rfl,rfl⟩,yA C];by_cases g:m∈q
   ·rw[Zn g];rfl
   ·rw[Zm g]
  have Q:(KR (uO (aa 11)) (e2 IL (e3 qB (aa 4) (aa 10) (aa 11)) (aa 11))) (EA tb ot ps a b q d one two ws (pc (s1 c)) (Q0 (a m:Int)) (Q0 (b m:Int)))=Z (.fr,.bl B):=by
   refine PY (m:=.fr) (n:=.fr) (x:=B) (y:=B) L (e2v gt (y:=(.fr,.int (b m:Int))) L (lK L L (r:=M) ?_));rw[qq];exact beq_self_eq_true _
  have ev:visit w (c :: r) q=visit w r (if m∈q then q else q++[m]):=by
   show visit w r (if (gW w c).getD 0∈q then q else q++[(gW w c).getD 0])=_;rw[e,Yu]
  have O:=D8 (U:=EA tb ot ps a b q d one two ws (pc (s1 c)) (Q0 (a m:Int)) (Q0 (b m:Int))) (x:=aa 4) (e:=aa 10) (k:=.bo) (l:=.fr) C L L;rw[Zi,Zi,ev];by_cases g:m∈q
  ·rw[Zn g];obtain⟨s,u,A,D⟩:=RN o hw r q (pc (s1 c)) (Q0 (a m:Int)) (Q0 (b m:Int)) (λx j=>E x (Zt _ j)) F (by omega);refine⟨s,u,A,(g6 G (sq P (sq (jO Q L) (jO (m:=.fr) (O.trans ?_) L)))).trans D⟩;rw[ZG λz=>z g]
  ·rw[Zm g];obtain⟨s,u,A,D⟩:=RN o hw r (q++[m]) (pc (s1 c)) (Q0 (a m:Int)) (Q0 (b m:Int)) (λx j=>E x (Zt _ j)) (λx j=>(ZW.mp j).elim (F x) λz=>by rw[Zf.mp z];exact H) (by rw[Zo,Z7];omega);refine⟨s,u,A,(g6 G (sq P (sq (jO Q L) (Mj (m:=.fr) (O.trans (by rw[decide_eq_true g])) (sq (U1:=[pc tb,pc ot,pc (.dct 0 (nm ps)),oc (.lst (pE a b q)),oc (.dct 0 (dE a b (q++[m]))),Q0 (d:Int),Q0 (one:Int),Q0 (two:Int),pc (Gu ws),pc (s1 c),Q0 (a m:Int),Q0 (b m:Int),Y]) ?_ ?_))))).trans D⟩
   ·unfold mh;show (if M=M/\M=M/\(dE a b q).length<dq then Z (Out.nx [pc tb,pc ot,pc (.dct 0 (nm ps)),oc (.lst (pE a b q)),oc (.dct 0 (dput (dE a b q) (.int (a m:Int)) (.int (b m:Int)))),Q0 (d:Int),Q0 (one:Int),Q0 (two:Int),pc (Gu ws),pc (s1 c),Q0 (a m:Int),Q0 (b m:Int),Y]) else Y)=_;rw[Zn ⟨rfl,rfl,by rw[Zx];show q.length<16777216;omega⟩,Fl C g]
   ·refine(oY (i:=3) (l:=pE a b q) (v:=.tup [.int (a m:Int),.int (b m:Int)]) L L (by rw[Zx];omega)).trans ?_;rw[show pE a b q++[T.tup [.int (a m:Int),.int (b m:Int)]]=pE a b (q++[m]) from by(show _=List.map _ (q++[m]));rw[ZF];rfl];rfl
end
noncomputable abbrev Gj(a:List (Nat×Nat)):List (T×T):=a.map λp=>(T.str [p.1],T.int (p.2:Int))
def DG(a:List (Nat×Nat)):pd (a.map Jv)=Z (Gj a):=by
 induction a with
 |nil=>rfl
 |cons w a b =>
  show (if gK (T.str [w.1])/\FZ (T.int (w.2:Int)) then (pd (a.map Jv)).map _ else Y)=_;rw[Zn ⟨rfl,rfl⟩,b];rfl
theorem qx:∀(a acc:List (Nat×Nat)),((acc++a).map (·.1)).Nodup->(Gj a).foldl (λd q=>dput d q.1 q.2) (Gj acc)=Gj (acc++a)
 |[],acc,_=>by rw[ZE];rfl
 |w :: a,acc,h=>by
  have g:w.1∉acc.map (·.1):=λz=>by
   rw[ZF,Zi]at h;exact(ZQ.mp h).2.2 w.1 z w.1 Zu L
  have e:dput (Gj acc) (T.str [w.1]) (T.int (w.2:Int))=Gj (acc++[w]):=by
   unfold dput;rw[Zm (by
    simp only[YF,not_exists,not_and];intro p f;obtain⟨q,b,rfl⟩:=ZU.mp f;simp only[eqT,beq_iff_eq,List.cons.injEq,and_true];intro z;exact g (ZU.mpr ⟨q,b,z⟩))]
   simp[Gj]
  show (Gj a).foldl _ (dput (Gj acc) (T.str [w.1]) (T.int (w.2:Int)))=_;rw[e,qx a (acc++[w]) (by rw[Z4];exact h),Z4];rfl
def xJ(w:List (Nat×Nat)):(sk w).Nodup:=by
 unfold sk;exact List.Nodup.sublist List.filter_sublist (by decide)
def sP(S:St)(M:Vv)(n:Nat):(steps S M n).map (·.1)=sk (S.wy.getD n []):=by
 unfold steps;rw[ZM];exact List.map_id' _
def Fz{m:Md}(S:St)(M:Vv)(n:Nat):nc [(m,G7 (steps S M n))]=Z (.fr,.dct 0 (Gj (steps S M n))):=by
 show (pd ((steps S M n).map Jv)).map _=_;rw[DG,Option.map_some];have:=qx (steps S M n) [] (by rw[Y1,sP];exact xJ _);rw[Y1]at this;exact congrArg (λz=>Z (Md.fr,T.dct 0 z)) this
def yH(S:St)(M:Vv)(n c:Nat)(e:97<=c/\c<=122):gW (steps S M n) c=(gW (S.wy.getD n []) c).map λm=>M.idxOf m:=by
 have key:∀l:Vv,gW (l.map λc=>(c,M.idxOf ((gW (S.wy.getD n []) c).getD 0))) c=if c∈l then Z (M.idxOf ((gW (S.wy.getD n []) c).getD 0)) else Y:=by
  intro l
  induction l with
  |nil=>rfl
  |cons a l b =>
   unfold gW at b ⊢;rw[Zi,Z0];by_cases h:a=c
   ·subst h;simp
   ·have:(a==c)=B:=by simpa using h
    rw[this];show (List.map _ l |>.find? _).map _=_;rw[b];simp[YR h]
 unfold steps;rw[key];cases hg:gW (S.wy.getD n []) c with
 |none =>
  rw[Zm λz=>by
   obtain⟨m,d⟩:=fe z;rw[hg]at d;cases d]
  rfl
 |some m =>
  rw[Zn (by
   unfold sk;refine YU.mpr ⟨Y7.mpr (by omega),by rw[hg];rfl⟩)]
  rfl
def j5(S:St)(M:Vv)(n:Nat):(row S M n).2.2.2=steps S M n:=by
 unfold row;split<;>rfl
def BE{a:Ex}{m n:Md}{i j:Int}(e:a U=Z (m,.int i))(d:b U=Z (n,.int j))(l:-4611686018427387904<=i)(h:i<4611686018427387904)(g:-4611686018427387904<=j)(f:j<4611686018427387904):jP a b U=Z (.fr,rng i (j-i).toNat):=by
 unfold jP;rw[e,Zp,d,Zp];exact Zn ⟨⟨l,h⟩,g,f⟩
def o6{S:St}{M:Vv}(h:∀x,x∈M↔x<S.lg.length){m:Nat}(e:m<S.lg.length){a b:Ex}{U:Env}{n:Md}(g:a U=Z (.pu,Ge (tab S M)))(f:b U=Z (n,.int (M.idxOf m:Int))):e2 aC a b U=Z (.fr,dM (row S M m)):=by
 refine e2v g f ?_;have d:M.idxOf m<M.length:=List.idxOf_lt_length_iff.mpr ((h m).mpr e);unfold Ge tab;rw[ZM,kI (dM ∘ row S M) M (M.idxOf m) 0 d,Zv,Zq d];show Z (up .pu (dM (row S M M[M.idxOf m])))=_;rw[show M[M.idxOf m]=m from Xo _];unfold up;rw[uC];rfl
def CM{M:Vv}{n:Nat}(h:a U=Z (.fr,dM (row S M n))):e2 aC a (Q3 3) U=Z (.fr,G7 (steps S M n)):=e2v h (y:=(.fr,.int 3)) L (by
 rw[← j5];show Z (up .fr (G7 _))=_;unfold up;rw[iB];rfl)
def EX{M:Vv}{n:Nat}{a:Ex}{U:Env}(h:a U=Z (.fr,dM (row S M n))):e2 aC a (Q3 2) U=Z (.fr,Gp (row S M n).2.2.1):=e2v h (y:=(.fr,.int 2)) L (by
 show Z (up .fr (Gp _))=_;cases (row S M n).2.2.1<;>rfl)
def Nt{r:Row}(h:a U=Z (m,dM r)):nK a 2 U=Z (.fr,.tup [.int (r.1:Int),.int (r.2.1:Int)]):=by
 unfold nK;rw[h];rfl
def xW(S:St)(M:Vv)(n:Nat):(row S M n).2.2.1=(S.lk.getD n Y).map M.idxOf:=by
 unfold row;split<;>rename_i h<;>rw[h]<;>rfl
section
variable{S S':St}{M M':Vv}{J τ f:Nat->Nat}(F:IK (rS J S) S' f)(X:Xc J τ)(WS:WF S)(hM:∀x,x∈M↔x<S.lg.length)(MG:∀x,x∈M'↔x<S'.lg.length)
include F WS
theorem Bh{n:Nat}(a:n<S.lg.length):(row S' M' (f n)).1=(row S M n).1/\(row S' M' (f n)).2.1=(row S M n).2.1/\(row S' M' (f n)).2.2.1=(S.lk.getD n Y).map λl=>M'.idxOf (f l):=by
 refine⟨?_,?_,?_⟩
 ·unfold row;rw[show S'.lk.getD (f n) Y=(S.lk.getD n Y).map f from F.lk a];cases e:S.lk.getD n Y with
  |none=>rfl
  |some l=>exact congrArg (·+1) (F.lg (WS.up n l e))
 ·unfold row;rw[show S'.lk.getD (f n) Y=(S.lk.getD n Y).map f from F.lk a];cases e:S.lk.getD n Y with
  |none=>rfl
  |some l=>exact F.lg a
 ·rw[xW,show S'.lk.getD (f n) Y=(S.lk.getD n Y).map f from F.lk a,Option.map_map];rfl
include X
theorem Eu(a:n<S.lg.length)(e:gW (S.wy.getD n []) c=Z m):gW (steps S' M' (f n)) (J c)=Z (M'.idxOf (f m)):=by
 have az:=(WS.Lq n).2 _ (sY e);rw[yH _ _ _ _ (X.az c az),F.wy a,nW,X.gW,X.l,e];rfl
theorem EE(b:n<S.lg.length):(steps S' M' (f n)).length=(steps S M n).length:=by
 have a:∀(S:St)(M:Vv) n,(steps S M n).length=(sk (S.wy.getD n [])).length:=λS M n=>Zx _;rw[a,a,F.sk b,nW,X.Um WS n]
include hM MG
theorem al2{ps:List (Nat×Nat)}{q:Vv}{d:Nat}{z6 z7 z8 z9 z10 z11:Vr}(U:∀n c m,gW (S.wy.getD n []) c=Z m->gW ps c=Z (J c))(u:∀x∈q,x<S.lg.length)(z:d<q.length)(hl:q.length<=100000) :
  ∃E D C j p s,fR [pc (Ge (tab S M)),pc (Ge (tab S' M')),pc (.dct 0 (nm ps)),oc (.lst (pE M.idxOf (λn=>M'.idxOf (f n)) q)),oc (.dct 0 (dE M.idxOf (λn=>M'.idxOf (f n)) q)),Q0 (d:Int),z6,z7,z8,z9,z10,z11,Y] =
   Z (.nx [pc (Ge (tab S M)),pc (Ge (tab S' M')),pc (.dct 0 (nm ps)),oc (.lst (pE M.idxOf (λn=>M'.idxOf (f n)) (visit (S.wy.getD (q.getD d 0) []) (sk (S.wy.getD (q.getD d 0) [])) q))),oc (.dct 0 (dE M.idxOf (λn=>M'.idxOf (f n)) (visit (S.wy.getD (q.getD d 0) []) (sk (S.wy.getD (q.getD d 0) [])) q))),Q0 ((d+1:Nat):Int),E,D,C,j,p,s,Y]):=by
 have i:=u _ (AU.getD_mem z);have sl:=lW (S.wy.getD (q.getD d 0) []);have inj:∀x y,x<S.lg.length->y<S.lg.length->M.idxOf x=M.idxOf y->x=y:=λx y O H e=>by
  have A:∀{c:Nat},c∈M->M.getD (M.idxOf c) 0=c:=λ{c} h=>by
   have:=Ye h;rw[Zv,Zq this,Yu,Xo this]
  rw[← A ((hM x).mpr O),← A ((hM y).mpr H),e]
 obtain⟨j,p,s,G⟩:=RN (a:=M.idxOf) (b:=λn=>M'.idxOf (f n)) (tb:=Ge (tab S M)) (ot:=Ge (tab S' M')) (ps:=ps) (ws:=steps S' M' (f (q.getD d 0))) (w:=S.wy.getD (q.getD d 0) []) (d:=d) (one:=M.idxOf (q.getD d 0)) (two:=M'.idxOf (f (q.getD d 0))) (J:=J) (N:=S.lg.length) inj (λc m e=>⟨WS.on _ c m e,U _ c m e,Eu F X WS i e⟩) (sk (S.wy.getD (q.getD d 0) [])) q z9 z10 z11 (λc P=>fe P) u (by omega);have o:∀(g:List (Vr)),e2 aC (aa 0) (aa 6) ([pc (Ge (tab S M)),pc (Ge (tab S' M')),pc (.dct 0 (nm ps)),oc (.lst (pE M.idxOf (λn=>M'.idxOf (f n)) q)),oc (.dct 0 (dE M.idxOf (λn=>M'.idxOf (f n)) q)),Q0 (d:Int),Q0 (M.idxOf (q.getD d 0):Int),Q0 (M'.idxOf (f (q.getD d 0)):Int)]++g)=Z (.fr,dM (row S M (q.getD d 0))):=λg=>o6 hM i L (n:=.fr) L;have r1:∀(g:List (Vr)),e2 aC (aa 1) (aa 7) ([pc (Ge (tab S M)),pc (Ge (tab S' M')),pc (.dct 0 (nm ps)),oc (.lst (pE M.idxOf (λn=>M'.idxOf (f n)) q)),oc (.dct 0 (dE M.idxOf (λn=>M'.idxOf (f n)) q)),Q0 (d:Int),Q0 (M.idxOf (q.getD d 0):Int),Q0 (M'.idxOf (f (q.getD d 0)):Int)]++g)=Z (.fr,dM (row S' M' (f (q.getD d 0)))):=λg=>o6 MG (F.lt i) L (n:=.fr) L;obtain⟨R,Q,_⟩:=Bh (M:=M) (M':=M') F WS i;refine⟨Q0 (M.idxOf (q.getD d 0):Int),Q0 (M'.idxOf (f (q.getD d 0)):Int),pc (Gu (steps S' M' (f (q.getD d 0)))),j,p,s,?_⟩;refine sq (U1:=[pc (Ge (tab S M)),pc (Ge (tab S' M')),pc (.dct 0 (nm ps)),oc (.lst (pE M.idxOf (λn=>M'.idxOf (f n)) q)),oc (.dct 0 (dE M.idxOf (λn=>M'.idxOf (f n)) q)),Q0 (d:Int),Q0 (M.idxOf (q.getD d 0):Int),Q0 (M'.idxOf (f (q.getD d 0)):Int),z8,z9,z10,z11,Y]) ?_ ?_
 ·have ix:e2 aC (aa 3) (aa 5) [pc (Ge (tab S M)),pc (Ge (tab S' M')),pc (.dct 0 (nm ps)),oc (.lst (pE M.idxOf (λn=>M'.idxOf (f n)) q)),oc (.dct 0 (dE M.idxOf (λn=>M'.idxOf (f n)) q)),Q0 (d:Int),z6,z7,z8,z9,z10,z11,Y]=Z (.fr,.tup [.int (M.idxOf (q.getD d 0):Int),.int (M'.idxOf (f (q.getD d 0)):Int)]):=e2v (x:=(.bo,.lst (pE M.idxOf (λn=>M'.idxOf (f n)) q))) (y:=(.fr,.int (d:Int))) L L (kI (λn=>T.tup [.int (M.idxOf n:Int),.int (M'.idxOf (f n):Int)]) q d 0 z);unfold xR;rw[ix];rfl
 refine sq (aG (m:=.fr) (ff (xv (r:=af) (CM (r1 _)) L) (Fz _ _ _)) (by decide) (by show 8<13;decide)) ?_;refine sq (jO (m:=.fr) (PY (m:=.fr) (n:=.fr) (x:=B) (y:=B) (e2v (Nt (o _)) (Nt (r1 _)) (lK L L (r:=true) ?_)) (e2v (ff (v:=(.fr,.int ((steps S' M' (f (q.getD d 0))).length:Int))) (xv (r:=af) (x:=(.pu,.dct 0 (Gj (steps S' M' (f (q.getD d 0)))))) L L) ?_) (ff (v:=(.fr,.int ((steps S M (q.getD d 0)).length:Int))) (xv (r:=af) (CM (o _)) L) ?_) (lK L L (r:=true) ?_))) L) ?_
 ·rw[R,Q];show ((((row S M (q.getD d 0)).1:Int)==_)&&((((row S M (q.getD d 0)).2.1:Int)==_)&&true))=true;simp
 ·show Z (Md.fr,T.int (((Gj (steps S' M' (f (q.getD d 0)))).length:Nat):Int))=_;rw[Zx]
 ·show Z (Md.fr,T.int ((((steps S M (q.getD d 0)).map Jv).length:Nat):Int))=_;rw[Zx]
 ·rw[EE F X WS i,qq];exact beq_self_eq_true _
 refine sq ((gb (m:=.fr) (l:=(steps S M (q.getD d 0)).map Jv) ?_ L).trans G) ?_
 ·exact congrArg (·.bind uK) (CM (o [pc (Gu (steps S' M' (f (q.getD d 0)))),z9,z10,z11,Y]))
 ·exact aG (m:=.fr) (t:=.int (((d+1:Nat)):Int)) L (by decide) (by show 5<13;decide)
theorem alw(H:∀n c m,gW (S.wy.getD n []) c=some m->gW a c=some (J c))(C:S.lg.length<=100000):∀(k:Nat)(q:Vv)(d:Nat)(Z:Vv),q.Nodup->(∀x∈q,x<S.lg.length)->GQ S k q d=some Z->∀N,k<N->∀z6 z7 z8 z9 z10 z11:Vr,∃p o l j i r s,
  dZ (e2 oLt (aa 5) (eN bX (ab (aa 3) af))) fR N [pc (Ge (tab S M)),pc (Ge (tab S' M')),pc (.dct 0 (nm a)),oc (.lst (pE M.idxOf (λn=>M'.idxOf (f n)) q)),oc (.dct 0 (dE M.idxOf (λn=>M'.idxOf (f n)) q)),Q0 ((d:Nat):Int),z6,z7,z8,z9,z10,z11,Y] =
   some (.nx [pc (Ge (tab S M)),pc (Ge (tab S' M')),pc (.dct 0 (nm a)),oc (.lst (pE M.idxOf (λn=>M'.idxOf (f n)) Z)),oc (.dct 0 (dE M.idxOf (λn=>M'.idxOf (f n)) Z)),pc p,o,l,j,i,r,s,Y]):=by
 have cond:∀(q:Vv)(d:Nat)(t:List (Vr)),e2 oLt (aa 5) (eN bX (ab (aa 3) af)) ([pc (Ge (tab S M)),pc (Ge (tab S' M')),pc (.dct 0 (nm a)),oc (.lst (pE M.idxOf (λn=>M'.idxOf (f n)) q)),oc (.dct 0 (dE M.idxOf (λn=>M'.idxOf (f n)) q)),Q0 ((d:Nat):Int)]++t)=some (.fr,.bl (decide (d<q.length))):=λq d t =>
  e2v (x:=(.fr,.int (d:Int))) L (ff (v:=(.fr,.int (q.length:Int))) (xv (x:=(.bo,.lst (pE M.idxOf (λn=>M'.idxOf (f n)) q))) L L) (by
   show some (Md.fr,T.int (((pE M.idxOf (λn=>M'.idxOf (f n)) q).length:Nat):Int))=_;rw[Zx])) (by
   show some (Md.fr,T.bl (decide ((d:Int)<(q.length:Int))))=_;rw[show decide ((d:Int)<(q.length:Int))=decide (d<q.length) from decide_eq_decide.mpr (by omega)])
 intro k
 induction k with
 |zero =>
  intro q d Z nd lt e N hN z6 z7 z8 z9 z10 z11;obtain⟨N,rfl⟩:∃M,N=M+1:=⟨N-1,by omega⟩
  unfold GQ at e;split at e
  ·cases e
  ·rename_i h;cases e;exact⟨_,z6,z7,z8,z9,z10,z11,d6 (m:=.fr) ((cond _ _ _).trans (by rw[ZG h]))⟩
 |succ k A =>
  intro q d Z nd lt e N hN z6 z7 z8 z9 z10 z11;obtain⟨N,rfl⟩:∃M,N=M+1:=⟨N-1,by omega⟩
  unfold GQ at e;split at e
  ·rename_i h;obtain⟨o,l,j,i,r,s,b⟩:=al2 (z6:=z6) (z7:=z7) (z8:=z8) (z9:=z9) (z10:=z10) (z11:=z11) F X WS hM MG H lt h (Z2 (oC nd lt) C);obtain⟨p,z,y,w,u,E,G,g⟩:=A _ (d+1) Z (jK _ _ nd) (gM (λc m e=>WS.on _ c m e) _ _ (λc D=>fe D) lt) e N (by omega) o l j i r s;exact⟨p,z,y,w,u,E,G,(lj (m:=.fr) ((cond _ _ _).trans (by rw[decide_eq_true h])) b).trans g⟩
  ·rename_i h;cases e;exact⟨_,z6,z7,z8,z9,z10,z11,d6 (m:=.fr) ((cond _ _ _).trans (by rw[ZG h]))⟩
theorem zc(JB:∀n c m,gW (S.wy.getD n []) c=Z m->gW d c=Z (J c))(hs:S.lg.length<=1000)(hb:GQ S 1000 [0] 0=Z M)(hz:M.idxOf 0=0)(QA:M'.idxOf 0=0)(R:M.Nodup)(hl:M'.length=M.length)(h0:∀n,0<n->n<S.lg.length->∃l,S.lk.getD n Y=Z l) :
  eA [Ge (tab S M),Ge (tab S' M'),.dct 0 (nm d)]=Z (.fr,.bl true):=by
 obtain⟨v,u,t,s,p,w,A,g⟩:=alw (M:=M) (M':=M') F X WS hM MG JB (by omega) 1000 [0] 0 M (by simp) (λx o=>by rw[Zf.mp o];exact WS.pos) hb uL (by decide) Y Y Y Y Y Y;have z0:M'.idxOf (f 0)=0:=by rw[show f 0=0 from F.z];exact QA
 have e0:[pc (Ge (tab S M)),pc (Ge (tab S' M')),pc (.dct 0 (nm d)),oc (.lst (pE M.idxOf (λn=>M'.idxOf (f n)) [0])),oc (.dct 0 (dE M.idxOf (λn=>M'.idxOf (f n)) [0])),Q0 ((0:Nat):Int),Y,Y,Y,Y,Y,Y,Y]=[pc (Ge (tab S M)),pc (Ge (tab S' M')),pc (.dct 0 (nm d)),oc (.lst [.tup [.int 0,.int 0]]),oc (.dct 0 [(.int 0,.int 0)]),Q0 0,Y,Y,Y,Y,Y,Y,Y]:=by
  show [_,_,_,oc (.lst [.tup [.int ((M.idxOf 0:Nat):Int),.int ((M'.idxOf (f 0):Nat):Int)]]),oc (.dct 0 [(.int ((M.idxOf 0:Nat):Int),.int ((M'.idxOf (f 0):Nat):Int))]),_,_,_,_,_,_,_,_]=_;rw[hz,z0];rfl
 have inj:∀x∈M,∀y∈M,M.idxOf x=M.idxOf y->x=y:=λx o y hy e=>by
  have gi:∀{c:Nat},c∈M->M.getD (M.idxOf c) 0=c:=λ{c} h=>by
   have:=Ye h;rw[Zv,Zq this,Yu,Xo this]
  rw[← gi o,← gi hy,e]
 have O:∀(l:List Row){a:Ex}{U:Env}{m:Md},a U=Z (m,Ge l)->eN bX (ab a af) U=Z (.fr,.int (l.length:Int)):=λl {a U m} h=>ff (xv (r:=af) h L) (by
  show Z (Md.fr,T.int (((l.map dM).length:Nat):Int))=_;rw[Zx])
 have E:∀(S:St)(M:Vv),(tab S M).length=M.length:=λS M=>Zx _;obtain⟨U',e3,z,rfl,_⟩:=iK (tg:=bh 12) (body:=iP) (λ(k:Nat)=>T.int (k:Int)) (λr U=>∃z,U=[pc (Ge (tab S M)),pc (Ge (tab S' M')),pc (.dct 0 (nm d)),pc (.lst (pE M.idxOf (λn=>M'.idxOf (f n)) M)),pc (.dct 0 (dE M.idxOf (λn=>M'.idxOf (f n)) M)),pc v,u,t,s,p,w,A,z]/\∀k∈r,0<k/\k<M.length) (by
  rintro k r _ ⟨z,rfl,C⟩;obtain⟨k0,k1⟩:=C k Zu;refine⟨_,_,rfl,jO (m:=.fr) ?_ L,_,rfl,λx o=>C x (Zt _ o)⟩;obtain⟨n,G,H⟩:∃n,n∈M/\M.idxOf n=k:=⟨M[k],Yy k1,R.idxOf_getElem k k1⟩
  have D:=(hM n).mp G;obtain⟨l,N⟩:=h0 n (YM λz=>by rw[z,hz]at H;omega) D;have M5:=(hM l).mpr (WS.up n l N);obtain⟨_,_,a3⟩:=Bh (M:=M) (M':=M') F WS D;rw[N]at a3;have Q:=EX (o6 hM D (a:=aa 0) (b:=aa 12) (U:=[pc (Ge (tab S M)),pc (Ge (tab S' M')),pc (.dct 0 (nm d)),pc (.lst (pE M.idxOf (λn=>M'.idxOf (f n)) M)),pc (.dct 0 (dE M.idxOf (λn=>M'.idxOf (f n)) M)),pc v,u,t,s,p,w,A,Q0 (k:Int)]) (n:=.fr) L (by rw[H];rfl));rw[xW,N]at Q;have q2:=EJ (U:=[pc (Ge (tab S M)),pc (Ge (tab S' M')),pc (.dct 0 (nm d)),pc (.lst (pE M.idxOf (λn=>M'.idxOf (f n)) M)),pc (.dct 0 (dE M.idxOf (λn=>M'.idxOf (f n)) M)),pc v,u,t,s,p,w,A,Q0 (k:Int)]) (a:=M.idxOf) (b:=λn=>M'.idxOf (f n)) (q:=M) (m:=n) (x:=aa 4) (e:=aa 12) (k:=.pu) (l:=.fr) (λx o=>inj x o n G) G L (by rw[H];rfl);have P:=EX (o6 MG (F.lt D) (a:=aa 1) (n:=.fr) L q2);rw[a3]at P;refine e2v (EJ (a:=M.idxOf) (b:=λn=>M'.idxOf (f n)) (q:=M) (m:=l) (k:=.pu) (l:=.fr) (λx o=>inj x o l M5) M5 L Q) P (lK L L (r:=true) ?_);show eqT (T.int ((M'.idxOf (f l):Nat):Int)) (T.int ((M'.idxOf (f l):Nat):Int))=true;rw[qq];exact beq_self_eq_true _) ((List.range' 1 (M.length-1))) [pc (Ge (tab S M)),pc (Ge (tab S' M')),pc (.dct 0 (nm d)),pc (.lst (pE M.idxOf (λn=>M'.idxOf (f n)) M)),pc (.dct 0 (dE M.idxOf (λn=>M'.idxOf (f n)) M)),pc v,u,t,s,p,w,A,Y] ⟨Y,rfl,λk C=>by have:=Y7.mp C;omega⟩
 refine fh (U:=[pc (Ge (tab S M)),pc (Ge (tab S' M')),pc (.dct 0 (nm d)),pc (.lst (pE M.idxOf (λn=>M'.idxOf (f n)) M)),pc (.dct 0 (dE M.idxOf (λn=>M'.idxOf (f n)) M)),pc v,u,t,s,p,w,A,z]) L (sq L (sq L (sq L (sq ((congrArg _ e0.symm).trans g) (sq L (sq L (sq (U1:=[pc (Ge (tab S M)),pc (Ge (tab S' M')),pc (.dct 0 (nm d)),pc (.lst (pE M.idxOf (λn=>M'.idxOf (f n)) M)),pc (.dct 0 (dE M.idxOf (λn=>M'.idxOf (f n)) M)),pc v,u,t,s,p,w,A,Y]) (jO (m:=.fr) ?_ L) ?_)))))))
 ·have ld:∀U:Env,U[4]?=Z (pc (.dct 0 (dE M.idxOf (λn=>M'.idxOf (f n)) M)))->eN bX (ab (aa 4) af) U=Z (.fr,.int (M.length:Int)):=λU h=>ff (xv (r:=af) (x:=(.pu,.dct 0 (dE M.idxOf (λn=>M'.idxOf (f n)) M))) (by unfold aa;rw[h];rfl) L) (by
   show Z (Md.fr,T.int (((dE M.idxOf (λn=>M'.idxOf (f n)) M).length:Nat):Int))=_;rw[Zx])
  refine PY (m:=.fr) (n:=.fr) (x:=B) (y:=B) (e2v (ld _ L) (O _ (m:=.pu) L) (lK L L (r:=true) ?_)) (e2v (ld _ L) (O _ (m:=.pu) L) (lK L L (r:=true) ?_))
  ·rw[E,qq];exact beq_self_eq_true _
  ·rw[E,hl,qq];exact beq_self_eq_true _
 ·refine sq ((gb (m:=.fr) (l:=(List.range' 1 (M.length-1)).map λ(k:Nat)=>T.int (k:Int)) ?_ L).trans e3) L;have nl:=O (tab S M) (a:=aa 0) (U:=[pc (Ge (tab S M)),pc (Ge (tab S' M')),pc (.dct 0 (nm d)),pc (.lst (pE M.idxOf (λn=>M'.idxOf (f n)) M)),pc (.dct 0 (dE M.idxOf (λn=>M'.idxOf (f n)) M)),pc v,u,t,s,p,w,A,Y]) (m:=.pu) L;have ml:=oC R λx o=>(hM x).mp o;rw[E]at nl;rw[BE (a:=Q3 1) (m:=.fr) (n:=.fr) (i:=1) (j:=(M.length:Int)) L nl (by omega) (by omega) (by omega) (by omega),show ((M.length:Int)-1).toNat=M.length-1 by omega];unfold rng;rw[List.range'_eq_map_range,ZM];refine congrArg (λz=>Z (Md.fr,z)) (Yv λk _=>?_);show T.int (1+(k:Int))=T.int ((1+k:Nat):Int);rw[Int.natCast_add];rfl
end
abbrev Vs(x:Vv):Vv:=AZ.filter λc=>decide (c∈x)
def lb(x:Vv):(Vs x).Pairwise (· < ·):=Wz _ (by decide)
def oz(x:Vv):(Vs x).Nodup:=(lb x).imp λh=>Zg h
def mK(a:∀c∈x,c∈AZ):c∈Vs x↔c∈x:=by
 rw[YU];exact⟨λh=>by simpa using h.2,λh=>⟨a c h,by simpa using h⟩⟩
def tK{ls:List Tx}{x:Vv}(i:ls.Nodup)(d:∀t,t∈ls ↔ ∃c∈x,[c]=t)(g:∀c∈x,c∈AZ):cy ls=(Vs x).map λc=>[c]:=by
 refine(kE ((YN ((oz x).map _ λa b f e=>f (List.cons.inj e).1) i).mpr λt=>?_) ?_).symm
 ·rw[d,ZU];exact⟨λ⟨c,h,e⟩=>⟨c,(mK g).mp h,e⟩,λ⟨c,h,e⟩=>⟨c,(mK g).mpr h,e⟩⟩
 ·rw[Xd];refine(lb x).imp λ{a b} f h=>?_;rcases Xf.mp h with h | ⟨_,h⟩
  ·exact absurd f (Nat.lt_asymm h)
  ·exact absurd h (List.not_lt_nil _)
def sW(x:Vv):(Vs x).length<=26:=by
 have:=WU (λc=>decide (c∈x)) AZ
 rwa [Wq]at this
def yY{m:Md}{x:Tx}(a:∀c∈x,c∈AZ)(b:x.length<=120):iU [(m,.str x)]=Z (.fr,.lst ((Vs x).map s1)):=by
 have e:=tK (iM (x.map λc=>[c])) (x:=x) (λt=>by rw[gI,ZU]) a;have l:=(gh (dedup (x.map λc=>[c]))).length_eq;rw[e,Zx]at l;have:=sW x;show (if x.length+1<4096/\(dedup (x.map λc=>[c])).length<64 then Z (Md.fr,T.lst ((cy (dedup (x.map λc=>[c]))).map .str)) else Y)=_;rw[Zn ⟨by omega,by omega⟩,e,ZM];rfl
def vG{m:Md}{l:Vv}(f:l.Nodup)(g:∀c∈l,c∈AZ):iS [(m,.lst (l.map s1))]=Z (.fr,.lst ((Vs l).map s1))/\(Vs l).length=l.length:=by
 have e:=tK (ls:=l.map λc=>[c]) (x:=l) (f.map _ λa b h e=>h (List.cons.inj e).1) (λt=>by rw[ZU]) g;have ln:(Vs l).length=l.length:=((YN (oz l) f).mpr λc=>mK g).length_eq;have:=sW l;refine⟨?_,ln⟩;show ((strs? (l.map s1)).bind λd=>if d.length<64 then Z (Md.fr,T.lst ((cy d).map .str)) else Y)=_;rw[pb,Zp,Zn (by rw[Zx];omega),e,ZM];rfl
def yE{S T:St}{f:Nat->Nat}(F:IK S T f):S.lg.length<=T.lg.length:=by
 have:=sub_len ((List.range S.lg.length).map f) (List.range T.lg.length) (by
  rw[List.nodup_iff_pairwise_ne,Xd];refine(List.nodup_range).imp_of_mem λ{a b} h hb i e=>i (F.inj (Yc.mp h) (Yc.mp hb) e)) (λx d=>by
  obtain⟨n,g,rfl⟩:=ZU.mp d;exact Yc.mpr (F.lt (Yc.mp g)))
 rwa [Zx,Z3,Z3]at this
def zf(r:Row):G2 59 (dM r)=M:=by
 have d:G2 58 (Gp r.2.2.1)=M:=by cases r.2.2.1<;>rfl
 have b:G2 58 (G7 r.2.2.2)=M:=by
  show (r.2.2.2.map λp=>T.tup [.str [p.1],.int (p.2:Int)]).all (G2 57)=M;rw[Z6];intro x a;obtain⟨p,_,rfl⟩:=ZU.mp a;rfl
 show (M&&(M&&(G2 58 (Gp r.2.2.1)&&(G2 58 (G7 r.2.2.2)&&M))))=M;rw[d,b];rfl
def rL(t:List Row):G2 60 (Ge t)=M:=by
 show (t.map dM).all (G2 59)=M;rw[Z6];intro x a;obtain⟨r,_,rfl⟩:=ZU.mp a;exact zf r
def EM(h:s=t):oEq (m,Ge s) (n,Ge t)=Z (.fr,.bl M):=by
 subst h;exact l8 (rL s) (rL s) (ql 60 _ (rL s))
def AD{ps:List (Nat×Nat)}{J:Nat->Nat}{r:Row}{U:Env}(N:∀p∈r.2.2.2,gW ps p.1=Z (J p.1))(w:r.2.2.2.length<=1000)(o:U[9]?=Z (pc (dM r)))(s:U[4]?=Z (pc (.dct 0 (nm ps)))) :
  e2 tW (nK (aa 9) 3) (ia (ab (eN fC (ab (cz 2 (jm [(bh 0),(bh 1)]) (dJ (e2 aC (aa 9) (Q3 3))) Y (ia (ab (e2 GW (aa 6) (aa 0)) (ab (aa 1) af)))) af)) af)) U=Z (.fr,dM (rR J r)):=by
 have d:aa 9 U=Z (.fr,dM r):=by
  unfold aa;rw[o];show Z (up .pu (dM r))=_;unfold up;rw[uC];rfl
 have g:e2 aC (aa 9) (Q3 3) U=Z (.fr,G7 r.2.2.2):=e2v d (y:=(.fr,.int 3)) L (by
  show Z (up .fr (G7 _))=_;unfold up;rw[iB];rfl)
 have v:nK (aa 9) 3 U=Z (.fr,.tup [.int (r.1:Int),.int (r.2.1:Int),Gp r.2.2.1]):=by
  unfold nK;rw[d];have h:3<[T.int (r.1:Int),.int (r.2.1:Int),Gp r.2.2.1,G7 r.2.2.2].length/\([T.int (r.1:Int),.int (r.2.1:Int),Gp r.2.2.1,G7 r.2.2.2].take 3).all OU=M:=⟨by show 3<4;decide,by cases r.2.2.1<;>rfl⟩
  exact Zn h
 have f:=dY (k:=2) (tg:=jm [(bh 0),(bh 1)]) (it:=dJ (e2 aC (aa 9) (Q3 3))) (elt:=ia (ab (e2 GW (aa 6) (aa 0)) (ab (aa 1) af))) (m:=.fr) (U:=U) Jv (λp=>Jv (J p.1,p.2)) r.2.2.2 (congrArg (·.bind uK) g) L (by omega) λp j=>⟨pc (s1 p.1) :: Q0 (p.2:Int) :: U,rfl,by
  have q:=xN (ps:=ps) (J:=J) (l:=[p.1]) (c:=p.1) (a:=aa 6) (b:=aa 0) (U:=pc (s1 p.1) :: Q0 (p.2:Int) :: U) (m:=.pu) (n:=.fr) (λx i=>by rw[Zf.mp i];exact N p j) Zu (by
   unfold aa;rw[Xs,Xs,s];rfl) L
  show ((ab (e2 GW (aa 6) (aa 0)) (ab (aa 1) af)) (pc (s1 p.1) :: Q0 (p.2:Int) :: U)).bind _=_;rw[xv (r:=ab (aa 1) af) q (xv (r:=af) (x:=(.fr,.int (p.2:Int))) L L)];rfl⟩
 have u:ia (ab (eN fC (ab (cz 2 (jm [(bh 0),(bh 1)]) (dJ (e2 aC (aa 9) (Q3 3))) Y (ia (ab (e2 GW (aa 6) (aa 0)) (ab (aa 1) af)))) af)) af) U=Z (.fr,.tup [G7 (rW J r.2.2.2)]):=by
  have e:r.2.2.2.map (λp=>Jv (J p.1,p.2))=(rW J r.2.2.2).map Jv:=by
   unfold rW;rw[ZM];rfl
  rw[e]at f;have t:eN fC (ab (cz 2 (jm [(bh 0),(bh 1)]) (dJ (e2 aC (aa 9) (Q3 3))) Y (ia (ab (e2 GW (aa 6) (aa 0)) (ab (aa 1) af)))) af) U=Z (.fr,G7 (rW J r.2.2.2)):=ff (xv (r:=af) f L) (by
   show (if ((rW J r.2.2.2).map Jv).length<=dq then Z (up .fr (.tup ((rW J r.2.2.2).map Jv))) else Y)=_;rw[Zn (by rw[Zx];unfold rW;rw[Zx];show _<=16777216;omega)];show Z (if FZ (G7 (rW J r.2.2.2)) then Md.fr else Md.fr,G7 (rW J r.2.2.2))=_;rw[iB];rfl)
  show ((ab _ af) U).bind _=_;rw[xv (r:=af) t L];show Z (if FZ (T.tup [G7 (rW J r.2.2.2)]) then Md.fr else _,T.tup [G7 (rW J r.2.2.2)])=_;rw[show FZ (T.tup [G7 (rW J r.2.2.2)])=M from by show (FZ (G7 (rW J r.2.2.2))&&M)=M;rw[iB];rfl];rfl
 refine e2v v u ?_;have h:[T.int (r.1:Int),.int (r.2.1:Int),Gp r.2.2.1]≠[]/\[G7 (rW J r.2.2.2)]≠[]/\cL [T.int (r.1:Int),.int (r.2.1:Int),Gp r.2.2.1]=M/\cL [G7 (rW J r.2.2.2)]=M/\[T.int (r.1:Int),.int (r.2.1:Int),Gp r.2.2.1].length+[G7 (rW J r.2.2.2)].length<=dq:=⟨nofun,nofun,by cases r.2.2.1<;>rfl,by show (FZ (G7 (rW J r.2.2.2))&&M)=M;rw[iB];rfl,by show 4<=16777216;decide⟩
 exact Zn h
def DC(J:Nat->Nat)(a:List Tx):di (a.map (·.map J))=di a:=by
 unfold di;rw[ZM];exact congrArg List.sum (Yv λt _=>Zx _)
def Jh.x{bk:List Tx}(h:Jh bk){J:Nat->Nat}(X:Xc J τ):Jh (bk.map (·.map J)):=⟨by rw[Zx];exact h.Jc,by rw[DC];exact h.sum,λt b c e=>by
 obtain⟨u,a,rfl⟩:=ZU.mp b;obtain⟨d,hd,rfl⟩:=ZU.mp e;exact X.az d (h.az u a d hd)⟩
def xB{a d:Vv}{J:Nat->Nat}(f:a.Nodup)(h:a.length=d.length)(g:∀i,i<a.length->J (a.getD i 0)=d.getD i 0){c:Nat}(j:c∈a):gW (a.zip d) c=Z (J c):=by
 have b:=Ye j;have e:a.getD (a.idxOf c) 0=c:=by rw[Zv,Zq b,Yu,Xo b]
 have:=wD f h b
 rwa [← g _ b,e]at this
def sF(h:97<=c/\c<=122):c∈AZ:=Y7.mpr (by omega)
def alike(B:Jh a)(X:Xc J τ)(N:∀c∈AZ,gW d c=Z (J c)):eA [Ge (tabOf a),Ge (tabOf (a.map (·.map J))),.dct 0 (nm d)]=Z (.fr,.bl M):=by
 obtain⟨_,nd,q,H,u,hb,j,r,h,f⟩:=B.k;obtain⟨_,y,Gj,b,_,_,p,w,o,_⟩:=(B.x X).k;have F:=(H.Ny X).iso b;have t:=yE F;have v:=yE (b.iso (H.Ny X));have len:=H.i.len;have s:=b.i.len;have g:=H.i.wf;have e:(rS J (cR a)).lg.length=(cR a).lg.length:=rfl;exact zc F X g j p (λn c m e=>N c (sF ((g.Lq n).2 _ (sY e)))) (by omega) hb h o f (by omega) λn l f=>by
  obtain⟨m,e,_⟩:=H.i.lk l (by omega) (λz=>nomatch z);exact⟨m,e⟩
theorem same(B:Jh a)(X:Xc J τ)(h:∀c d,c∈a.flatten->d∈a.flatten->c<d->J c<J d):tabOf (a.map (·.map J))=(tabOf a).map (rR J)/\∀n c m,gW ((cR a).wy.getD n []) c=Z m->c∈a.flatten:=by
 obtain⟨_,nd,g,H,_,hb,_⟩:=B.k;obtain⟨_,s,Gj,r,_,q,_⟩:=(B.x X).k;have on:∀n c m,gW ((cR a).wy.getD n []) c=Z m->c∈a.flatten:=λn c m e=>by
  have o:n<g.length:=by
   rw[H.i.len,← H.i.wf.wy];refine Nat.lt_of_not_le λz=>?_;rw[Zv,ZD z]at e;cases e
  obtain⟨p,b,l⟩:=(H.some _).mp ⟨m,H.i.way o e⟩;have f:c∈p:=l.subset (ZP _ Zu);rcases b with rfl | ⟨t,j,b⟩
  ·cases f
  ·exact Wi.mpr ⟨t,j,b.subset f⟩
 have R:Ri J (cR a) (λc=>c∈a.flatten):=⟨on,h⟩
 have:=K.same (H.Ny X) r 1000;rw[q,R.GQ X H.i.wf,hb]at this;have:=Zk this;rw[R.tab X H.i.wf]at this;exact⟨this,on⟩
def yL(a:List Tx):a.flatten.length=di a:=by
 rw[List.length_flatten];rfl
def Af(a:List Tx):strs? (a.map T.str)=Z a:=by
 have:=strs_map (λx:Tx=>x) a;simpa using this
theorem tP:∀l:List Tx,cL (l.map T.str)=M
 |[]=>rfl
 |t :: l=>by
  show (FZ (T.str t)&&cL (l.map T.str))=M;rw[tP l];rfl
def Ec{m:Md}{l:List Tx}(h:a U=Z (m,.lst (l.map .str)))(b:l.length<=8):eN ju (ab a af) U=Z (.fr,.lst (l.map .str)):=ff (xv (r:=af) h L) (by
 show Ir m (l.map T.str)=_;unfold Ir;rw[Zn (by rw[Zx];show l.length<=16777216;omega),tP];rfl)
def DL{m:Md}{l:Vv}{k:Nat}(e:a U=Z (m,.lst (l.map s1)))(d:b U=Z (n,.int (k:Int)))(f:l.length<=1000):Oi a Y (Z b) U=Z (.fr,.lst ((l.take k).map s1)):=by
 unfold Oi tu;dsimp only;rw[e,d];show Ir m (cut (l.map s1) Y (Z (k:Int)))=_;rw[BG,← List.map_take];unfold Ir;rw[Zn (by rw[Zx,XS];show _<=16777216;omega),jX];rfl
def AX{m:Md}{b:List Tx}(h:a U=Z (m,.lst (b.map .str)))(e:b.flatten.length<=1000):eM gf (eC (.str [])) (ab a af) U=Z (.fr,.str b.flatten):=by
 show ((Z (Md.fr,T.str [])).bind λo=>((ab a af) U).bind λd=>gf o d)=_;rw[xv (r:=af) h L];exact kD (m:=.fr) (n:=m) (Af b) (by omega)
def BX{m:Md}{l:Vv}(h:a U=Z (m,.lst (l.map s1))):eN bX (ab a af) U=Z (.fr,.int (l.length:Int)):=ff (xv (r:=af) h L) (by
 show Z (Md.fr,T.int (((l.map s1).length:Nat):Int))=_;rw[Zx])
abbrev EL(a:Vu)(bk:List Tx)(h g f e d b:Vr):Env:=[pc (.scr a),pc (.lst (bk.map .str)),Q2 AZ,pc (Ge (tabOf bk)),h,g,f,e,d,b]
def yD(f:Vu):xF [.scr f]=Z (.fr,.bl M):=by
 obtain⟨bk,eb,v,F,az⟩:=CW f;have B:Jh bk:=⟨v,by rw[← yL];exact F,az⟩
 obtain⟨L,O,w⟩:=vE f;have E:L.Nodup:=w.nodup_iff.mpr Y6;have P:∀c∈L,c∈AZ:=λc a=>w.mem_iff.mp a;have lL:L.length=26:=w.length_eq;have D:∀t∈bk,t.length<=1000:=λt o=>XD (B.len t o);obtain⟨J,τ,X,hσ⟩:=Bv (us:=AZ) (rs:=L) Y6 E (λc h=>h) P (by rw[lL];rfl);have N1:∀c∈AZ,gW (AZ.zip L) c=Z (J c):=λc a=>xB Y6 (by rw[lL];rfl) hσ a;have A:∀c∈bk.flatten,c∈AZ:=λc a=>by
  obtain⟨t,o,a⟩:=Wi.mp a;exact sF (az t o c a)
 have lU:=sW bk.flatten;have nT:(L.take (Vs bk.flatten).length).Nodup:=E.sublist (WA _ _);have aT:∀c∈L.take (Vs bk.flatten).length,c∈AZ:=λc a=>P c (List.take_subset _ _ a);obtain⟨eR,lR⟩:=vG (m:=.fr) nT aT;have R:(Vs bk.flatten).length=(Vs (L.take (Vs bk.flatten).length)).length:=by rw[lR,XS,lL];omega
 obtain⟨g,τ2,Q,C⟩:=Bv (oz bk.flatten) (oz (L.take (Vs bk.flatten).length)) (λc h=>(YU.mp h).1) (λc h=>(YU.mp h).1) R;have S:∀c∈bk.flatten,gW ((Vs bk.flatten).zip (Vs (L.take (Vs bk.flatten).length))) c=Z (g c):=λc a=>xB (oz _) R C ((mK A).mpr a);have at2:∀c,c∈bk.flatten->∃i,i<(Vs bk.flatten).length/\(Vs bk.flatten).getD i 0=c:=λc a=>by
  have a:=(mK A).mpr a;have s:=Ye a;exact⟨_,s,by rw[Zv,Zq s,Yu,Xo s]⟩
 have gt:∀{l:Vv}{i:Nat},l.Pairwise (· < ·)->∀{j},i<j->j<l.length->l.getD i 0<l.getD j 0:=λ{l i} p {j} M8 u=>by
  rw[Zv,Zv,Zq (Wt M8 u),Zq u];exact List.pairwise_iff_getElem.mp p i j _ u M8
 have up:∀c d,c∈bk.flatten->d∈bk.flatten->c<d->g c<g d:=λc d a hd q=>by
  obtain⟨i,s,rfl⟩:=at2 c a;obtain⟨j,u,rfl⟩:=at2 d hd;rw[C i s,C j u];rcases Nat.lt_trichotomy i j with h | h | h
  ·exact gt (lb _) h (by omega)
  ·rw[h]at q;exact absurd q (Yj _)
  ·exact absurd (gt (lb _) h s) (Nat.lt_asymm q)
 obtain⟨tS,on⟩:=same B Q up;obtain⟨U',ef,acc,z,rfl,N⟩:=iK (tg:=bh 9) (body:=qy) dM (λr U=>∃acc z,U=EL f bk (pc (.dct 0 (nm ((Vs bk.flatten).zip (Vs (L.take (Vs bk.flatten).length)))))) (pc (Ge (tabOf (bk.map (·.map J))))) (pc (.lst ((Vs bk.flatten).map s1))) (pc (.lst ((Vs (L.take (Vs bk.flatten).length)).map s1))) (oc (Ge (acc.map (rR g)))) z/\acc++r=tabOf bk) (by
  rintro r rs _ ⟨acc,z,rfl,e⟩;have hr:r∈tabOf bk:=by rw[← e];exact ZP _ Zu
  obtain⟨n,_,rfl⟩:=ZU.mp hr;have ln:acc.length+1<=(tabOf bk).length:=by rw[← e,Zo,ZX];omega
  obtain⟨_,nd,wd,H,Rk,_,_,hl,_⟩:=B.k;have lt:(tabOf bk).length=(fS bk).length:=Zx _;have sl:=lW ((cR bk).wy.getD n []);have e1:(steps (cR bk) (fS bk) n).length=(sk ((cR bk).wy.getD n [])).length:=Zx _;refine⟨_,_,rfl,(oY (i:=8) (l:=(acc.map (rR g)).map dM) rfl (AD (ps:=(Vs bk.flatten).zip (Vs (L.take (Vs bk.flatten).length))) (J:=g) (r:=row (cR bk) (fS bk) n) (λp G=>?_) (by rw[j5];omega) rfl rfl) (by rw[Zx,Zx];omega)).trans ?_,acc++[row (cR bk) (fS bk) n],pc (dM (row (cR bk) (fS bk) n)),rfl,by rw[Z4];exact e⟩
  ·rw[j5]at G;obtain⟨c,a,rfl⟩:=ZU.mp G;obtain⟨m,e⟩:=fe a;exact S c (on n c m e)
  ·show Z (Out.nx (EL f bk _ _ _ _ (oc (.lst ((acc.map (rR g)).map dM++[dM (rR g (row (cR bk) (fS bk) n))]))) _))=Z (Out.nx (EL f bk _ _ _ _ (oc (.lst (((acc++[row (cR bk) (fS bk) n]).map (rR g)).map dM))) _));rw[ZF,ZF];rfl) (tabOf bk) (EL f bk (pc (.dct 0 (nm ((Vs bk.flatten).zip (Vs (L.take (Vs bk.flatten).length)))))) (pc (Ge (tabOf (bk.map (·.map J))))) (pc (.lst ((Vs bk.flatten).map s1))) (pc (.lst ((Vs (L.take (Vs bk.flatten).length)).map s1))) (oc (Ge (([]:List Row).map (rR g)))) Y) ⟨[],Y,rfl,rfl⟩
 rw[ZE]at N;subst N;have mk:=oU (B.x Q) (xn (ps:=(Vs bk.flatten).zip (Vs (L.take (Vs bk.flatten).length))) (J:=g) (bk:=bk) (U:=EL f bk (pc (.dct 0 (nm ((Vs bk.flatten).zip (Vs (L.take (Vs bk.flatten).length)))))) (pc (Ge (tabOf (bk.map (·.map J))))) (pc (.lst ((Vs bk.flatten).map s1))) (pc (.lst ((Vs (L.take (Vs bk.flatten).length)).map s1))) (pc (Ge ((tabOf bk).map (rR g)))) z) (λt o c a=>S c (Wi.mpr ⟨t,o,a⟩)) v D rfl rfl);refine fh (U:=EL f bk (pc (.dct 0 (nm ((Vs bk.flatten).zip (Vs (L.take (Vs bk.flatten).length)))))) (pc (Ge (tabOf (bk.map (·.map J))))) (pc (.lst ((Vs bk.flatten).map s1))) (pc (.lst ((Vs (L.take (Vs bk.flatten).length)).map s1))) (pc (Ge ((tabOf bk).map (rR g)))) z) rfl ?_;refine sq (U1:=[pc (.scr f),pc (.lst (bk.map .str)),Y,Y,Y,Y,Y,Y,Y,Y]) (aG (m:=.fr) (cO (xv (r:=af) (x:=(.fr,.scr f)) rfl rfl) eb) (by decide) (by show 1<10;decide)) ?_;refine sq (U1:=[pc (.scr f),pc (.lst (bk.map .str)),Q2 AZ,Y,Y,Y,Y,Y,Y,Y]) rfl ?_;refine sq (U1:=EL f bk Y Y Y Y Y Y) (aG (m:=.fr) (oU B (Ec (m:=.pu) rfl v)) (by decide) (by show 3<10;decide)) ?_;refine sq (U1:=EL f bk (pc (.dct 0 (nm (AZ.zip L)))) Y Y Y Y Y) (aG (m:=.fr) (ff (xv (x:=(.fr,.str AZ)) rfl (xv (r:=af) (cO (xv (r:=af) (x:=(.fr,.scr f)) rfl rfl) O) rfl)) (yG AZ L Y6)) (by decide) (by show 4<10;decide)) ?_;refine sq (U1:=EL f bk (pc (.dct 0 (nm (AZ.zip L)))) (pc (Ge (tabOf (bk.map (·.map J))))) Y Y Y Y) (aG (m:=.fr) (oU (B.x X) (xn (ps:=AZ.zip L) (J:=J) (bk:=bk) (λt o c a=>N1 c (sF (az t o c a))) v D rfl rfl)) (by decide) (by show 5<10;decide)) ?_;refine sq (jO (m:=.fr) ((rZ (m:=.fr) (b:=M) (cO (xv (x:=(.pu,Ge (tabOf bk))) rfl (xv (x:=(.pu,Ge (tabOf (bk.map (·.map J))))) rfl (xv (r:=af) (x:=(.pu,.dct 0 (nm (AZ.zip L)))) rfl rfl))) (alike B X N1))).trans rfl) rfl) ?_;refine sq (U1:=EL f bk (pc (.dct 0 (nm (AZ.zip L)))) (pc (Ge (tabOf (bk.map (·.map J))))) (pc (.lst ((Vs bk.flatten).map s1))) Y Y Y) (aG (m:=.fr) (ff (xv (r:=af) (AX (m:=.pu) rfl (by omega)) rfl) (yY A F)) (by decide) (by show 6<10;decide)) ?_;refine sq (U1:=EL f bk (pc (.dct 0 (nm (AZ.zip L)))) (pc (Ge (tabOf (bk.map (·.map J))))) (pc (.lst ((Vs bk.flatten).map s1))) (pc (.lst ((Vs (L.take (Vs bk.flatten).length)).map s1))) Y Y) (aG (m:=.fr) (ff (xv (r:=af) (DL (cO (xv (r:=af) (x:=(.fr,.scr f)) rfl rfl) O) (BX (m:=.pu) rfl) (by omega)) rfl) eR) (by decide) (by show 7<10;decide)) ?_;refine sq (U1:=EL f bk (pc (.dct 0 (nm ((Vs bk.flatten).zip (Vs (L.take (Vs bk.flatten).length)))))) (pc (Ge (tabOf (bk.map (·.map J))))) (pc (.lst ((Vs bk.flatten).map s1))) (pc (.lst ((Vs (L.take (Vs bk.flatten).length)).map s1))) Y Y) (aG (m:=.fr) (ff (xv (x:=(.pu,.lst ((Vs bk.flatten).map s1))) rfl (xv (r:=af) (x:=(.pu,.lst ((Vs (L.take (Vs bk.flatten).length)).map s1))) rfl rfl)) (yB _ _ (oz _))) (by decide) (by show 4<10;decide)) ?_;refine sq rfl (sq ((gb (m:=.pu) (l:=(tabOf bk).map dM) rfl rfl).trans ef) (sq rfl (dC (e2v mk (y:=(.pu,Ge ((tabOf bk).map (rR g)))) rfl (EM tS)))))
end T12
end
section
namespace T12
open PySem PySem.Spec PyProof.Rows L2 VS
def qv{X:Cx}(i:Nat)(a:{`q7,X.N[i]?=Z x})(b:HU X.env.scope x:=by exact Or.inl L)(c:{`q2,K3 x})(d:{`q2,K4 x}):PV G X (.Name x p) (aa i):=cJ i a b c d
def Q4{α:Sort _}{x:α}{b:Prop}:x=x∨b:=.inl L
abbrev Q5:List Str:=["_law_cell", "_law_k"]
abbrev Q6:List Str:=["_law_j", "_law_script", "_law_cell", "_law_letters_here", "_law_count", "_law_most"]
abbrev Q7:List Str:=["_law_script", "_law_k"]
abbrev Q8:List Str:=["_law_script", "_law_letters_here", "_law_most", "_law_j"]
abbrev Q9:List Str:=["_law_script"]
abbrev Qa:List Str:=["_law_sign", "_law_number", "_law_script", "_law_book_here", "_law_letters_here", "_law_table", "_law_names", "_law_other", "_law_used_signs", "_law_rising", "_law_due", "_law_row"]
abbrev Qb:List Str:=["_law_sign", "_law_text_here", "_law_names"]
abbrev Qc:List Str:=["_law_table", "_law_other", "_law_names"]
abbrev Qd:List Str:=["_law_text_here", "_law_names"]
abbrev Qe:List Str:=["_law_text_here", "_law_script", "_law_book_here", "_law_letters_here", "_law_table", "_law_names", "_law_other", "_law_used_signs", "_law_rising", "_law_due", "_law_row"]
abbrev Qf:List Str:=["book", "number"]
abbrev Qg:List Str:=["self", "head", "sign"]
abbrev Qh:List Str:=["self", "head", "word"]
abbrev Qi:List Str:=["self", "long", "link", "ways"]
abbrev Qj:List Str:=["self", "node", "numbers"]
abbrev Qk:List Str:=["self", "node", "sign"]
abbrev Ql:List Str:=["self", "text", "word"]
abbrev Qm:List Str:=["self"]
abbrev Qn:List Str:=["sign", "self", "node", "numbers", "link", "ways", "steps"]
noncomputable def top(i:Nat):Stmt:=PySem.Challenge.pw_allparts_k12_whole_other_letters.main.body.getD i (.Pass ⟨0,0,0,0⟩)
structure HA(mg:Wu):Prop where
 MR:mg "bool" = none
 Ip:mg "dict" = none
 OD:mg "int" = none
 Hl:mg "isinstance" = none
 Gi:mg "len" = none
 Je:mg "list" = none
 OC:mg "max" = none
 OB:mg "min" = none
 HB:mg "range" = none
 OA:mg "set" = none
 Hk:mg "sorted" = none
 Oz:mg "sum" = none
 Ju:mg "tuple" = none
 LX:mg "zip" = none
 Io:∃t,mg "MOST_SIGNS" = some (.int 120 t)
 Im:∃t,mg "MOST_TEXTS" = some (.int 8 t)
noncomputable abbrev Lz:List Str:=["  ", "longs", "links", "ways", "texts", "heads", "nodes"]
abbrev gX(K:X3)(C D:KF):Gx:=KO Lz K C D
def gJ{K:X3}:jq ((KO Lz K C D).at m):=An (by decide +kernel) (by decide +kernel)
structure Hc(K:X3)(mg:Wu)(C D:KF):Prop where
 FY:Hs K C
 Ka:mg "Nodes" = some (.ref C)
 GL:aU K C "longs"
 GN:aU K C "links"
 GT:aU K C "ways"
 GJ:aU K C "texts"
 GO:aU K C "heads"
 GK:aU K C "nodes"
 FX:Hs K D
 IW:mg "Machine" = some (.ref D)
 GB:aU K D "longs"
 GC:aU K D "links"
 GH:aU K D "ways"
 Gz:aU K D "texts"
 GD:aU K D "heads"
 GA:aU K D "nodes"
def eO{K:X3}(a:Hc K b C D):G6 ((KO Lz K C D).at m) K 1 "longs" := vc L a.FY a.FX a.GL a.GB
def eB{K:X3}(a:Hc K b C D):G6 ((KO Lz K C D).at m) K 2 "links" := vc L a.FY a.FX a.GN a.GC
def dw{K:X3}(a:Hc K b C D):G6 ((KO Lz K C D).at m) K 3 "ways" := vc L a.FY a.FX a.GT a.GH
def dH{K:X3}(a:Hc K b C D):G6 ((KO Lz K C D).at m) K 4 "texts" := vc L a.FY a.FX a.GJ a.Gz
def jU{K:X3}(a:Hc K b C D):G6 ((KO Lz K C D).at m) K 5 "heads" := vc L a.FY a.FX a.GO a.GD
def mN{K:X3}(a:Hc K b C D):G6 ((KO Lz K C D).at m) K 6 "nodes" := vc L a.FY a.FX a.GK a.GA
section
variable(P:P3)(w:SZ)(base:SL){K:X3}
abbrev dP:Stmt:=inClass (top 11) 1
def jV:gV Qi Qi (ai dP):=by constructor<;>first | rfl | decide +kernel
def aP(F:Gv K "new_node" "Nodes.new_node" dP f e)(b:Meth K C "new_node" f)(B:HA mg)(a:Hc K mg C D) :
  MtAt P w K mg base 1 (gX K C D) 0 "new_node" Qi [false,false,M] aH:=ka F b a.FY (fI (by decide +kernel) (by decide +kernel)) jV L L (λ_ _ _ _ _ _ g d=>by obtain⟨_,_,_,_,rfl⟩:=L2.Er d;rfl) λ_ _ _ _ _ _ _ h =>
  (ag (pS gJ (eU 1 (eO a) (bJ 0)) (ae (qv 1) ah))
  (ag (pS gJ (eU 2 (eB a) (bJ 0)) (ae (qv 2) ah))
  (ag (yX gJ (eU 3 (dw a) (bJ 0)) L L Q4 L L L L L L L L)
  (aq (bC (g8 sG sy (cU B.Gi (ae (w_fld gJ (eO a) (qv 0)) ah)) ak))))))
abbrev dU:Stmt:=inClass (top 11) 0
def jI:gV Qm Qm (ai dU):=by constructor<;>first | rfl | decide +kernel
def b8(F:Gv K "__init__" "Nodes.__init__" dU f g)(d:Mk K C f)(B:HA mg)(a:Hc K mg C D)(h:MtAt P w K mg base 1 (gX K C D) 0 "new_node" Qi [false,false,M] aH) :
  InAt P w K mg base 2 (gX K C D) 0 0 "Nodes" Qm cT:=Dh F d a.Ka jI L L (λ_ _ _ _ _ _ i e=>by obtain⟨_,rfl⟩:=L2.ng e;rfl) λ_ _ _ _ _ _ _ b =>
  (ag (kh 0 1 gJ (eO a) (dQ ah))
  (ag (kh 0 2 gJ (eB a) (dQ ah))
  (ag (kh 0 3 gJ (dw a) (dQ ah))
  (aq (qV (gQ gJ h.at b (by decide) (bJ 0) (ae ak (ae wH (ae vZ ah)))) L)))))
abbrev bV:Stmt:=inClass (top 11) 4
def aX:gV ["self", "node", "sign", "old", "long", "half"] Qk (ai bV):=by constructor<;>first | rfl | decide +kernel
def aS(F:Gv K "node_just_behind" "Nodes.node_just_behind" bV f g)(d:Meth K C "node_just_behind" f)(B:HA mg)(a:Hc K mg C D)(h:MtAt P w K mg base 1 (gX K C D) 0 "new_node" Qi [false,false,M] aH) :
  MtAt P w K mg base 2 (gX K C D) 0 "node_just_behind" Qk [false,false] av:=ka F d a.FY (fI (by decide +kernel) (by decide +kernel)) aX L L (λ_ _ _ _ _ _ i e=>by obtain⟨_,_,_,rfl⟩:=L2.sS e;rfl) λ_ _ _ _ _ _ _ b =>
  (ag (aA (nP b (bq (w_fld gJ (dw a) (qv 0)) (qv 1) (λ_ _=>rfl)) (qv 2) (λ_ _=>rfl)) aX.nd L Q4)
  (ag (aA (w_add (bq (w_fld gJ (eO a) (qv 0)) (qv 1) (λ_ _=>rfl)) ak) aX.nd L Q4)
  (ag (cj (qu b (bq (w_fld gJ (eO a) (qv 0)) (qv 3) (λ_ _=>rfl)) (qv 4)) (aq (gA 3 L (Or.inl L) L L)) bT)
  (ag (o7 (gQ gJ h.at b (by decide) (bJ 0) (ae (qv 4) (ae (bq (w_fld gJ (eB a) (qv 0)) (qv 3) (λ_ _=>rfl)) (ae (zi B.Ip (ae (bq (w_fld gJ (dw a) (qv 0)) (qv 3) (λ_ _=>rfl)) ah) L L) ah)))) aX.nd L Q4 L Q4)
  (ag (jZ gJ b (eU 2 (eB a) (bJ 0)) (qv 3) (qv 5))
  (ag (i5 YZ (JH.L8 (pO (la (qv 1)) (oM (qu b (w_get b (bq (w_fld gJ (dw a) (qv 0)) (qv 1) (λ_ _=>rfl)) (qv 2) L L L L) (qv 3)))))
  (ag (jZ gJ b (Bd b (eU 3 (dw a) (bJ 0)) (qv 1) (λ_ _=>rfl) L) (qv 2) (qv 5))
  (aq (aA (bq (w_fld gJ (eB a) (qv 0)) (qv 1) (λ_ _=>rfl)) aX.nd L Q4))))
  (aq (gA 5 L (Or.inl L) L L))))))))
abbrev cX:Stmt:=inClass (top 11) 3
def bU:gV ["self", "head", "sign", "fresh", "node"] Qg (ai cX):=by constructor<;>first | rfl | decide +kernel
def bG(F:Gv K "head_behind" "Nodes.head_behind" cX f h)(e:Meth K C "head_behind" f)(B:HA mg)(b:Hc K mg C D)(i:MtAt P w K mg base 1 (gX K C D) 0 "new_node" Qi [false,false,M] aH)(d:MtAt P w K mg base 2 (gX K C D) 0 "node_just_behind" Qk [false,false] av) :
  MtAt P w K mg base 3 (gX K C D) 0 "head_behind" Qg [false,false] bE:=ka F e b.FY (fI (by decide +kernel) (by decide +kernel)) bU L L (λ_ _ _ _ _ _ j g=>by obtain⟨_,_,_,rfl⟩:=L2.sS g;rfl) λ_ _ _ _ _ _ _ a =>
  (ag (cj (EV a (qv 2) (bq (w_fld gJ (dw b) (qv 0)) (qv 1) (λ_ _=>rfl)) (by with_unfolding_all rfl) L) (aq (Ax (gQ gJ d.at a (by decide) (bJ 0) (ae (qv 1) (ae (qv 2) ah))))) bT)
  (ag (o7 (gQ gJ i.at a (by decide) (bJ 0) (ae (w_add (bq (w_fld gJ (eO b) (qv 0)) (qv 1) (λ_ _=>rfl)) ak) (ae ak (ae vZ ah)))) bU.nd L Q4 L Q4)
  (ag (aA (qv 1) bU.nd L Q4)
  (ag (i5 YZ (JH.L8 (pO (la (qv 4)) (oM (sD a (qv 2) (bq (w_fld gJ (dw b) (qv 0)) (qv 4) (λ_ _=>rfl)) (by with_unfolding_all rfl)))))
  (ag (jZ gJ a (Bd a (eU 3 (dw b) (bJ 0)) (qv 4) (λ_ _=>rfl) L) (qv 2) (qv 3))
  (aq (aA (bq (w_fld gJ (eB b) (qv 0)) (qv 4) (λ_ _=>rfl)) bU.nd L Q4))))
  (ag (cj (la (qv 4)) (aq (uf gJ a (eU 2 (eB b) (bJ 0)) (qv 3) (gQ gJ d.at a (by decide) (bJ 0) (ae (qv 4) (ae (qv 2) ah))) (λ_=>rfl) L L L)) bT)
  (aq (gA 3 L (Or.inl L) L L)))))))
abbrev dm:Stmt:=inClass (top 11) 2
def cW:gV ["self", "head", "word", "sign"] Qh (ai dm):=by constructor<;>first | rfl | decide +kernel
def bR(F:Gv K "head_grown" "Nodes.head_grown" dm f e)(b:Meth K C "head_grown" f)(B:HA mg)(h:Hc K mg C D)(g:MtAt P w K mg base 3 (gX K C D) 0 "head_behind" Qg [false,false] bE) :
  MtAt P w K mg base 4 (gX K C D) 0 "head_grown" Qh [false,false] aR:=ka F b h.FY (fI (by decide +kernel) (by decide +kernel)) cW L L (λ_ _ _ _ _ _ i d=>by obtain⟨_,_,_,rfl⟩:=L2.sS d;rfl) λ_ _ _ _ _ _ _ a =>
  (ag (fZ YZ L (dB (qv 2)) (bc 3 cW.nd L Q4 Q4)
  (aq (o7 (gQ gJ g.at a (by decide) (bJ 0) (ae (qv 1) (ae (qv 3) ah))) cW.nd L Q4 L Q4)))
  (aq (gA 1 L (Or.inl L) L L)))
abbrev bY:Stmt:=inClass (top 11) 6
def aK:gV ["self", "numbers", "met", "done", "ways", "sign"] Qm (ai bY):=by constructor<;>first | rfl | decide +kernel
def bg{m:Me}(F:Gv K "numbers_by_node" "Nodes.numbers_by_node" bY f g)(d:Meth K C "numbers_by_node" f)(B:HA mg)(b:Hc K mg C D) :
  MpAt P w K mg base 1 ((gX K C D).at m) 0 "numbers_by_node" Qm aD:=mn F d b.FY (fI (by decide +kernel) (by decide +kernel)) aK L L (λ_ _ _ _ _ _ h e=>by obtain⟨_,rfl⟩:=L2.ng e;rfl) λ_ _ _ _ _ _ a =>
  (ag (fq wc aK.nd L Q4)
  (ag (fq (dQ (ae ak ah)) aK.nd L Q4)
  (ag (aA ak aK.nd L Q4)
  (ag (i5 YZ (ft pN um iF (qv 3) (cU B.Gi (ae (qv 2) ah)) (iL _))
  (ag (aA (bq (w_fld gJ (dw b) (qv 0)) (bq (qv 2) (qv 3) (λ_ _=>rfl)) (λ_ _=>rfl)) aK.nd L Q4)
  (ag (fZ YZ L (dB (ui B.Hk (ae (qv 4) ah))) (bc 5 aK.nd L Q4 Q4)
  (aq (cj (sD a (nP a (qv 4) (qv 5) (λ_ _=>rfl)) (qv 1) (by with_unfolding_all rfl)) (ag (xU 1 a (nP a (qv 4) (qv 5) (λ_ _=>rfl)) (cU B.Gi (ae (qv 2) ah)) L Q4 L L (λ_=>rfl) L L L)
  (aq (iE 2 (ae (nP a (qv 4) (qv 5) (λ_ _=>rfl)) ah) L L Q4 L L))) bT)))
  (aq (aA (w_add (qv 3) ak) aK.nd L Q4)))))
  (iT 2 (aq (gA 1 L (Or.inl L) L L)))))))
abbrev fW:Stmt:=inClass (top 11) 7
def dh:gV ["self", "node", "numbers", "link", "ways", "steps"] Qj (ai fW):=by constructor<;>first | rfl | decide +kernel
def cG{m:Me}(F:Gv K "row_of" "Nodes.row_of" fW f g)(d:Meth K C "row_of" f)(B:HA mg)(a:Hc K mg C D) :
  MpAt P w K mg base 1 ((gX K C D).at m) 0 "row_of" Qj bO:=mn F d a.FY (fI (by decide +kernel) (by decide +kernel)) dh L L (λ_ _ _ _ _ _ h e=>by obtain⟨_,_,_,rfl⟩:=L2.sS e;rfl) λ_ _ _ _ _ _ b =>
  (ag (aA (bq (w_fld gJ (eB a) (qv 0)) (qv 1) (λ_ _=>rfl)) dh.nd L Q4)
  (ag (aA (bq (w_fld gJ (dw a) (qv 0)) (qv 1) (λ_ _=>rfl)) dh.nd L (Or.inr L))
  (ag (aA (tj B.Ju (ae (gU 1 Qn L (dB (ui B.Hk (ae (cJ 4 L (Or.inr Q4) L L) ah))) (fj) (λ_ _ _ _ _=>(bc 0 (show List.Nodup Qn from by decide +kernel) L Q4 (Or.inr L))) (λ_ _ _ _ _=>(jA (ae (qv 0) (ae (Bq b (cJ 3 L (Or.inr Q4) L L) (nP b (cJ 5 L (Or.inr Q4) L L) (qv 0) (λ_ _=>rfl)) (λ_ _=>rfl) L) ah)))) L L (by decide)) ah)) dh.nd L Q4)
  (ag (cj (wa (qv 3)) (aq (bC (jA (ae ak (ae ak (ae wH (ae (qv 5) ah))))))) bT)
  (aq (bC (jA (ae (w_add (bq (w_fld gJ (eO a) (qv 0)) (qv 3) (λ_ _=>rfl)) ak) (ae (bq (w_fld gJ (eO a) (qv 0)) (qv 1) (λ_ _=>rfl)) (ae (Bq b (cJ 2 L (Or.inr Q4) L L) (qv 3) (λ_ _=>rfl) L) (ae (qv 5) ah)))))))))))
abbrev gn:Stmt:=inClass (top 11) 5
def iJ:gV ["self", "numbers"] Qm (ai gn):=by constructor<;>first | rfl | decide +kernel
def dg{m:Me}(F:Gv K "table" "Nodes.table" gn f e)(b:Meth K C "table" f)(B:HA mg)(i:Hc K mg C D)(h:∀m,MpAt P w K mg base 1 ((gX K C D).at m) 0 "numbers_by_node" Qm aD)(g:∀m,MpAt P w K mg base 1 ((gX K C D).at m) 0 "row_of" Qj bO) :
  MpAt P w K mg base 2 ((gX K C D).at m) 0 "table" Qm dc:=mn F b i.FY (fI (by decide +kernel) (by decide +kernel)) iJ L L (λ_ _ _ _ _ _ j d=>by obtain⟨_,rfl⟩:=L2.ng d;rfl) λ_ _ _ _ _ _ a =>
  (ag (fq (iR (h _) a (by decide) (cJ 0 L (Or.inr Q4) L L) L) iJ.nd L (Or.inr L))
  (aq (CU 1 ["node", "self", "numbers"] L L (Or.inr Q4) L L (fj) (λ_ _ _ _ _=>(bc 0 (show List.Nodup (["node", "self", "numbers"]:List Str) from by decide +kernel) L Q4 (Or.inr L))) (λ_ _ _ _ _=>(AC (g _) a (by decide) (cJ 1 L (Or.inr Q4) L L) (ae (qv 0) (ae (cJ 2 L (Or.inr Q4) L L) ah)) L L L)) L L (by decide) (λ_=>rfl))))
abbrev eT:Stmt:=inClass (top 13) 1
def kC:gV Qm Qm (ai eT):=by constructor<;>first | rfl | decide +kernel
def cp(F:Gv K "begin" "Machine.begin" eT f e)(b:Meth K D "begin" f)(B:HA mg)(a:Hc K mg C D) :
  MtAt P w K mg base 1 (gX K C D) 1 "begin" Qm [] br:=ka F b a.FX (fI (by decide +kernel) (by decide +kernel)) kC L L (λ_ _ _ _ _ _ g d=>by obtain⟨_,rfl⟩:=L2.ng d;rfl) λ_ _ _ _ _ _ _ h =>
  (ag (cj (Fd (cU B.Gi (ae (w_fld gJ (dH a) (qv 0)) ah)) (uD B.Im L L)) (aq sL) bT)
  (ag (pS gJ (eU 4 (dH a) (bJ 0)) (ae (eW (by decide +kernel) (by decide)) ah))
  (ag (pS gJ (eU 5 (jU a) (bJ 0)) (ae ak ah))
  (aq (bC (g8 sG sy (cU B.Gi (ae (w_fld gJ (dH a) (qv 0)) ah)) ak))))))
abbrev jz:Stmt:=top 7
def qk:gV ["thing"] ["thing"] (ai jz):=by constructor<;>first | rfl | decide +kernel
def fN{m:Me}(F:Gv K "is_whole" "is_whole" jz f d)(a:mg "is_whole" = Z (.ref f))(B:HA mg)(h:Hc K mg C D) :
  FnAt P w K mg base 1 "is_whole" ["thing"] ((gX K C D).at m) jk:=jb F a qk L L (λ_ _ _ _ _ _ e b=>by obtain⟨_,rfl⟩:=L2.ng b;rfl) λ_ _ _ _ _ _ g =>
  (aq (bC (B0 (w_is .int B.Hl B.OD (qv 0)) (Cf (C5 (w_is .bool B.Hl B.MR (qv 0)))))))
abbrev dN:Stmt:=top 8
def jN:gV Qf Qf (ai dN):=by constructor<;>first | rfl | decide +kernel
def b6{m:Me}(F:Gv K "refuse_no_text" "refuse_no_text" dN f e)(b:mg "refuse_no_text" = Z (.ref f))(B:HA mg)(i:Hc K mg C D)(g:∀m,FnAt P w K mg base 1 "is_whole" ["thing"] ((gX K C D).at m) jk) :
  FnAt P w K mg base 2 "refuse_no_text" Qf ((gX K C D).at m) bf:=jb F b jN L L (λ_ _ _ _ _ _ h d=>by obtain⟨_,_,rfl⟩:=L2.eX d;rfl) λ_ _ _ _ _ _ a =>
  (aq (cj (JH.L8 (oZ (o9 (t6 (cV (g _) a (ae (qv 1) ah) (by decide) L L))) (oQ (o9 (mL ak (qv 1) (cU B.Gi (ae (qv 0) ah)) (by with_unfolding_all rfl)))))) (aq sL) bT))
abbrev jr:Stmt:=top 9
def qw:gV ["book"] ["book"] (ai jr):=by constructor<;>first | rfl | decide +kernel
def fU{m:Me}(F:Gv K "signs_in" "signs_in" jr f d)(a:mg "signs_in" = Z (.ref f))(B:HA mg)(h:Hc K mg C D) :
  FnAt P w K mg base 1 "signs_in" ["book"] ((gX K C D).at m) fQ:=jb F a qw L L (λ_ _ _ _ _ _ e b=>by obtain⟨_,rfl⟩:=L2.ng b;rfl) λ_ _ _ _ _ _ g =>
  (aq (bC (w_sum B.Oz (ae (gU 1 ["text", "book"] L (dB (qv 0)) (fj) (λ_ _ _ _ _=>(bc 0 (show List.Nodup (["text", "book"]:List Str) from by decide +kernel) L Q4 (Or.inr L))) (λ_ _ _ _ _=>(cU B.Gi (ae (qv 0) ah))) L L (by decide)) ah))))
abbrev fL:Stmt:=inClass (top 13) 2
def kS:gV Ql Ql (ai fL):=by constructor<;>first | rfl | decide +kernel
def cH(F:Gv K "grow" "Machine.grow" fL f g)(d:Meth K D "grow" f)(B:HA mg)(a:Hc K mg C D)(i:MtAt P w K mg base 4 (gX K C D) 0 "head_grown" Qh [false,false] aR)(j:∀m,FnAt P w K mg base 2 "refuse_no_text" Qf ((gX K C D).at m) bf)(h:∀m,FnAt P w K mg base 1 "signs_in" ["book"] ((gX K C D).at m) fQ) :
  MtAt P w K mg base 5 (gX K C D) 1 "grow" Ql [false,false] bp:=ka F d a.FX (fI (by decide +kernel) (by decide +kernel)) kS L L (λ_ _ _ _ _ _ l e=>by obtain⟨_,_,_,rfl⟩:=L2.sS e;rfl) λ_ _ _ _ _ _ _ b =>
  (ag (Da (cV (j _) b (ae (w_fld gJ (dH a) (qv 0)) (ae (qv 1) ah)) (by decide) L L) L)
  (ag (cj (E5 (w_add (cV (h _) b (ae (w_fld gJ (dH a) (qv 0)) ah) (by decide) L L) (cU B.Gi (ae (qv 2) ah))) (uD B.Io L L)) (aq sL) bT)
  (ag (uf gJ b (eU 5 (jU a) (bJ 0)) (qv 1) (gQ gJ i.at b (by decide) (eU 6 (mN a) (bJ 0)) (ae (bq (w_fld gJ (jU a) (qv 0)) (qv 1) (λ_ _=>rfl)) (ae (qv 2) ah))) (λ_=>rfl) L L L)
  (aq (jZ gJ b (eU 4 (dH a) (bJ 0)) (qv 1) (w_add (bq (w_fld gJ (dH a) (qv 0)) (qv 1) (λ_ _=>rfl)) (qv 2)))))))
abbrev bN:Stmt:=inClass (top 13) 0
def fg:gV ["self", "book", "text"] ["self", "book"] (ai bN):=by constructor<;>first | rfl | decide +kernel
def ba(F:JJ K "__init__" "Machine.__init__" bN f i)(g:Mk K D f)(B:HA mg)(a:Hc K mg C D)(j:MtAt P w K mg base 1 (gX K C D) 1 "begin" Qm [] br)(l:MtAt P w K mg base 5 (gX K C D) 1 "grow" Ql [false,false] bp)(m:InAt P w K mg base 2 (gX K C D) 0 0 "Nodes" Qm cT) :
  InAt P w K mg base 6 (gX K C D) 1 1 "Machine" ["self", "book"] aM:=zv F g a.IW fg L L (λ_ _ _ _ _ _ _ _ _ _ n X e d h=>by obtain⟨_,_,rfl⟩:=L2.eX h;exact PySem.W.binds_K X L e d L L) λ_ _ _ _ _ _ _ b =>
  (ag (kh 0 4 gJ (dH a) (dQ ah))
  (ag (kh 0 5 gJ (jU a) (dQ ah))
  (ag (kh 0 6 gJ (mN a) (Ac m.at b (by decide) L L))
  (aq (cj (la (qv 1)) (aq (fZ YZ L (dB (qv 1)) (bc 2 fg.nd L Q4 Q4)
  (aq (qV (Di l.at b (by decide) L Q4 L L (vP gJ j.at b (by decide) (bJ 0) L) (ae (qv 2) ah) L L L) L)))) bT)))))
abbrev fM:Stmt:=inClass (top 13) 3
def kU:gV Qm Qm (ai fM):=by constructor<;>first | rfl | decide +kernel
def iG{m:Me}(F:Gv K "book" "Machine.book" fM f e)(b:Meth K D "book" f)(B:HA mg)(a:Hc K mg C D) :
  MpAt P w K mg base 1 ((gX K C D).at m) 1 "book" Qm l6:=mn F b a.FX (fI (by decide +kernel) (by decide +kernel)) kU L L (λ_ _ _ _ _ _ g d=>by obtain⟨_,rfl⟩:=L2.ng d;rfl) λ_ _ _ _ _ _ h =>
  (aq (bC (o5 B.Je (ae (w_fld gJ (dH a) (qv 0)) ah))))
abbrev eY:Stmt:=inClass (top 13) 4
def kz:gV Qm Qm (ai eY):=by constructor<;>first | rfl | decide +kernel
def bD{m:Me}(F:Gv K "table" "Machine.table" eY f g)(d:Meth K D "table" f)(B:HA mg)(a:Hc K mg C D)(h:∀m,MpAt P w K mg base 2 ((gX K C D).at m) 0 "table" Qm dc) :
  MpAt P w K mg base 3 ((gX K C D).at m) 1 "table" Qm bu:=mn F d a.FX (fI (by decide +kernel) (by decide +kernel)) kz L L (λ_ _ _ _ _ _ i e=>by obtain⟨_,rfl⟩:=L2.ng e;rfl) λ_ _ _ _ _ _ b =>
  (aq (bC (iR (h _) b (by decide) (w_fld gJ (mN a) (qv 0)) L)))
abbrev gj:Stmt:=top 15
def lP:gV Q7 Q7 (ai gj):=by constructor<;>first | rfl | decide +kernel
def aV{m:Me}(F:Gv K "_law_cell_at" "_law_cell_at" gj f d)(a:mg "_law_cell_at" = Z (.ref f))(B:HA mg)(h:Hc K mg C D) :
  FnAt P w K mg base 1 "_law_cell_at" Q7 ((gX K C D).at m) aN:=jb F a lP L L (λ_ _ _ _ _ _ e b=>by obtain⟨_,_,rfl⟩:=L2.eX b;rfl) λ_ _ _ _ _ _ g =>
  (ag (cj (ft pN um iF (qv 1) (cU B.Gi (ae (qv 0) ah)) (iL _)) (aq (bC (bq (qv 0) (qv 1) (λ_ _=>rfl)))) bT)
  (aq (bC ak)))
abbrev ik:Stmt:=top 16
def gP:gV ["_law_cell", "_law_k", "_law_number"] Q5 (ai ik):=by constructor<;>first | rfl | decide +kernel
def b9{m:Me}(F:Gv K "_law_mixed" "_law_mixed" ik f d)(a:mg "_law_mixed" = Z (.ref f))(B:HA mg)(h:Hc K mg C D) :
  FnAt P w K mg base 1 "_law_mixed" Q5 ((gX K C D).at m) cK:=jb F a gP L L (λ_ _ _ _ _ _ e b=>by obtain⟨_,_,rfl⟩:=L2.eX b;rfl) λ_ _ _ _ _ _ g =>
  (ag (aA (w_mod (w_add (w_add (w_mod (qv 0) ak) (g8 lX mI ak (qv 1))) ak) ak) gP.nd L Q4)
  (ag (aA (w_add (w_mod (g8 lX mI (qv 2) (qv 2)) ak) (g8 lX mI ak (qv 1))) gP.nd L Q4)
  (aq (bC (w_mod (g8 lX mI (qv 2) (qv 2)) ak)))))
abbrev jx:Stmt:=top 17
def cM:gV ["_law_script", "_law_letters_here", "_law_most", "_law_j", "_law_cell", "_law_size", "_law_signs", "_law_k"] Q8 (ai jx):=by constructor<;>first | rfl | decide +kernel
def fJ{m:Me}(F:Gv K "_law_text" "_law_text" jx f g)(d:mg "_law_text" = Z (.ref f))(B:HA mg)(j:Hc K mg C D)(b:∀m,FnAt P w K mg base 1 "_law_cell_at" Q7 ((gX K C D).at m) aN)(h:∀m,FnAt P w K mg base 1 "_law_mixed" Q5 ((gX K C D).at m) cK) :
  FnAt P w K mg base 2 "_law_text" Q8 ((gX K C D).at m) dr:=jb F d cM L L (λ_ _ _ _ _ _ i e=>by obtain⟨_,_,_,_,rfl⟩:=L2.Er e;rfl) λ_ _ _ _ _ _ a =>
  (ag (aA (cV (b _) a (ae (qv 0) (ae (w_add ak (qv 3)) ah)) (by decide) L L) cM.nd L Q4)
  (ag (aA (w_mod (qv 4) (w_add (qv 2) ak)) cM.nd L Q4)
  (ag (aA (iQ (qv 4) (w_add (qv 2) ak)) cM.nd L Q4)
  (ag (fq (dQ ah) cM.nd L Q4)
  (ag (fZ YZ L (js (qv 5) L B.HB) (bc 7 cM.nd L Q4 Q4)
  (aq (cj (qu a (w_mod (cV (b _) a (ae (qv 0) (ae ak ah)) (by decide) L L) ak) ak) (ag (iE 6 (ae (bq (qv 1) (w_mod (qv 4) (cU B.Gi (ae (qv 1) ah))) (λ_ _=>rfl)) ah) L L Q4 L L)
  (aq (aA (iQ (qv 4) (cU B.Gi (ae (qv 1) ah))) cM.nd L Q4))) (aq (iE 6 (ae (bq (qv 1) (w_mod (iQ (cV (h _) a (ae (qv 4) (ae (w_add (g8 lX mI ak (qv 3)) (qv 7)) ah)) (by decide) L L) ak) (cU B.Gi (ae (qv 1) ah))) (λ_ _=>rfl)) ah) L L Q4 L L)))))
  (iT 6 (aq (bC (oK (eW (by decide +kernel) (by decide)) (ae (qv 6) ah))))))))))
abbrev jl:Stmt:=top 18
def cI:gV ["_law_script", "_law_cell", "_law_letters_here", "_law_count", "_law_most"] Q9 (ai jl):=by constructor<;>first | rfl | decide +kernel
def fO{m:Me}(F:Gv K "_law_book" "_law_book" jl f e)(b:mg "_law_book" = Z (.ref f))(B:HA mg)(j:Hc K mg C D)(h:∀m,FnAt P w K mg base 1 "_law_cell_at" Q7 ((gX K C D).at m) aN)(g:∀m,FnAt P w K mg base 2 "_law_text" Q8 ((gX K C D).at m) dr) :
  FnAt P w K mg base 3 "_law_book" Q9 ((gX K C D).at m) g0:=jb F b cI L L (λ_ _ _ _ _ _ i d=>by obtain⟨_,rfl⟩:=L2.ng d;rfl) λ_ _ _ _ _ _ a =>
  (ag (aA (cV (h _) a (ae (cJ 0 L (Or.inr Q4) L L) (ae ak ah)) (by decide) L L) cI.nd L Q4)
  (ag (aA (bq (dQ (ae (eW (by decide +kernel) (by decide)) (ae (eW (by decide +kernel) (by decide)) (ae (eW (by decide +kernel) (by decide)) (ae (eW (by decide +kernel) (by decide)) (ae (eW (by decide +kernel) (by decide)) (ae (eW (by decide +kernel) (by decide)) ah))))))) (w_mod (iQ (qv 1) ak) ak) (λ_ _=>rfl)) cI.nd L (Or.inr L))
  (ag (aA (bq (dQ (ae ak (ae ak (ae ak (ae ak (ae ak (ae ak (ae ak (ae ak ah))))))))) (w_mod (iQ (qv 1) ak) ak) (λ_ _=>rfl)) cI.nd L Q4)
  (ag (aA (bq (dQ (ae ak (ae ak (ae ak (ae ak ah))))) (g8 sG sy (Df B.OB (ae (qv 3) (ae ak ah))) ak) (λ_ _=>rfl)) cI.nd L (Or.inr L))
  (ag (cj (qu a (w_mod (iQ (qv 1) ak) ak) ak) (aq (aA (iQ ak (Cb B.OC (ae ak (ae (qv 3) ah)))) cI.nd L (Or.inr L))) bT)
  (ag (cj (JH.L8 (pO (qu a (qv 3) ak) (oM (lE a (w_mod (iQ (qv 1) ak) ak) ak)))) (aq (aA ak cI.nd L (Or.inr L))) bT)
  (aq (bC (gU 1 Q6 L (js (qv 3) L B.HB) (fj) (λ_ _ _ _ _=>(bc 0 (show List.Nodup Q6 from by decide +kernel) L Q4 (Or.inr L))) (λ_ _ _ _ _=>(cV (g _) a (ae (cJ 1 L (Or.inr Q4) L L) (ae (cJ 3 L (Or.inr Q4) L L) (ae (cJ 5 L (Or.inr Q4) L L) (ae (qv 0) ah)))) (by decide) L L)) L L (by decide))))))))))
abbrev gk:Stmt:=top 19
def dF:gV ["_law_script", "_law_left", "_law_other", "_law_k"] Q9 (ai gk):=by constructor<;>first | rfl | decide +kernel
def cx{m:Me}(F:Gv K "_law_letters" "_law_letters" gk f e)(b:mg "_law_letters" = Z (.ref f))(B:HA mg)(j:Hc K mg C D)(h:∀m,FnAt P w K mg base 1 "_law_cell_at" Q7 ((gX K C D).at m) aN)(g:∀m,FnAt P w K mg base 1 "_law_mixed" Q5 ((gX K C D).at m) cK) :
  FnAt P w K mg base 2 "_law_letters" Q9 ((gX K C D).at m) de:=jb F b dF L L (λ_ _ _ _ _ _ i d=>by obtain⟨_,rfl⟩:=L2.ng d;rfl) λ_ _ _ _ _ _ a =>
  (ag (fq (o5 B.Je (ae (eW (by decide +kernel) (by decide)) ah)) dF.nd L Q4)
  (ag (fq (dQ ah) dF.nd L Q4)
  (ag (fZ YZ L (js ak L B.HB) (bc 3 dF.nd L Q4 Q4)
  (aq (zm 2 L (Or.inl L) L L (Bz 1 (ae (w_mod (cV (g _) a (ae (cV (h _) a (ae (qv 0) (ae ak ah)) (by decide) L L) (ae (qv 3) ah)) (by decide) L L) (cU B.Gi (ae (qv 1) ah))) ah) L L Q4 L L L L L) L L L L L L L)))
  (iT 1 (aq (gA 2 L (Or.inl L) L L))))))
abbrev fE:Stmt:=top 20
def kZ:gV Qd Qd (ai fE):=by constructor<;>first | rfl | decide +kernel
def bZ{m:Me}(F:Gv K "_law_exchange" "_law_exchange" fE f e)(b:mg "_law_exchange" = Z (.ref f))(B:HA mg)(h:Hc K mg C D) :
  FnAt P w K mg base 1 "_law_exchange" Qd ((gX K C D).at m) bL:=jb F b kZ L L (λ_ _ _ _ _ _ g d=>by obtain⟨_,_,rfl⟩:=L2.eX d;rfl) λ_ _ _ _ _ _ a =>
  (aq (bC (oK (eW (by decide +kernel) (by decide)) (ae (gU 1 Qb L (dB (qv 0)) (fj) (λ_ _ _ _ _=>(bc 0 (show List.Nodup Qb from by decide +kernel) L Q4 (Or.inr L))) (λ_ _ _ _ _=>(nP a (cJ 2 L (Or.inr Q4) L L) (qv 0) (λ_ _=>rfl))) L L (by decide)) ah))))
abbrev iI:Stmt:=top 21
def aY:gV ["_law_table", "_law_other", "_law_names", "_law_pairs", "_law_met", "_law_at", "_law_one", "_law_two", "_law_ways", "_law_sign", "_law_number", "_law_there", "_law_k"] Qc (ai iI):=by constructor<;>first | rfl | decide +kernel
def eJ{m:Me}(F:Gv K "_law_alike" "_law_alike" iI f e)(b:mg "_law_alike" = Z (.ref f))(B:HA mg)(h:Hc K mg C D) :
  FnAt P w K mg base 1 "_law_alike" Qc ((gX K C D).at m) eA:=jb F b aY L L (λ_ _ _ _ _ _ g d=>by obtain⟨_,_,_,rfl⟩:=L2.sS d;rfl) λ_ _ _ _ _ _ a =>
  (ag (fq (dQ (ae (jA (ae ak (ae ak ah))) ah)) aY.nd L Q4)
  (ag (fq wc aY.nd L Q4)
  (ag (aA ak aY.nd L Q4)
  (ag (i5 YZ (ft pN um iF (qv 5) (cU B.Gi (ae (qv 3) ah)) (iL _))
  (ag (vR (bq (qv 3) (qv 5) (λ_ _=>rfl)) (pD L (fD (bc 6 aY.nd L Q4 Q4) (fD (bc 7 aY.nd L Q4 Q4) mE))) L L L)
  (ag (aA (zr B.Ip (ae (bq (bq (qv 1) (qv 7) (λ_ _=>rfl)) ak (λ_ _=>rfl)) ah)) aY.nd L Q4)
  (ag (cj (JH.L8 (oZ (lE a (yU (bq (qv 0) (qv 6) (λ_ _=>rfl))) (yU (bq (qv 1) (qv 7) (λ_ _=>rfl)))) (oQ (lE a (cU B.Gi (ae (qv 8) ah)) (cU B.Gi (ae (bq (bq (qv 0) (qv 6) (λ_ _=>rfl)) ak (λ_ _=>rfl)) ah)))))) (aq (bC n4)) bT)
  (ag (fZ YZ L (dB (bq (bq (qv 0) (qv 6) (λ_ _=>rfl)) ak (λ_ _=>rfl))) (pD L (fD (bc 9 aY.nd L Q4 Q4) (fD (bc 10 aY.nd L Q4 Q4) mE)))
  (ag (aA (w_get a (qv 8) (nP a (qv 2) (qv 9) (λ_ _=>rfl)) L L L L) aY.nd L Q4)
  (ag (cj (JH.L8 (oZ (wa (qv 11)) (oQ (lE a (Ck a (qv 4) (qv 10) (qv 11) L L L L) (qv 11))))) (aq (bC n4)) bT)
  (aq (cj (sD a (qv 10) (qv 4) (by with_unfolding_all rfl)) (ag (xU 4 a (qv 10) (qv 11) L Q4 L L (λ_=>rfl) L L L)
  (aq (iE 3 (ae (jA (ae (qv 10) (ae (qv 11) ah))) ah) L L Q4 L L))) bT)))))
  (aq (aA (w_add (qv 5) ak) aY.nd L Q4)))))))
  (iT 4 (iT 3 (ag (cj (JH.L8 (oZ (lE a (cU B.Gi (ae (qv 4) ah)) (cU B.Gi (ae (qv 0) ah))) (oQ (lE a (cU B.Gi (ae (qv 4) ah)) (cU B.Gi (ae (qv 1) ah)))))) (aq (bC n4)) bT)
  (ag (fZ YZ L (sv ak (cU B.Gi (ae (qv 0) ah)) L B.HB) (bc 12 aY.nd L Q4 Q4)
  (aq (cj (lE a (nP a (qv 4) (bq (bq (qv 0) (qv 12) (λ_ _=>rfl)) ak (λ_ _=>rfl)) (λ_ _=>rfl)) (bq (bq (qv 1) (nP a (qv 4) (qv 12) (λ_ _=>rfl)) (λ_ _=>rfl)) ak (λ_ _=>rfl))) (aq (bC n4)) bT)))
  (aq (bC n4))))))))))
abbrev jE:Stmt:=top 22
def fT:gV ["_law_script", "_law_book_here", "_law_letters_here", "_law_table", "_law_names", "_law_other", "_law_used_signs", "_law_rising", "_law_due", "_law_row"] Q9 (ai jE):=by constructor<;>first | rfl | decide +kernel
def Cv{m:Me}(F:Gv K "law" "law" jE f e)(B:HA mg)(l:Hc K mg C D)(b:InAt P w K mg base 6 (gX K C D) 1 1 "Machine" ["self", "book"] aM)(d:∀m,MpAt P w K mg base 3 ((gX K C D).at m) 1 "table" Qm bu)(j:∀m,FnAt P w K mg base 1 "_law_alike" Qc ((gX K C D).at m) eA)(i:∀m,FnAt P w K mg base 3 "_law_book" Q9 ((gX K C D).at m) g0)(h:∀m,FnAt P w K mg base 1 "_law_exchange" Qd ((gX K C D).at m) bL)(g:∀m,FnAt P w K mg base 2 "_law_letters" Q9 ((gX K C D).at m) de) :
  FnOk P w K mg base GX 8 f e Q9 (Iq ((gX K C D).at m) xF):=Rn F fT L L λ_ _ _ _ _ _ a =>
  (ag (aA (cV (i _) a (ae (qv 0) ah) (by decide) L L) fT.nd L Q4)
  (ag (aA (eW (by decide +kernel) (by decide)) fT.nd L Q4)
  (ag (aA (iR (d _) a (by decide) (rV b.at a (by decide) (ae (o5 B.Je (ae (qv 1) ah)) ah) xr L L L L) L) fT.nd L Q4)
  (ag (aA (tN B.Ip B.LX (ae (qv 2) (ae (cV (g _) a (ae (qv 0) ah) (by decide) L L) ah)) L L L L L L L) fT.nd L (Or.inr L))
  (ag (aA (iR (d _) a (by decide) (rV b.at a (by decide) (ae (gU 1 Qe L (dB (qv 1)) (fj) (λ_ _ _ _ _=>(bc 0 (show List.Nodup Qe from by decide +kernel) L Q4 (Or.inr L))) (λ_ _ _ _ _=>(cV (h _) a (ae (qv 0) (ae (cJ 5 L (Or.inr Q4) L L) ah)) (by decide) L L)) L L (by decide)) ah) xr L L L L) L) fT.nd L Q4)
  (ag (cj (o9 (t6 (cV (j _) a (ae (qv 3) (ae (qv 5) (ae (cJ 4 L (Or.inr Q4) L L) ah))) (by decide) L L))) (aq (bC n4)) bT)
  (ag (aA (pw B.Hk B.OA (ae (oK (eW (by decide +kernel) (by decide)) (ae (qv 1) ah)) ah)) fT.nd L Q4)
  (ag (aA (vi B.Hk (ae (wx (cV (g _) a (ae (qv 0) ah) (by decide) L L) p5 (p7 (cU B.Gi (ae (qv 6) ah))) L) ah)) fT.nd L Q4)
  (ag (aA (tN B.Ip B.LX (ae (qv 6) (ae (qv 7) ah)) L L L L L L L) fT.nd L (Or.inr L))
  (ag (fq (dQ ah) fT.nd L Q4)
  (ag (fZ YZ L (dB (qv 3)) (bc 9 fT.nd L Q4 Q4)
  (aq (iE 8 (ae (g8 (Ar L) zu (yU (qv 9)) (jA (ae (tj B.Ju (ae (gU 2 Qa L (dB (bq (qv 9) ak (λ_ _=>rfl))) (xu (fj) (fj)) (λ_ _ _ _ _=>(pD L (fD (bc 0 (show List.Nodup Qa from by decide +kernel) L Q4 (Or.inr L)) (fD (bc 1 (show List.Nodup Qa from by decide +kernel) L Q4 (Or.inr L)) mE)))) (λ_ _ _ _ _=>(jA (ae (nP a (cJ 6 L (Or.inr Q4) L L) (qv 0) (λ_ _=>rfl)) (ae (qv 1) ah)))) L L (by decide)) ah)) ah))) ah) L L Q4 L L)))
  (iT 8 (aq (bC (B4 (xD a.units) Ba (iR (d _) a (by decide) (rV b.at a (by decide) (ae (gU 1 Qe L (dB (qv 1)) (fj) (λ_ _ _ _ _=>(bc 0 (show List.Nodup Qe from by decide +kernel) L Q4 (Or.inr L))) (λ_ _ _ _ _=>(cV (h _) a (ae (qv 0) (ae (cJ 5 L (Or.inr Q4) L L) ah)) (by decide) L L)) L L (by decide)) ah) xr L L L L) L) (qv 8) (iL _))))))))))))))))
end
abbrev gN(K:X3)(x:Str)(f:KF):Prop:=PySem.W.nsIn K mainGlobals x=Z (Z (.ref f))
abbrev gZ(K:X3)(x:Str):Prop:=PySem.W.nsIn K mainGlobals x=Z Y
def all_mk{l:PySem.W.OpenLaw}{K:X3}(X:K.In h)(G:h.Ns mainGlobals b)(VC:b "law" = Z (.ref fa))(QN:∀ns:Vu,xF [.scr ns]=Z (.fr,.bl M))(a0:Meth K C "new_node" f0)(F0:Gv K "new_node" "Nodes.new_node" dP f0 XY)(a1:Mk K C f1)(F1:Gv K "__init__" "Nodes.__init__" dU f1 XX)(a2:Meth K C "node_just_behind" f2)(F2:Gv K "node_just_behind" "Nodes.node_just_behind" bV f2 XU)(a3:Meth K C "head_behind" f3)(F3:Gv K "head_behind" "Nodes.head_behind" cX f3 XN)(a4:Meth K C "head_grown" f4)(F4:Gv K "head_grown" "Nodes.head_grown" dm f4 WC)(a5:Meth K C "numbers_by_node" f5)(F5:Gv K "numbers_by_node" "Nodes.numbers_by_node" bY f5 V9)(a6:Meth K C "row_of" f6)(F6:Gv K "row_of" "Nodes.row_of" fW f6 V8)(a7:Meth K C "table" f7)(F7:Gv K "table" "Nodes.table" gn f7 V7)(a8:Meth K D "begin" f8)(F8:Gv K "begin" "Machine.begin" eT f8 V6)(a9:gN K "is_whole" f9)(F9:Gv K "is_whole" "is_whole" jz f9 V5)(J:gN K "refuse_no_text" Tw)(F10:Gv K "refuse_no_text" "refuse_no_text" dN Tw RC)(H:gN K "signs_in" Tv)(F11:Gv K "signs_in" "signs_in" jr Tv RB)(E:Meth K D "grow" Tu)(F12:Gv K "grow" "Machine.grow" fL Tu RA)(A:Mk K D N)(UN:K.lookup N=Z ⟨P7,P5,.func (PySem.W.fnOf "__init__" "Machine.__init__" (cE bN) (aZ bN) (ai bN) (.ref f) Qx RK PQ RM Ow RL),PJ⟩)(i:PySem.W.codeIn K Ow "Machine.__init__" = M)(UR:PySem.W.keepIn K (.ref N)=M)(Ug:K.lookup f=Z NC)(T6:NC.data=.seq #[.none] Qq)(z:Meth K D "book" Tt)(F14:Gv K "book" "Machine.book" fM Tt Rz)(y:Meth K D "table" Tr)(F15:Gv K "table" "Machine.table" eY Tr Ry)(u:gN K "_law_cell_at" Tq)(F16:Gv K "_law_cell_at" "_law_cell_at" gj Tq Rx)(t:gN K "_law_mixed" Tp)(F17:Gv K "_law_mixed" "_law_mixed" ik Tp Rw)(r:gN K "_law_text" To)(F18:Gv K "_law_text" "_law_text" jx To Rv)(q:gN K "_law_book" Tn)(U:Gv K "_law_book" "_law_book" jl Tn Ru)(p:gN K "_law_letters" Tj)(S:Gv K "_law_letters" "_law_letters" gk Tj Rt)(o:gN K "_law_exchange" Ti)(R:Gv K "_law_exchange" "_law_exchange" fE Ti Rr)(n:gN K "_law_alike" Th)(Q:Gv K "_law_alike" "_law_alike" iI Th Rq)(j:gN K "law" O)(UM:K.lookup O=Z ⟨P6,P4,.func (PySem.W.fnOf "law" "law" (cE jE) (aZ jE) (ai jE) .none NM Ot Nz OE P Ou),PH⟩)(g:PySem.W.codeIn K P "law" = M)(UQ:PySem.W.keepIn K (.ref O)=M)(L1:gZ K "bool")(LZ:gZ K "dict")(Nj:gZ K "int")(HX:gZ K "isinstance")(Ni:gZ K "len")(LY:gZ K "list")(Nh:gZ K "max")(Ng:gZ K "min")(KZ:gZ K "range")(Nf:gZ K "set")(JT:gZ K "sorted")(Nd:gZ K "sum")(KY:gZ K "tuple")(Nc:gZ K "zip")(HZ:PySem.W.nsIn K mainGlobals "MOST_SIGNS" = Z (Z (.int 120 Ie)))(HY:PySem.W.nsIn K mainGlobals "MOST_TEXTS" = Z (Z (.int 8 Ic)))(w_Nodes:gN K "Nodes" C)(FY:Hs K C)(GL:aU K C "longs")(GN:aU K C "links")(GT:aU K C "ways")(GJ:aU K C "texts")(GO:aU K C "heads")(GK:aU K C "nodes")(w_Machine:gN K "Machine" D)(FX:Hs K D)(GB:aU K D "longs")(GC:aU K D "links")(GH:aU K D "ways")(Gz:aU K D "texts")(GD:aU K D "heads")(GA:aU K D "nodes")
  : ∃fd:Pv,(∀(s:GM)(v:KM),BindsTo s fd ⟨[v],[]⟩ [("_law_script",v)])/\∀base:SL,K.In base->base.Ns mainGlobals b->FnOk l.prog w K b base GX 8 fa fd Q9 (Iq (Ob K) zx):=by
 have e:=VC.symm.trans (Yl X G j);cases e;have B:HA b:=⟨Z8 X G L1,Z8 X G LZ,Z8 X G Nj,Z8 X G HX,Z8 X G Ni,Z8 X G LY,Z8 X G Nh,Z8 X G Ng,Z8 X G KZ,Z8 X G Nf,Z8 X G JT,Z8 X G Nd,Z8 X G KY,Z8 X G Nc,⟨_,Yl X G HZ⟩,⟨_,Yl X G HY⟩⟩
 have a:Hc K b C D:=⟨FY,Yl X G w_Nodes,GL,GN,GT,GJ,GO,GK,FX,Yl X G w_Machine,GB,GC,GH,Gz,GD,GA⟩
 refine⟨PySem.W.fnOf "law" "law" (cE jE) (aZ jE) (ai jE) .none NM Ot Nz OE P Ou,λs v=>.of_eq L,λbase _ _=>?_⟩;have aP:=aP l.prog w base F0 a0 B a;have b8:=b8 l.prog w base F1 a1 B a aP;have aS:=aS l.prog w base F2 a2 B a aP;have bG:=bG l.prog w base F3 a3 B a aP aS;have bR:=bR l.prog w base F4 a4 B a bG;have bg:=λm=>bg (m:=m) l.prog w base F5 a5 B a;have cG:=λm=>cG (m:=m) l.prog w base F6 a6 B a;have dg:=λm=>dg (m:=m) l.prog w base F7 a7 B a bg cG;have cp:=cp l.prog w base F8 a8 B a;have fN:=λm=>fN (m:=m) l.prog w base F9 (Yl X G a9) B a;have b6:=λm=>b6 (m:=m) l.prog w base F10 (Yl X G J) B a fN;have fU:=λm=>fU (m:=m) l.prog w base F11 (Yl X G H) B a;have cH:=cH l.prog w base F12 E B a bR b6 fU;have ba:=ba l.prog w base ⟨⟨_,_,_,_,_,_,_,_,_,_,_,_,rfl,UN,i,Ug,T6⟩,UR⟩ A B a cp cH b8;have iG:=λm=>iG (m:=m) l.prog w base F14 z B a;have bD:=λm=>bD (m:=m) l.prog w base F15 y B a dg;have aV:=λm=>aV (m:=m) l.prog w base F16 (Yl X G u) B a;have b9:=λm=>b9 (m:=m) l.prog w base F17 (Yl X G t) B a;have fJ:=λm=>fJ (m:=m) l.prog w base F18 (Yl X G r) B a aV b9;have fO:=λm=>fO (m:=m) l.prog w base U (Yl X G q) B a aV fJ;have cx:=λm=>cx (m:=m) l.prog w base S (Yl X G p) B a aV b9;have bZ:=λm=>bZ (m:=m) l.prog w base R (Yl X G o) B a;have eJ:=λm=>eJ (m:=m) l.prog w base Q (Yl X G n) B a;exact Av L (Cv l.prog w base (m:=λ_=>Y) (xH (st:=jE) UM g UQ) B a ba bD eJ fO bZ cx) QN
end T12
open PySem PySem.W PyProof.Rows PySem.W.X PySem.W.ZRun
set_option maxRecDepth 100000 in
set_option maxHeartbeats 0 in
theorem PySem.Challenge.cw_allparts_k12_whole_other_letters_holds : PySem.Challenge.rw_allparts_k12_whole_other_letters.Holds := by
 w_on;o_law;z_head;(case hw=>w_witness2)
 k_fill
 intro w s₀ s₁ mg mb G y fa o pm cd doc dV kV ho hd hcd hD hmg hg args vals as L hpre hlay hrd hwl hlo
 z_open y L KX ZH ZN ZT
 clear ZH ZN ZT;refine VS.wk (l:=PySem.Challenge.rw_allparts_k12_whole_other_letters) (k:=8) (x := "_law_script") (g:=VS.zx) rfl rfl ⟨rfl,by decide,by decide⟩ (fun _=>rfl) ?F w s₀ s₁ mg mb G KX fa o pm cd doc dV kV ho hd hcd hD hmg hg args vals as hpre hlay hrd hwl hlo
 case F =>
  intro w mg fa h KX G hmg;apply T12.all_mk KX G hmg T12.yD
  (case w_Nodes=>unfold T12.gN;k_is)
  (case w_Machine=>unfold T12.gN;k_is)
  all_goals first | (refine' L2.xH ?l ?c ?k;(case l=>k_is);(case c=>k_is);(case k=>k_is)) | (refine' ⟨?l,?c,?k⟩;(case l=>k_is);(case c=>k_is);(case k=>k_is)) | (refine' ⟨?l,?c,?k,?d⟩;(case l=>k_is);(case c=>k_is);(case k=>k_is);(case d=>k_is)) | (unfold T12.gN;k_is) | (unfold T12.gZ;k_is) | (unfold L2.aU;k_is) | k_is | exact rfl | kernel_rfl
end
