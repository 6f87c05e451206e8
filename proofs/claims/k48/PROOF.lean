import PyProof.Rows.All
import Wide.All
import OpenK.AllK
import PySem.Challenge.RW_allparts_k48_rests_and_ways
set_option linter.all false
set_option bootstrap.genMatcherCode false
set_option genSizeOf false
set_option genInjectivity false
noncomputable section
namespace PySem.W.Fast
def tw3292130964206283856:True:=⟨⟩
def tw10940840521095465717:True:=⟨⟩
def tw10341742492773636443:True:=⟨⟩
def tw7558405037972070338:True:=⟨⟩
def tw6239943495663827978:True:=⟨⟩
def tw5674264731763977916:True:=⟨⟩
def tw11775059104229476506:True:=⟨⟩
def tw11890481842789943777:True:=⟨⟩
def tw17057940834007459263:True:=⟨⟩
def tw1802666282354941741:True:=⟨⟩
def tw6455337484859025289:True:=⟨⟩
def tw3340511338658857430:True:=⟨⟩
def tw17067448231001235836:True:=⟨⟩
def tw10985656737041971152:True:=⟨⟩
def tw11353686088300902631:True:=⟨⟩
def tw4785800792583383125:True:=⟨⟩
def tw13316294557514463953:True:=⟨⟩
def tw10356025298290111962:True:=⟨⟩
def tw3283170855035709506:True:=⟨⟩
def tw10818399245316548049:True:=⟨⟩
def tw3653399626604396851:True:=⟨⟩
def tw17034946869228784044:True:=⟨⟩
def tw2664792100509195349:True:=⟨⟩
def tw15530841842030860495:True:=⟨⟩
def tw8968013347837986773:True:=⟨⟩
def tw17859760103025564595:True:=⟨⟩
def tw2861422687391306586:True:=⟨⟩
def tw8188519585016667253:True:=⟨⟩
def tw7109832079806232887:True:=⟨⟩
def tw11670896932861046743:True:=⟨⟩
def tw12911776551533000058:True:=⟨⟩
def tw9005407410315295387:True:=⟨⟩
def tw18196174152016630766:True:=⟨⟩
def tw8301456644192315157:True:=⟨⟩
def tw3648071060730654583:True:=⟨⟩
def tw14279764095752452902:True:=⟨⟩
def tw13430846802939911940:True:=⟨⟩
def tw13656572267277663057:True:=⟨⟩
def tw15141432726833550900:True:=⟨⟩
def tw676112208863050350:True:=⟨⟩
def tw2096955227055107519:True:=⟨⟩
def tw6326186180074147620:True:=⟨⟩
def tw18142700535882612908:True:=⟨⟩
def tw10394010932911179489:True:=⟨⟩
def tw9251033962208267456:True:=⟨⟩
def tw13321934534388603427:True:=⟨⟩
def tw14247626198281720530:True:=⟨⟩
def tw15464319135712394028:True:=⟨⟩
def tw5762474462882864141:True:=⟨⟩
def tw5562343024581788141:True:=⟨⟩
def tw10356833453457781777:True:=⟨⟩
def tw10566246933155801561:True:=⟨⟩
def tw5972806446058787641:True:=⟨⟩
def tw16685931800538462736:True:=⟨⟩
def tw2440880137181281516:True:=⟨⟩
def tw4880790427161962469:True:=⟨⟩
def tw10771150670918325570:True:=⟨⟩
def tw16966412052463061174:True:=⟨⟩
def tw12650742807143064104:True:=⟨⟩
def tw14511002211113851404:True:=⟨⟩
def tw7407663359757505340:True:=⟨⟩
def tw4268813382333717759:True:=⟨⟩
def tw11818109818295934001:True:=⟨⟩
def tw2710148070256460332:True:=⟨⟩
def tw8654030151217985415:True:=⟨⟩
def tw2546343467817232363:True:=⟨⟩
def tw3731684949238337945:True:=⟨⟩
def tw13946039927037518060:True:=⟨⟩
def tw5279634248123843591:True:=⟨⟩
def tw15697694346328104924:True:=⟨⟩
def tw12429353622302249842:True:=⟨⟩
def tw2407464452758933949:True:=⟨⟩
def tw14114362356105015262:True:=⟨⟩
def tw6444119541167153339:True:=⟨⟩
def tw784665356131650653:True:=⟨⟩
def tw1141062361394170653:True:=⟨⟩
def tw16665464923920024731:True:=⟨⟩
def tw12296475559778724578:True:=⟨⟩
def tw3693937538864761576:True:=⟨⟩
def tw13835503879159092400:True:=⟨⟩
def tw11340167006727063536:True:=⟨⟩
def tw10336460611282425522:True:=⟨⟩
def tw1584694488794504085:True:=⟨⟩
def tw7635336141365208551:True:=⟨⟩
def tw6364747286910774345:True:=⟨⟩
def tw14681816068839963162:True:=⟨⟩
def tw18120578579987411069:True:=⟨⟩
def tw16412678242415049981:True:=⟨⟩
def tw7168215758568815045:True:=⟨⟩
def tw7065899382277590285:True:=⟨⟩
def tw8486226537306763842:True:=⟨⟩
def tw10651965322066690255:True:=⟨⟩
def tw8829430715687277770:True:=⟨⟩
def tw936262551643711152:True:=⟨⟩
def tw679324026198444614:True:=⟨⟩
def tw15642408736626668775:True:=⟨⟩
def tw4093891701641443891:True:=⟨⟩
def tw6150685340734771892:True:=⟨⟩
def tw582469478909013567:True:=⟨⟩
def tw12869891804739827562:True:=⟨⟩
def tw12150334863596053382:True:=⟨⟩
def tw4004789431701986549:True:=⟨⟩
def tw12045223193343756354:True:=⟨⟩
def tw11722114998575339200:True:=⟨⟩
def tw423041372076454671:True:=⟨⟩
def tw16139646244758237358:True:=⟨⟩
def tw10482546028485552549:True:=⟨⟩
def tw1488523905712073495:True:=⟨⟩
def tw18403214102501911121:True:=⟨⟩
def tw695928002469384781:True:=⟨⟩
def tw13473843223531470422:True:=⟨⟩
def tw4246194459841906091:True:=⟨⟩
def tw2724939691030840764:True:=⟨⟩
def tw560623946555673192:True:=⟨⟩
def tw11694287502779248891:True:=⟨⟩
def tw14861795926183618513:True:=⟨⟩
def tw12611033964724793723:True:=⟨⟩
def tw2283527369976999081:True:=⟨⟩
def tw16499235265511867276:True:=⟨⟩
def tw4021491760387986638:True:=⟨⟩
def tw11207757993179210840:True:=⟨⟩
def tw10639130835524217668:True:=⟨⟩
def tw12191389304589276630:True:=⟨⟩
def tw6945779732809692675:True:=⟨⟩
def tw5607096284273314505:True:=⟨⟩
def tw7025631047163484606:True:=⟨⟩
def tw120649414435334223:True:=⟨⟩
def tw8486711555504998227:True:=⟨⟩
def tw3252251698576615907:True:=⟨⟩
def tw5745525728360423879:True:=⟨⟩
def tw16971099348357105978:True:=⟨⟩
def tw8057040343390956297:True:=⟨⟩
def tw5475195281447362658:True:=⟨⟩
def tw16931567132788238332:True:=⟨⟩
def tw10053260543130527426:True:=⟨⟩
def tw4111398220992065131:True:=⟨⟩
def tw2196829602815698510:True:=⟨⟩
def tw12719692031705356541:True:=⟨⟩
def tw3674563454885953319:True:=⟨⟩
def tw3674419567568484520:True:=⟨⟩
def tw15154667867446930115:True:=⟨⟩
def tw2574992503851771011:True:=⟨⟩
def tw12429899945238971697:True:=⟨⟩
def tw76762082113399676:True:=⟨⟩
def tw5920068552683302430:True:=⟨⟩
def tw4019415120366863425:True:=⟨⟩
def tw3273620562517672891:True:=⟨⟩
def tw10774295897627591208:True:=⟨⟩
def tw5795212262602333433:True:=⟨⟩
def tw7757092155154137480:True:=⟨⟩
def tw10371301974843607990:True:=⟨⟩
def tw7800326909211859484:True:=⟨⟩
def tw7611813992168977102:True:=⟨⟩
def tw7751376584496162424:True:=⟨⟩
def tw12736508960599522463:True:=⟨⟩
def tw9234301454662944748:True:=⟨⟩
def tw9443694159698680757:True:=⟨⟩
def tw816522906989802848:True:=⟨⟩
def tw15653995596495023510:True:=⟨⟩
def tw10717671208970776145:True:=⟨⟩
def tw7589198864017486677:True:=⟨⟩
def tw1461596069057152323:True:=⟨⟩
def tw14392071081152530524:True:=⟨⟩
def tw9100252517727458253:True:=⟨⟩
def tw8957588855350746367:True:=⟨⟩
def tw444939805032679414:True:=⟨⟩
def tw10430991862785065580:True:=⟨⟩
def tw6452106386587585703:True:=⟨⟩
def tw17488029006250348040:True:=⟨⟩
def tw12184012407563006195:True:=⟨⟩
def tw2850535752809312208:True:=⟨⟩
def tw6104550131545999449:True:=⟨⟩
def tw13416211871636005255:True:=⟨⟩
def tw3058608145899407055:True:=⟨⟩
def tw6090203566430599685:True:=⟨⟩
def tw3746754386720976745:True:=⟨⟩
def tw17386090303755794171:True:=⟨⟩
def tw14482711510518294458:True:=⟨⟩
def tw6023781936563464770:True:=⟨⟩
def tw9870042731896938256:True:=⟨⟩
def tw7450003565514994459:True:=⟨⟩
def tw6711103665727432639:True:=⟨⟩
def tw3967847419838215530:True:=⟨⟩
def tw1832048571861421219:True:=⟨⟩
def tw13391852180426140158:True:=⟨⟩
def tw9316025222584951974:True:=⟨⟩
def tw6297373440806895097:True:=⟨⟩
def tw6123569114640554170:True:=⟨⟩
def tw18377352066065893990:True:=⟨⟩
def tw15470725180801797510:True:=⟨⟩
def tw12651016101241083152:True:=⟨⟩
def tw971742349020829735:True:=⟨⟩
def tw9102492831205636057:True:=⟨⟩
def tw4508670369522351649:True:=⟨⟩
def tw3628438150615102426:True:=⟨⟩
def tw3321796836810640116:True:=⟨⟩
def tw17232461174232026352:True:=⟨⟩
def tw1555267825243349528:True:=⟨⟩
def tw1518513024294543086:True:=⟨⟩
def tw12734819355632323739:True:=⟨⟩
def tw12371174774354646939:True:=⟨⟩
def tw1607892212943620830:True:=⟨⟩
def tw961838213273421057:True:=⟨⟩
def tw9490245267758671054:True:=⟨⟩
def tw9433937603819132348:True:=⟨⟩
def tw8736477899337212104:True:=⟨⟩
def tw8213327578943008911:True:=⟨⟩
def tw8107331551800778395:True:=⟨⟩
def tw7494844592643232115:True:=⟨⟩
def tw7272645609236706055:True:=⟨⟩
def tw7051539148225083426:True:=⟨⟩
def tw6781422365614775043:True:=⟨⟩
def tw6607039021175658279:True:=⟨⟩
def tw6337125253569032674:True:=⟨⟩
def tw6295701154829762331:True:=⟨⟩
def tw6292807813939866786:True:=⟨⟩
def tw6102950084586294531:True:=⟨⟩
def tw6061698172435722443:True:=⟨⟩
def tw5644487763269501598:True:=⟨⟩
def tw5635843965721507977:True:=⟨⟩
def tw5589188848676325775:True:=⟨⟩
def tw5374958677029816969:True:=⟨⟩
def tw5290865670499164774:True:=⟨⟩
def tw4844508651692244602:True:=⟨⟩
def tw4404449175380483147:True:=⟨⟩
def tw4280085320557763542:True:=⟨⟩
def tw3739470745061448045:True:=⟨⟩
def tw3099580496728963589:True:=⟨⟩
def tw2879817710248340086:True:=⟨⟩
def tw18347022386819404869:True:=⟨⟩
def tw18199771569474090927:True:=⟨⟩
def tw17969951139319015232:True:=⟨⟩
def tw17947152261559525580:True:=⟨⟩
def tw17938056177368599608:True:=⟨⟩
def tw17621693403093668012:True:=⟨⟩
def tw17490891520966983467:True:=⟨⟩
def tw16823535545702932926:True:=⟨⟩
def tw16712875220507609012:True:=⟨⟩
def tw16427058657900999941:True:=⟨⟩
def tw16422569855098684187:True:=⟨⟩
def tw16382952361016191422:True:=⟨⟩
def tw1633093673923348645:True:=⟨⟩
def tw15443219953282082306:True:=⟨⟩
def tw15092638649722254494:True:=⟨⟩
def tw14558629865502107134:True:=⟨⟩
def tw14441704927458707318:True:=⟨⟩
def tw14123148911758049235:True:=⟨⟩
def tw13964411989114665751:True:=⟨⟩
def tw13343270911155392221:True:=⟨⟩
def tw13005691127200413540:True:=⟨⟩
def tw12892033348506747184:True:=⟨⟩
def tw12690118506092255362:True:=⟨⟩
def tw12561212744086575465:True:=⟨⟩
def tw12407619957650974388:True:=⟨⟩
def tw12251737515041596096:True:=⟨⟩
def tw12006925898598409571:True:=⟨⟩
def tw11979035567395234666:True:=⟨⟩
def tw11933648851976199391:True:=⟨⟩
def tw1107758534391491514:True:=⟨⟩
def tw10678338858872922423:True:=⟨⟩
def tw1047401354898244700:True:=⟨⟩
def tw10402405755633285349:True:=⟨⟩
def tw10281362284423534625:True:=⟨⟩
end PySem.W.Fast
open Option renaming some->Y, none->J
open Bool renaming true->M, false->B
theorem q0(h:True:=by first | exact .inl L | exact .inr L | assumption):True:=h
theorem q1(h:True:=by decide):True:=h
theorem q2(h:True:=by intro _;rfl):True:=h
theorem q3(h:True:=by rfl):True:=h
theorem q4(h:True:=by with_unfolding_all rfl):True:=h
theorem q5(h:True:=by first | exact Or.inl L | exact Or.inr (Or.inl L) | exact Or.inr (Or.inr L)):True:=h
theorem q6(h:True:=by first | exact Or.inl L | exact Or.inr L):True:=h
theorem q7(h:True:=by first | exact .inl L | exact .inr L):True:=h
theorem q8(h:True:=by exact rfl):True:=h
theorem q9(h:True:=by exact .inl L):True:=h
set_option hygiene false
local macro_rules|`({`q0,$x})=>`(autoParam $x q0._auto_1)|`({`q1,$x})=>`(autoParam $x q1._auto_1)|`({`q2,$x})=>`(autoParam $x q2._auto_1)|`({`q3,$x})=>`(autoParam $x q3._auto_1)|`({`q4,$x})=>`(autoParam $x q4._auto_1)|`({`q5,$x})=>`(autoParam $x q5._auto_1)|`({`q6,$x})=>`(autoParam $x q6._auto_1)|`({`q7,$x})=>`(autoParam $x q7._auto_1)|`({`q8,$x})=>`(autoParam $x q8._auto_1)|`({`q9,$x})=>`(autoParam $x q9._auto_1)
theorem L.{u}{α:Sort u}{a:α}:a=a:=rfl
open PySem renaming Shared->KB, model->KF, sizeLine->KM, Addr->On, Value->PP, wpAny->Pi, starEach->P3, FuncData->Re, Program->SB, Around->SC, keywordEach->SZ, compareOp->UV, Heap->XAA, World->XAB, attributeBase->XAC, foldedSetIterable->XAD
open PyProof.Rows renaming Keyed->Pv, SortSt->SL, pendingOf->UF
set_option linter.all false
set_option maxRecDepth 100000
set_option Elab.async false
set_option maxHeartbeats 4000000
abbrev Ki:=PySem.Value->PySem.Shared->Prop
abbrev Km:=List (PySem.Addr×PySem.Obj)
abbrev Yx:=List (List PySem.Addr)
abbrev X2:=PySem.W.Frag
abbrev Wv:=PySem.Str->Option PySem.Value
abbrev W9:=List PySem.Addr
abbrev Vz:=List PySem.Value
abbrev V9:=Option PySem.Value
abbrev Uz:=List Nat
abbrev Uy:=List Int
abbrev Ux:=List (List (List Nat))
abbrev Zp:=@if_pos
abbrev Zo:=@if_neg
abbrev ZS:=@decide_eq_false
open Option renaming bind_eq_some_iff->Zz,map_eq_some_iff->Zy,bind_some->Zu,isSome_iff_exists->YS,isSome_map->Xj,getD_some->Wa,map_some->Vm
open List renaming mem_cons_of_mem->Zx,length_map->Zw,mem_cons_self->Zv,getD_eq_getElem?_getD->Zt,length_append->Zs,getElem?_eq_getElem->Zq,map_cons->Zm,mem_cons->Zi,length_cons->Zf,append_assoc->Ze,mem_append->Zc,getElem?_eq_some_iff->Zb,mem_singleton->ZZ,nodup_cons->ZY,getElem?_map->ZP,append_nil->ZM,zip_cons_cons->ZJ,mem_append_right->ZI,flatten_cons->ZG,nodup_append->ZF,size_toArray->ZE,mem_map->ZC,length_range->MH,all_eq_true->Mz,pairwise_append->Nv,map_map->LU,length_singleton->NN,length_drop->Yz,map_append->Yy,suffix_refl->Yw,length_take->Yv,getElem_mem->Yu,getElem?_append_left->Yt,take_of_length_le->Ys,mem_of_getElem?->Yr,getElem?_append_right->Yq,getElem?_eq_none->Yo,nodup_nil->Yn,mem_append_left->Yl,length_set->Yi,find?_cons->Yh,getElem_of_mem->Yf,nil_append->Ye,mem_range->Yd,take_append_drop->YZ,flatten_append->YX,getElem?_set_ne->YU,sublist_cons_self->YT,lookup_cons->YR,mem_of_mem_take->YO,mem_of_mem_drop->YN,mem_filter->YM,length_zip->YL,any_cons->YK,drop_eq_nil_of_le->YI,pairwise_iff_getElem->YH,getElem?_eq_none_iff->YG,drop_eq_getElem_cons->YF,idxOf_lt_length_iff->YD,suffix_nil->YA,getElem?_replicate->Y3,pairwise_map->Y5,isSuffixOf_iff_suffix->Y6,filterMap_cons->Y8,foldl_cons->Y9,perm_append_comm->Xz,length_replicate->Xy,map_congr_left->Xr,any_eq_true->Xp,length_filter_le->Xn,sublist_append_right->Xm,getElem?_zip_eq_some->Xl,sum_cons->Xf,all_cons->Xe,getD_cons_succ->Xc,mem_reverse->Xa,length_eq_zero_iff->XZ,take_append_of_le_length->XT,getElem?_set_self->XQ,drop_of_length_le->XO,getElem_take->XG,getElem_drop->XF,replicate_succ->X9,pairwise_cons->Wu,mem_filterMap->Wt,length_range'->Ws,getElem_idxOf->Wr,map_set->Wh,drop_zero->Wg,getElem?_toArray->Wc,cons_lt_cons_iff->Wb,zipIdx_cons->WY,not_mem_nil->WX,drop_append->WW,eq_nil_of_length_eq_zero->WU,nil_suffix->WT,map_id->W4,range'_succ->Vw,pairwise_singleton->Vv,nodup_range->Vu,getElem?_cons_succ->Vt,cons_append->Vs,flatten_singleton->Vp,set_getElem_self->Vi,cons_prefix_cons->Vh,range_eq_range'->Vd,not_lt->Vc,filter_sublist->VX,findIdx?_cons->VP,mem_range'_1->VC,getElem?_set->VB,ext_getElem?->VA,all_map->V0,take_prefix->V3,take_length->V4,mem_flatten->V5,map_fst_zip->V6,getElem_inj->V7,append_cons->V8
open PySem renaming wpAny_bind->Zr,wpAny_pure->Zk,wpAny_truthy_bool->Y0,wpAny_holding->Y2,wpAny_mono->Xw,sizeLine_eq->Xb,tupleKind_room_in1->XD,wpAny_passesOwn->XC,codeAny_builtin->XB,mem_of_lookup->X7,wpAny_Call_Name_kw->We,wpAny_setState_of->WV,wpAny_call_entry->WO,wpAny_typeNameOfWhole_keyiter->WI,codeAny_mono->W7,wpAny_newObj_type->Vn,plainId_quiet->Vk,wpAny_forIn_list->Vf,wpAny_execs_nil->VU
open Nat renaming le_refl->Zn,lt_of_lt_of_le->Zg,le_add_right->Zd,ne_of_lt->Za,le_trans->ZR,le_of_lt->ZQ,lt_of_le_of_lt->ZL,le_of_not_lt->ZD,zero_le->ZA,le_of_lt_succ->MJ,lt_succ_of_lt->M0,lt_succ_self->Yk,sub_le->Yb,pos_of_ne_zero->Ya,add_lt_add_left->YY,min_eq_left->YV,zero_add->YJ,lt_irrefl->YE,le_add_left->YB,lt_of_succ_lt->Xv,add_sub_cancel_left->Xu,le_antisymm->Xs,min_le_right->Xq,le_sub_one_of_lt->Xi,add_assoc->Xg,add_le_add_left->Xd,succ_pos->XS,add_sub_cancel->XR,succ_le_succ->X3,lt_trans->X4,le_of_eq->X5,add_sub_cancel'->X8,zero_lt_of_lt->Wm,ne_of_gt->Wk,min_self->Wj,lt_of_succ_lt_succ->Wi,le_of_not_le->WZ,add_comm->WK,sub_lt->WG,lt_of_le_of_ne->WE,sub_pos_of_lt->WB,le_succ_of_le->WA,le_succ->W0,add_sub_assoc->W3,min_eq_right->Vy,lt_add_of_pos_right->Vx,mod_lt->Vr,lt_or_ge->Vq,zero_lt_one->Vl,sub_one_lt_of_le->Ve,sub_le_sub_left->VY,lt_or_eq_of_le->VQ,sub_self->VH,lt_succ_of_le->VG,lt_of_succ_le->VF,add_zero->VE,add_sub_of_le->VD,lt_of_not_le->V2
open Option.some renaming inj->Zl
open PySem.Heap renaming get?_push_of_some->Zj,lt_size->ZO,get?_push_size->ZK,get?_push_ne->XX,size_push->XJ,get?_update_self->WQ,size_update->Vb,get?_update_other->VW
open Bool renaming false_ne_true->Zh,and_eq_true_iff->ZX,and_eq_true->Yj,false_eq_true->Y1,eq_iff_iff->Ww,true_and->VT,true_eq_false->VN
open Array renaming getElem_mem->ZW,getElem?_toList->Nw,length_toList->Ym,toList_append->YW,getElem?_eq_getElem->Xk,toList_extract->Xh,size_push->XI,size_append->XE,perm_iff_toList_perm->X1,getD_eq_getD_getElem?->WJ,getElem?_eq_some_iff->WC,toList_push->W6,toList_reverse->Va,size_extract->VM
open PyProof.Rows renaming wpS_pure->ZV,wpS_bind->ZU,wpS_forRange->YQ,wpS_mono->XU,wpS_modify->WR,callWith_type1->WM,wpS_get->Vg
open PySem.W renaming mg_of->Yp,mg_none_of->Yc,kia_one->YC,plainGet_of->VZ,callWith_K->VR
open PySem.PassesOwn renaming never->Yg
open Ne renaming symm->Y4
open Int renaming toNat_natCast->Y7,emod_lt_of_pos->Xo,emod_nonneg->XM,natCast_nonneg->WD
open List.Perm renaming refl->XY
open PySem.Around renaming under_plainId->XW
open Prod.mk renaming inj->XA
open PySem.F renaming slot_dict_keyiterator_next->X0,type_list_append->Wz,slot_list_append->Wy,plainAttrs_list->Wq,slot_tuple_getattribute->Vo,slot_dict_get->Vj
open Classical renaming byContradiction->X6
open List.cons renaming injEq->Wx,inj->W8
open PySem.Paired renaming length->Wp
open List.Sublist renaming refl->Wf
open PySem.Heap.SameBut renaming update->W5
open List.Nodup renaming sublist->VO
open Prod renaming ext->VJ
open Nat.succ renaming inj->VI
open PyProof.Rows.F renaming plain_set_update_loop->V1
section
namespace L2
def ai{G:Prop}(h:∀P:Prop,(G->P)->P):G:=h G id
end L2
namespace VS
noncomputable abbrev Tx:=Uz
inductive T where
 |non | bl (b:Bool) | int (i:Int) | str (s:Tx) | scr (ns:Uy)
 |tup (l:List T) | lst (l:List T) | dct (kd:Nat) (l:List (T×T)) | obj (c:Nat) (fs:List (Nat×T))
 deriving Inhabited
abbrev Ut:=List T
noncomputable def fI:Nat:=16777216
mutual
def Kh:T->Bool
 |.lst _=>B
 |.dct _ _=>B
 |.obj _ _=>B
 |.tup l=>gE l
 |_=>M
def gE:Ut->Bool
 |[]=>M
 |t :: r=>Kh t&&gE r
end
mutual
@[simp] def eqT:T->T->Bool
 |.non,.non=>M
 |.bl a,.bl b=>a==b
 |.bl a,.int i=>(if a then 1 else 0)==i
 |.int i,.bl a=>i==(if a then 1 else 0)
 |.int i,.int j=>i==j
 |.str s,.str t=>s==t
 |.tup a,.tup b=>oJ a b
 |.lst a,.lst b=>oJ a b
 |_,_=>B
def oJ:Ut->Ut->Bool
 |[],[]=>M
 |a :: d,b :: bs=>eqT a b&&oJ d bs
 |_,_=>B
end
noncomputable def LW:Nat->T->Bool
 |_,.non=>M
 |_,.bl _=>M
 |_,.int _=>M
 |_,.str _=>M
 |n+1,.tup l=>l.all (LW n)
 |n+1,.lst l=>l.all (LW n)
 |_,_=>B
inductive Md where | fr | pu | bo
 deriving DecidableEq,Inhabited
noncomputable def Md.join:Md->Md->Md
 |.bo,_=>.bo
 |_,.bo=>.bo
 |.pu,_=>.pu
 |_,.pu=>.pu
 |.fr,.fr=>.fr
inductive Cell where | pu (t:T) | ow (t:T)
 deriving Inhabited
abbrev Uw:=Option Cell
noncomputable abbrev Env:=List (Uw)
noncomputable abbrev Val:=Md×T
abbrev Uu:=Option Val
abbrev Uv:=List Val
abbrev Ex:=Env->Uu
abbrev Kx:=Env->Option (Uv)
@[simp] def up(m:Md)(t:T):Val:=(if Kh t then .fr else m,t)
noncomputable def pd:T->Bool
 |.lst _=>M
 |.dct _ _=>M
 |.obj _ _=>M
 |_=>B
@[simp] def cellOf:Val->Uw
 | (.fr,t)=>Y (if pd t then .ow t else .pu t)
 | (.pu,t)=>Y (.pu t)
 | (.bo,_)=>J
inductive Out where | nx (U:Env) | rt (v:Val) (U:Env) | bk (U:Env) | ct (U:Env)
abbrev Sx:=Env->Option Out
@[simp] noncomputable def eC(t:T)(_:Env):Uu:=Y (.fr,t)
abbrev Q3(i:Int):Ex:=eC (.int i)
@[simp] def aa(i:Nat)(U:Env):Uu:=match U[i]? with
 |some (some (.pu t))=>Y (up .pu t)
 |some (some (.ow t))=>Y (.bo,t)
 |_=>J
@[simp] noncomputable def e1(f:Val->Uu)(a:Ex)(U:Env):Uu:=(a U).bind f
@[simp] noncomputable def e2(f:Val->Val->Uu)(a b:Ex)(U:Env):Uu:=(a U).bind λx=>(b U).bind λy=>f x y
@[simp] noncomputable def aj(_:Env):Option (Uv):=Y []
@[simp] noncomputable def ae(a:Ex)(r:Kx)(U:Env):Option (Uv):=(a U).bind λx=>(r U).bind λb=>Y (x :: b)
@[simp] noncomputable def eN(f:Uv->Uu)(a:Kx)(U:Env):Uu:=(a U).bind f
@[simp] def cH:Uv->Md
 |[]=>.fr
 |v :: r=>v.1.join (cH r)
@[simp] noncomputable def trees(l:Uv):Ut:=l.map (·.2)
def NC(m:Md)(l:Ut):Uu:=if l.length<=fI then Y (if gE l then .fr else m,.lst l) else J
@[simp] def dN(a:Kx)(U:Env):Uu:=(a U).bind λl=>NC (cH l) (trees l)
def qw(l:Uv):Uu:=if l.length<=fI then Y (up (cH l) (.tup (trees l))) else J
@[simp] def kB(a:Kx)(U:Env):Uu:=(a U).bind qw
def dput(l:List (T×T))(k v:T):List (T×T):=if l.any (λp=>eqT p.1 k) then l.map (λp=>if eqT p.1 k then (p.1,v) else p) else l++[(k,v)]
noncomputable def iu:T->Bool
 |.int _=>M
 |.str _=>M
 |_=>B
def keyOk:Nat->T->Bool
 |0,t=>iu t
 |1,.tup l=>l.all iu
 |_,_=>B
noncomputable def pairs:List (Ex×Ex)->Env->Option (List (Val×Val))
 |[],_=>Y []
 | (a,b) :: r,U=>(a U).bind λx=>(b U).bind λy=>(pairs r U).map ((x,y) :: ·)
def vh(a:Nat)(b:List (Ex×Ex))(U:Env):Uu:=(pairs b U).bind λl=>if l.all (λp=>keyOk a p.1.2)/\l.length<=15 then
 Y (cH (l.map (·.2)),.dct a (l.foldl (λd p=>dput d p.1.2 p.2.2) [])) else J
noncomputable def Pe:T->Option Bool
 |.bl b=>Y b
 |.int i=>Y (i != 0)
 |.str s=>Y (!s.isEmpty)
 |.lst l=>Y (!l.isEmpty)
 |.tup l=>Y (!l.isEmpty)
 |.dct 0 l=>Y (!l.isEmpty)
 |.non=>Y B
 |_=>J
@[simp] noncomputable def l5(a b:Ex)(U:Env):Uu:=(a U).bind λx=>match x.2 with
 |.bl true=>b U
 |.bl false=>Y (.fr,.bl B)
 |_=>J
@[simp] noncomputable def P0(a b:Ex)(U:Env):Uu:=(a U).bind λx=>match x.2 with
 |.bl true=>Y (.fr,.bl M)
 |.bl false=>b U
 |_=>J
@[simp] noncomputable def rQ(a:Ex)(U:Env):Uu:=(a U).bind λx=>match x.2 with
 |.bl b=>Y (.fr,.bl (!b))
 |_=>J
noncomputable def Sw:T->Bool
 |.non=>M
 |_=>B
@[simp] def HH(a:Ex)(U:Env):Uu:=(a U).bind λx=>Y (.fr,.bl (Sw x.2))
@[simp] def fP(a:Ex)(U:Env):Uu:=(a U).bind λx=>Y (.fr,.bl (!Sw x.2))
@[simp] noncomputable def iA(f g:Val->Val->Uu)(a b c:Ex)(U:Env):Uu:=(a U).bind λx=>(b U).bind λy=>(f x y).bind λr=>match r.2 with
 |.bl true=>(c U).bind λz=>g y z
 |.bl false=>Y (.fr,.bl B)
 |_=>J
@[simp] noncomputable def int?:T->Option Int
 |.int i=>Y i
 |_=>J
def cu:Val->Val->Uu
 | (_,.int i),(_,.int j)=>Y (.fr,.int (i+j))
 | (_,.str s),(_,.str t)=>if s.length+t.length<=fI then Y (.fr,.str (s++t)) else J
 | (m,.lst s),(n,.lst t)=>NC (m.join n) (s++t)
 |_,_=>J
@[simp] noncomputable def vi:Val->Val->Uu
 | (_,.int i),(_,.int j)=>Y (.fr,.int (i-j))
 |_,_=>J
noncomputable def Sh:Int:=4611686018427387904
noncomputable def UJ:Int:=18446744073709551616
def ie:Val->Val->Uu
 | (_,.int i),(_,.int j)=>if (-UJ<i/\i<UJ)\/(-UJ<j/\j<UJ) then Y (.fr,.int (i*j)) else J
 |_,_=>J
def wZ:Val->Val->Uu
 | (_,.str s),(_,.int j)=>if s.length*j.toNat<=fI/\-Sh<=j/\j<Sh then Y (.fr,.str (List.replicate j.toNat s).flatten) else J
 |_,_=>J
noncomputable def lM:Val->Val->Uu
 | (_,.int i),(_,.int j)=>if 0<j/\j<1073741824 then Y (.fr,.int (i/j)) else J
 |_,_=>J
noncomputable def oMod:Val->Val->Uu
 | (_,.int i),(_,.int j)=>if 0<j then Y (.fr,.int (i%j)) else J
 |_,_=>J
noncomputable def Os:Tx->Tx->Bool
 |[],[]=>B
 |[],_ :: _=>M
 |_ :: _,[]=>B
 |a :: d,b :: bs=>if a<b then M else if b<a then B else Os d bs
@[simp] def oLt:Val->Val->Uu
 | (_,.int i),(_,.int j)=>Y (.fr,.bl (decide (i<j)))
 | (_,.str s),(_,.str t)=>Y (.fr,.bl (Os s t))
 |_,_=>J
@[simp] def oLe:Val->Val->Uu
 | (_,.int i),(_,.int j)=>Y (.fr,.bl (decide (i<=j)))
 | (_,.str s),(_,.str t)=>Y (.fr,.bl (!Os t s))
 |_,_=>J
@[simp] def OK(a b:Val):Uu:=oLt b a
@[simp] def Ti(a b:Val):Uu:=oLe b a
@[simp] def oEq(a b:Val):Uu:=if LW 60 a.2/\LW 60 b.2 then Y (.fr,.bl (eqT a.2 b.2)) else J
@[simp] def NU(a b:Val):Uu:=if LW 60 a.2/\LW 60 b.2 then Y (.fr,.bl (!eqT a.2 b.2)) else J
def eA(l:List (T×T))(k:T):Option T:=(l.find? λp=>eqT p.1 k).map (·.2)
noncomputable def Ll(n:Nat)(i:Int):Option Nat:=if 0<=i then (if i<n then Y i.toNat else J) else (if 0<=i+n then Y (i+n).toNat else J)
@[simp] def sub(m:Md)(t:T):Val:=up m t
@[simp] def aE:Val->Val->Uu
 | (m,.lst l),(_,.int i)=>(Ll l.length i).bind λk=>(l[k]?).map (sub m)
 | (m,.tup l),(_,.int i)=>(Ll l.length i).bind λk=>(l[k]?).map (sub m)
 | (_,.scr l),(_,.int i)=>(Ll l.length i).bind λk=>(l[k]?).map λn=>(.fr,.int n)
 | (_,.str l),(_,.int i)=>(Ll l.length i).bind λk=>(l[k]?).map λn=>(.fr,.str [n])
 |_,_=>J
noncomputable def clip(n:Nat)(i:Int):Nat:=if i<0 then (i+n).toNat else min i.toNat n
def cut{α:Type}(l:List α)(a b:Option Int):List α :=
 let lo:=match a with | none=>0 | some i=>clip l.length i
 let hi:=match b with | none=>l.length | some i=>clip l.length i
 (l.drop lo).take (hi-lo)
@[simp] def oSl(v:Val)(a b:Option Int):Uu:=match v with
 | (_,.str s)=>Y (.fr,.str (cut s a b))
 | (m,.lst l)=>NC m (cut l a b)
 |_=>J
@[simp] def sL(c:Option Ex)(U:Env):Option (Option Int):=match c with
 |none=>Y J
 |some e=>(e U).bind λy=>(int? y.2).map Y
@[simp] def PZ(a:Ex)(b d:Option Ex)(U:Env):Uu:=(a U).bind λx=>(sL b U).bind λl=>(sL d U).bind λh=>oSl x l h
noncomputable def JR:T->Option Nat
 |.lst l=>Y l.length
 |.tup l=>Y l.length
 |.str l=>Y l.length
 |.scr l=>Y l.length
 |.dct 0 l=>Y l.length
 |_=>J
@[simp] def cq:Uv->Uu
 |[x]=>(JR x.2).map λn=>(.fr,.int n)
 |_=>J
noncomputable def sM:Ut->Option (Uy)
 |[]=>Y []
 |.int i :: r=>(sM r).map (i :: ·)
 |_=>J
noncomputable def strs?:Ut->Option (List Tx)
 |[]=>Y []
 |.str i :: r=>(strs? r).map (i :: ·)
 |_=>J
def DL:Uv->Uu
 |[(_,.lst l)]=>(sM l).bind λa=>Y (.fr,.int a.sum)
 |_=>J
@[simp] def EE:Uv->Uu
 |[(m,.lst l)]=>NC m l
 |[(m,.tup l)]=>NC m l
 |_=>J
def kC:Uv->Uu
 |[(m,.lst l)]=>if l.length<=fI then Y (up m (.tup l)) else J
 |_=>J
def qx(x:Tx):List Tx->List Tx
 |[]=>[x]
 |y :: r=>if Os y x then y :: qx x r else x :: y :: r
def fE(l:List Tx):List Tx:=l.foldr qx []
inductive Ty where | int | str | bool | list | tuple | dict
@[simp] noncomputable def tK:Ty->T->Bool
 |.int,.int _=>M
 |.int,.bl _=>M
 |.bool,.bl _=>M
 |.str,.str _=>M
 |.list,.lst _=>M
 |.tuple,.tup _=>M
 |.dict,.dct _ _=>M
 |_,_=>B
@[simp] noncomputable def xm:T->Bool
 |.obj _ _=>B
 |.scr _=>B
 |.dct 0 _=>M
 |.dct 1 _=>M
 |.dct _ _=>B
 |_=>M
@[simp] def eIs(t:Ty)(a:Ex)(U:Env):Uu:=(a U).bind λx=>if xm x.2 then Y (.fr,.bl (tK t x.2)) else J
noncomputable def total:List Tx->Nat
 |[]=>0
 |x :: r=>x.length+total r
noncomputable def dy(a:Tx):List Tx->Tx
 |[]=>[]
 |[x]=>x
 |x :: r=>x++a++dy a r
def lK:Val->Uv->Uu
 | (_,.str sep),[(_,.lst l)]=>(strs? l).bind λa=>if total a+a.length*sep.length<=fI then Y (.fr,.str (dy sep a)) else J
 |_,_=>J
@[simp] noncomputable def eM(f:Val->Uv->Uu)(o:Ex)(b:Kx)(U:Env):Uu:=(o U).bind λx=>(b U).bind λa=>f x a
noncomputable abbrev Fn:=Ut->Uu
@[simp] def b7(g:Fn)(b:Kx)(U:Env):Uu:=(b U).bind λa=>(g (trees a)).bind λr=>match r with
 | (.fr,t)=>Y (.fr,t)
 | (_,t)=>Y ((Md.pu).join (cH a),t)
abbrev Nr:=Env->Option (Md×Ut)
noncomputable def zM:Val->Option (Md×Ut)
 | (m,.lst l)=>Y (m,l)
 | (m,.tup l)=>Y (m,l)
 | (_,.str l)=>Y (.fr,l.map λc=>.str [c])
 |_=>J
@[simp] def fU(a:Ex)(U:Env):Option (Md×Ut):=(a U).bind zM
noncomputable def rng(a:Int)(n:Nat):Ut:=(List.range n).map λ(k:Nat)=>T.int (a+k)
def eu(a:Ex)(U:Env):Option (Md×Ut):=(a U).bind λx=>(int? x.2).bind λj=>if -Sh<=j/\j<Sh then Y (.fr,rng 0 j.toNat) else J
noncomputable def ir(k:Nat):Ut->Ut
 |[]=>[]
 |t :: r=>.tup [.int k,t] :: ir (k+1) r
def Je:Val->Option (Md×Ut)
 | (m,.lst l)=>Y (m,ir 0 l)
 |_=>J
@[simp] def AH(a:Ex)(U:Env):Option (Md×Ut):=(a U).bind Je
abbrev Tg:=T->Env->Option Env
@[simp] noncomputable def bB(i:Nat)(t:T)(U:Env):Option Env:=if i<U.length then Y (U.set i (Y (.pu t))) else J
noncomputable def Bx:List Tg->Ut->Env->Option Env
 |[],[],U=>Y U
 |g :: b,t :: a,U=>(g t U).bind λd=>Bx b a d
 |_,_,_=>J
@[simp] def jJ(a:List Tg)(t:T)(U:Env):Option Env:=match t with
 |.tup l=>Bx a l U
 |_=>J
@[simp] def okI(m:Md)(l:Ut):Bool:=match m with
 |.bo=>gE l
 |_=>M
def jS(e:Tg)(a:Option Ex)(d:Ex)(U:Env):Ut->Option (Uv)
 |[]=>Y []
 |t :: r=>(e t U).bind λf=>(match a with | none=>some true | some c=>(c f).bind λx=>Pe x.2).bind λb =>
  if b then (d f).bind λv=>(jS e a d U r).map (v :: ·) else jS e a d U r
def dv(k:Nat)(e:Tg)(f:Nr)(a:Option Ex)(b:Ex)(U:Env):Uu:=(f U).bind λ(m,l)=>if okI m l then
 (jS e a b (List.replicate k J++U) l).bind λd=>NC (cH d) (trees d) else J
@[simp] noncomputable def eI(U:Env):Option Out:=Y (.nx U)
@[simp] noncomputable def ar(a b:Sx)(U:Env):Option Out:=(a U).bind λo=>match o with
 |.nx d=>b d
 |o=>Y o
@[simp] def kc(i:Nat)(e:Ex)(U:Env):Option Out:=(e U).bind λv=>(cellOf v).bind λc=>if i<U.length then Y (.nx (U.set i (Y c))) else J
@[simp] noncomputable def bg(i:Nat)(e:Ex)(U:Env):Option Out:=(e U).bind λv=>match v.1 with
 |.bo=>J
 |_=>if i<U.length then Y (.nx (U.set i (Y (.pu v.2)))) else J
@[simp] noncomputable def fR(e:Ex)(U:Env):Option Out:=(e U).bind λv=>Y (.rt (match v.1 with | .bo=>.pu | m=>m,v.2) U)
@[simp] def fM(i:Nat)(U:Env):Option Out:=match U[i]? with
 |some (some (.ow t))=>Y (.rt (.fr,t) (U.set i J))
 |some (some (.pu t))=>Y (.rt (up .pu t) U)
 |_=>J
@[simp] def LN(c:Ex)(a b:Sx)(U:Env):Option Out:=(c U).bind λx=>(Pe x.2).bind λt=>if t then a U else b U
noncomputable def forL(d:Tg)(a:Sx):Ut->Env->Option Out
 |[],U=>Y (.nx U)
 |t :: r,U=>(d t U).bind λe=>(a e).bind λo=>match o with
  |.nx b=>forL d a r b
  |.ct b=>forL d a r b
  |.bk b=>Y (.nx b)
  |.rt v b=>Y (.rt v b)
@[simp] noncomputable def okF:Md->Bool
 |.bo=>B
 |_=>M
@[simp] def iV(b:Tg)(d:Nr)(a:Sx)(U:Env):Option Out:=(d U).bind λ(m,l)=>if okF m then forL b a l U else J
def dM(c:Ex)(a:Sx):Nat->Env->Option Out
 |0,_=>J
 |n+1,U=>(c U).bind λx=>(Pe x.2).bind λt=>if t then (a U).bind λo=>match o with
  |.nx b=>dM c a n b
  |.ct b=>dM c a n b
  |.bk b=>Y (.nx b)
  |.rt v b=>Y (.rt v b)
  else Y (.nx U)
noncomputable def yM:Nat:=1000000
def mn(c:Ex)(a:Sx)(U:Env):Option Out:=dM c a yM U
@[simp] noncomputable def yA(i:Nat)(U:Env):Option Out:=match U[i]? with
 |some (some (.ow t))=>Y (.nx (U.set i (Y (.pu t))))
 |some (some (.pu _))=>Y (.nx U)
 |_=>J
inductive Np where | fld (k:Nat) | ix (e:Ex) | un
inductive Ky where | fld (k:Nat) | at (t:T) | un
def keys:List Np->Env->Option (List Ky)
 |[],_=>Y []
 |.fld k :: r,U=>(keys r U).map (.fld k :: ·)
 |.ix e :: r,U=>(e U).bind λx=>(keys r U).map (.at x.2 :: ·)
 |.un :: r,U=>(keys r U).map (.un :: ·)
noncomputable def J5(a:List (Nat×T))(k:Nat):Option T:=a.lookup k
noncomputable def Ka(a:List (Nat×T))(k:Nat)(v:T):List (Nat×T):=if a.any (λp=>p.1==k) then a.map (λp=>if p.1==k then (p.1,v) else p) else a++[(k,v)]
def Cu{α:Type}(f:T->Option (T×α)):List Ky->T->Option (T×α)
 |[],t=>f t
 |.fld k :: r,.obj c fs=>(J5 fs k).bind λx=>(Cu f r x).map λ(y,a)=>(.obj c (Ka fs k y),a)
 |.at (.int i) :: r,.lst l=>(Ll l.length i).bind λj=>(l[j]?).bind λx=>(Cu f r x).map λ(y,a)=>(.lst (l.set j y),a)
 |.at k :: r,.dct d l=>(eA l k).bind λx=>(Cu f r x).map λ(y,a)=>(.dct d (dput l k y),a)
 |_,_=>J
abbrev Xx:=Env->Option (Val×Env)
@[simp] noncomputable def xP(e:Ex)(U:Env):Option (Val×Env):=(e U).map λv=>(v,U)
@[simp] def pK(i:Nat)(a:List Np)(f:T->Uv->Option (T×Val))(g:Kx)(U:Env):Option (Val×Env):=match U[i]? with
 |some (some (.ow t))=>(keys a U).bind λe=>(g U).bind λb=>(Cu (λx=>f x b) e t).map λ(d,v)=>(v,U.set i (Y (.ow d)))
 |_=>J
@[simp] noncomputable def fit(v:Val):Option T:=match v.1 with
 |.fr=>Y v.2
 |_=>J
def aJ:T->Uv->Option (T×Val)
 |.lst l,[v]=>(fit v).bind λt=>if l.length<fI then Y (.lst (l++[t]),(.fr,.non)) else J
 |_,_=>J
@[simp] noncomputable def sX(x:Xx)(U:Env):Option Out:=(x U).map λr=>.nx r.2
@[simp] noncomputable def fn(d e:Nat)(a:Sx):Fn:=λb=>if b.length=d then
 (a (b.map (λt=>Y (.pu t))++List.replicate (e-d) J)).bind λo=>match o with
  |.rt v _=>Y v
  |.nx _=>Y (.fr,.non)
  |_=>J else J
def kz{s t:Tx}(h:s.length+t.length<=16777216):cu (m,.str s) (n,.str t)=Y (.fr,.str (s++t)):=Zp h
def ka{i j:Int}(h:-18446744073709551616<i/\i<18446744073709551616):ie (m,.int i) (n,.int j)=Y (.fr,.int (i*j)):=Zp (.inl h)
def ku{i j:Int}(h:0<j/\j<1073741824):lM (m,.int i) (n,.int j)=Y (.fr,.int (i/j)):=Zp h
def fQ{i j:Int}(h:0<j):oMod (m,.int i) (n,.int j)=Y (.fr,.int (i%j)):=Zp h
def dJ{l:Ut}(h:l.length<16777216):aJ (.lst l) [(.fr,t)]=Y (.lst (l++[t]),(.fr,.non)):=by
 exact Zp h
def eY{m:Md}{j:Int}(e:a U=Y (m,.int j))(h:-4611686018427387904<=j/\j<4611686018427387904):eu a U=Y (.fr,rng 0 j.toNat):=by
 simp only[eu,e,Zu,int?];exact Zp h
def vd{l:Ut}(h:l.length<=16777216):NC m l=Y (if gE l then .fr else m,.lst l):=Zp h
def eD{b:Tg}{r:Ut}{U1:Env}(f:b t U=Y U1)(e:a U1=Y (.nx d)):forL b a (t :: r) U=forL b a r d:=by
 simp[forL,f,e]
theorem strs_map{α:Type}(f:α->Tx):∀l:List α,strs? (l.map λx=>T.str (f x))=Y (l.map f)
 |[]=>rfl
 |a :: r=>congrArg (Option.map (f a :: ·)) (strs_map f r)
theorem ints_map{α:Type}(f:α->Int):∀l:List α,sM (l.map λx=>T.int (f x))=Y (l.map f)
 |[]=>rfl
 |a :: r=>congrArg (Option.map (f a :: ·)) (ints_map f r)
theorem ox:∀a:List Tx,dy [] a=a.flatten
 |[]=>rfl
 |[x]=>by simp[dy]
 |x :: y :: r=>by
  have:=ox (y :: r);simp[dy]at this ⊢;exact this
theorem pA:∀a:List Tx,total a=a.flatten.length
 |[]=>rfl
 |x :: r=>by simp[total,pA r]
def p5{m n:Md}(e:strs? l=Y a)(b:a.flatten.length<=16777216):lK (m,.str []) [(n,.lst l)]=Y (.fr,.str a.flatten):=by
 simp only[lK,Zu,e,ox];refine Zp ?_;rw[pA];show _<=16777216;simpa using b
def fT{α:Type}(l:List α):(l.map λx=>[x]).flatten=l:=by
 induction l with
 |nil=>rfl
 |cons a r b=>rw[Zm,ZG,b];rfl
def ig(n:Nat):rng 0 n=(List.range n).map λ(k:Nat)=>T.int (k:Int):=by
 unfold rng;simp
theorem nP{α:Type}(f:α->T)(h:∀x,Kh (f x)=M):∀l:List α,gE (l.map f)=M
 |[]=>rfl
 |a :: r=>ZX.mpr ⟨h a,nP f h r⟩
theorem qb{α:Type}(g:α->T)(f:α->Val):∀l:List α,(∀a∈l,∃e,i (g a) U=Y e/\d e=Y (f a))->jS i J d U (l.map g)=Y (l.map f)
 |[],_=>rfl
 |a :: r,h=>by
  obtain⟨e,m,j⟩:=h a Zv;simp[jS,m,j,qb g f r λb hb=>h b (Zx _ hb)]
theorem lF{α:Type}{c:Ex}(g:α->T)(p:α->Bool)(f:α->Val):∀l:List α,(∀a∈l,∃i x,j (g a) U=Y i/\c i=Y x/\Pe x.2=Y (p a)/\(p a=M->d i=Y (f a))) →
  jS j (Y c) d U (l.map g)=Y ((l.filter p).map f)
 |[],_=>rfl
 |a :: r,h=>by
  obtain⟨i,x,q,o,n,s⟩:=h a Zv;have m:=lF (c:=c) g p f r λb hb=>h b (Zx _ hb);cases e:p a with
  |true=>simp[-Pe,jS,q,o,n,e,s e,m]
  |false=>simp[-Pe,jS,q,o,n,e,m]
theorem oG{α:Type}(f:α->T):∀l:List α,cH (l.map λa=>(Md.fr,f a))=.fr
 |[]=>rfl
 |a :: r=>congrArg (Md.join .fr) (oG f r)
def p9{α:Type}(f:α->Val)(l:List α):trees (l.map f)=l.map λa=>(f a).2:=by simp
def dn{α:Type}{k:Nat}{tg:Tg}{it:Nr}{elt:Ex}{U:Env}{m:Md}(g:α->T)(f:α->T)(l:List α)(i:it U=Y (m,l.map g))(e:okI m (l.map g)=M)(d:l.length<=16777216)(h:∀a∈l,∃b,tg (g a) (List.replicate k J++U)=Y b/\elt b=Y (.fr,f a)):dv k tg it J elt U=Y (.fr,.lst (l.map f)):=by
 simp only[dv,i,Zu];rw[Zp e,qb g (λa=>(Md.fr,f a)) l h];simp only[Zu,oG,p9];rw[vd (by rw[Zw];exact d)];simp
def iC{α:Type}{k:Nat}{m:Md}(g:α->T)(p:α->Bool)(f:α->T)(l:List α)(o:i U=Y (m,l.map g))(n:okI m (l.map g)=M)(j:l.length<=16777216)(h:∀a∈l,∃d x,e (g a) (List.replicate k J++U)=Y d/\c d=Y x/\Pe x.2=Y (p a)/\(p a=M->b d=Y (.fr,f a))):dv k e i (Y c) b U=Y (.fr,.lst ((l.filter p).map f)):=by
 simp only[dv,o,Zu];rw[Zp n,lF g p (λa=>(Md.fr,f a)) l h];simp only[Zu,oG,p9];rw[vd (by rw[Zw];exact ZR (Xn _ _) j)];simp
def Al{l:Uv}(h:l.length<=16777216):qw l=Y (up (cH l) (.tup (trees l))):=Zp h
end VS
end
section
namespace L2
open PySem PySem.Spec PyProof.Rows
noncomputable abbrev Key:=Sum Int Str
def mI:Key->PP->Bool
 |.inl k,v=>Value.isInt k v
 |.inr x,v=>Value.isStrOf x v
noncomputable def Ii(w:XAB):Key->Int
 |.inl k=>hashInt k
 |.inr x=>hashStr w x
theorem bO:∀{k:Key}{v:PP},mI k v=M->(∃i t,k=Sum.inl i/\v=Value.int i t)\/(∃x t,k=Sum.inr x/\v=Value.str x t)
 |.inl i,v,h=>by
  obtain⟨t,e⟩:=Value.isInt_shape (k:=i) (v:=v) h;exact .inl ⟨i,t,rfl,e⟩
 |.inr x,v,h=>by
  obtain⟨t,e⟩:=Value.isStrOf_shape (x:=x) (v:=v) h;exact .inr ⟨x,t,rfl,e⟩
def yN(i:Int)(t:Tok):mI (.inl i) (.int i t)=M:=by simp[mI,Value.isInt]
def yy(x:Str)(t:Tok):mI (.inr x) (.str x t)=M:=by simp[mI,Value.isStrOf]
def HD(a b:Int):decide ((Sum.inl a:Key)=Sum.inl b)=(a==b):=by
 by_cases e:a=b
 ·subst e;simp
 ·rw[ZS (λq=>e (Sum.inl.inj q))];exact(beq_eq_false_iff_ne.mpr e).symm
def Hy(a b:Str):decide ((Sum.inr a:Key)=Sum.inr b)=decide (a=b):=by
 by_cases e:a=b
 ·subst e;simp
 ·rw[ZS (λq=>e (Sum.inr.inj q)),ZS e]
def HK(a:Int)(b:Str):decide ((Sum.inl a:Key)=Sum.inr b)=B:=ZS (λq=>nomatch q)
def GO(a:Str)(b:Int):decide ((Sum.inr a:Key)=Sum.inl b)=B:=ZS (λq=>nomatch q)
def aS(d:SB)(w:XAB):PySem.KeyKind d w Key where
 is:=mI
 hash:=Ii w
 inj:=λv a b l hb=>by
  rcases bO l with⟨i,t,rfl,rfl⟩ | ⟨x,t,rfl,rfl⟩
  ·rcases bO hb with⟨j,u,rfl,e⟩ | ⟨y,u,rfl,e⟩
   ·injection e with e1 _;rw[e1]
   ·exact nomatch e
  ·rcases bO hb with⟨j,u,rfl,e⟩ | ⟨y,u,rfl,e⟩
   ·exact nomatch e
   ·injection e with e1 _;rw[e1]
 byValue:=λk v h=>by
  rcases bO h with⟨i,t,rfl,rfl⟩ | ⟨x,t,rfl,rfl⟩<;>rfl
 pyHash:=λf h=>by
  rcases bO f with⟨i,t,rfl,rfl⟩ | ⟨x,t,rfl,rfl⟩
  ·exact wpAny_pyHash_int h
  ·exact wpAny_pyHash_str h
 eqBool:=λg f h=>by
  rcases bO g with⟨i,t,rfl,rfl⟩ | ⟨x,t,rfl,rfl⟩
  ·rcases bO f with⟨j,u,rfl,rfl⟩ | ⟨y,u,rfl,rfl⟩
   ·rw[HD]at h;exact wpAny_eqBool_int h
   ·rw[HK]at h;exact SeqAt.EqAt.int_str i t y u _ _ _ _ h
  ·rcases bO f with⟨j,u,rfl,rfl⟩ | ⟨y,u,rfl,rfl⟩
   ·rw[GO]at h;exact SeqAt.EqAt.str_int x t j u _ _ _ _ h
   ·rw[Hy]at h;exact wpAny_eqBool_str h
 «strs» := λk x t v h=>by
  rcases bO h with⟨i,u,rfl,e⟩ | ⟨y,u,rfl,e⟩
  ·exact nomatch e
  ·injection e with e1 _
   subst e1;cases v<;>rfl
def uL(a:SB)(w:XAB)(i:Int)(t:Tok):(aS a w).is (.inl i) (.int i t)=M:=yN i t
def uv(a:SB)(w:XAB)(x:Str)(t:Tok):(aS a w).is (.inr x) (.str x t)=M:=yy x t
inductive V where
 |non | bl (b:Bool) | int (i:Int) | str (x:Str) | byt (b:Array UInt8) | flt (b:UInt64) | ref (a:On) | ty (n:String)
 deriving DecidableEq
noncomputable def RelV:V->PP->Prop
 |.non,u=>u=Value.none
 |.bl b,u=>u=Value.bool b
 |.int i,u=>∃t,u=Value.int i t
 |.str x,u=>∃t,u=Value.str x t
 |.byt b,u=>∃t,u=Value.bytes b t
 |.flt b,u=>∃t,u=Value.float b t
 |.ref a,u=>u=Value.ref a
 |.ty n,u=>u=Value.type n
abbrev aP:List V->Vz->Prop:=Paired RelV
theorem aP.length{b:Vz}(r:aP a b):a.length=b.length:=Wp r
theorem aP.get:∀{a:List V}{b:Vz}{i:Nat}{x:V},aP a b->a[i]?=Y x->∃u,b[i]?=Y u/\RelV x u
 |_,_,_,_,.nil,e=>by simp at e
 |_,_,0,_,.cons r _,e=>by simp at e;subst e;exact⟨_,rfl,r⟩
 |_,_,i+1,x,.cons _ t,e=>by
  obtain⟨u,f,d⟩:=aP.get (i:=i) (x:=x) t (by simpa using e);exact⟨u,by simpa using f,d⟩
theorem aP.set(r:RelV x u):∀{a:List V}{b:Vz}(i:Nat),aP a b->aP (a.set i x) (b.set i u)
 |_,_,_,.nil=>.nil
 |_,_,0,.cons _ t=>.cons r t
 |_,_,i+1,.cons q t=>.cons q (aP.set r i t)
theorem aP.append:∀{b a:List V}{e d:Vz},aP b e->aP a d->aP (b++a) (e++d)
 |_,_,_,_,.nil,s=>s
 |_,_,_,_,.cons r t,s=>.cons r (aP.append t s)
theorem aP.take:∀{a:List V}{b:Vz}(n:Nat),aP a b->aP (a.take n) (b.take n)
 |_,_,0,_=>.nil
 |_,_,_+1,.nil=>.nil
 |_,_,n+1,.cons r t=>.cons r (aP.take n t)
theorem aP.drop:∀{a:List V}{b:Vz}(n:Nat),aP a b->aP (a.drop n) (b.drop n)
 |_,_,0,r=>r
 |_,_,_+1,.nil=>.nil
 |_,_,n+1,.cons _ t=>aP.drop n t
def aP.none_of:∀{a:List V}{b:Vz}{i:Nat},aP a b->a[i]?=J->b[i]?=J:=λ{a b i} r e=>by
 have f:=r.length;have d:=YG.mp e;exact YG.mpr (by lia)
def iZ:Option V->V9->Prop
 |some v,some u=>RelV v u
 |none,none=>True
 |_,_=>False
def KV{κ:Type}:List (κ×V)->List (κ×PP)->Prop:=Paired λ(p:κ×V) (q:κ×PP)=>p.1=q.1/\RelV p.2 q.2
noncomputable def kV:Key->V
 |.inl i=>.int i
 |.inr x=>.str x
set_option genInjectivity true in
inductive HO where
 |lst (xs:List V)
 |tup (xs:List V)
 |dK (cp:List (Key×V)) | dT (cp:List (List Key×V))
 |set (S:Int->Bool) (n:Nat)
 |ins (C dx:On) (fs:List (Str×V))
 |own (x:On)
 |xd (fs:List (Str×V))
 |met (f x:On)
 |rng (lo hi:Int)
 |frz (o:Obj) (u:HO)
 |tbl (q:Str)
 |ext (φ:XAB->XAA->Prop)
noncomputable abbrev Hp:=On->Option HO
noncomputable def upd(H:Hp)(a:On)(o:HO):Hp:=λb=>if b=a then Y o else H b
def aw{H:Hp}:upd H a o a=Y o:=by unfold upd;rw[Zp L]
def aD(h:b≠a):upd H a o b=H b:=by unfold upd;rw[Zo h]
def Et:upd (upd H a o) a u=upd H a u:=by
 funext b;unfold upd;split<;>rfl
def IX{H:Hp}{a b:On}{o u:HO}(h:H a=Y o)(f:H b=Y u)(d:o≠u):a≠b:=by
 intro e;subst e;rw[h]at f;exact d (Zl f)
def cL{H:Hp}{a b:On}{o:HO}(h:H a=Y o)(d:H b=J):a≠b:=by
 intro e;subst e;rw[h]at d;cases d
noncomputable def Qv(h:XAA)(a:On):Prop:=∀o,h.get? a=Y o->o.dict=J
def Qv.new(h:XAA)(a:Array PP):Qv (h.push { cls:=.type "tuple",data:=.seq a }) h.objs.size:=λo e=>by
 rw[ZK _ L]at e;cases e;rfl
def Qv.of{h:XAA}(e:h.get? a=Y o)(d:o.dict=J):Qv h a:=λf b=>by
 rw[e]at b;cases b;exact d
section
variable(P:SB)(w:XAB)
def du(H:Hp)(h:XAA)(a:On):HO->Prop
 |.lst b=>b.length<=KM/\∃(g:Vz)(n:Nat),aP b g/\h.get? a=Y { cls:=.type "list",data:=.seq g.toArray n }
 |.tup b=>b.length<=KM/\∃g:Vz,aP b g/\Qv h a/\IsTup h a g.toArray
 |.dK i=>i.length<=KM/\(a==sysModules)=B/\∃e,KV i e/\h.DictOf (aS P w) a e
 |.dT i=>i.length<=KM/\(a==sysModules)=B/\∃b:List (List Key×On×PP),
   Paired (λ(p:List Key×V) (q:List Key×On×PP)=>p.1=q.1/\H q.2.1=Y (.tup (p.1.map kV))/\RelV p.2 q.2.2) i b ∧
   ∃o r z,h.get? a=Y o/\o.ExactDict/\o.data=.dict r z/\r.toList=b.map (entryOfKey (tupleKind (aS P w)))/\(b.map (·.1)).Nodup
 |.set S n=>h.SetOf (intKind P w) a S n
 |.ins C j fs=>H j=Y (.own a)/\fs.length<=1000/\j≠a/\h.get? a=Y (PySem.W.instObj C j) ∧
   ∃d,h.Ns1 j d/\(∀f,iZ (fs.lookup f) (d f))/\PySem.Within d (fs.map (·.1))
 |.own _=>∃o,h.get? a=Y o
 |.xd fs=>∃d,h.Ns1 a d/\∀f,iZ (fs.lookup f) (d f)
 |.rng lo s=>∃t u v,h.get? a=Y { cls:=.type "range",data:=.fields #[.int lo t,.int s u,.int 1 v] }
 |.frz o u=>h.get? a=Y o/\du H h a u
 |.tbl q=>∃ps,h.get? a=Y { cls:=.none,data:=.fields ps }/\TriplesOk ps.toList/\∀pos v,codeAmong pos ps.toList=Y v->∃c o y e t,v=.ref c/\H c=Y (.frz o (.own y))/\o.data=.fields e/\e[1]?=Y (.str q t)
 |.met f x=>h.get? a=Y (PySem.W.methodObj (.ref f) (.ref x))
 |.ext φ=>φ w h/\(∃o,h.get? a=Y o)/\∀m l:XAA,φ w m->(∀o,m.get? a=Y o->l.get? a=Y o)->φ w l
def LA(H:Hp)(h:XAA):Prop:=∀a o,H a=Y o->du P w H h a o
end
section
variable{H:Hp}
theorem du.lt(x:du P w H h a o):a<h.objs.size:=by
 cases o with
 |lst b=>obtain⟨_,_,_,_,e⟩:=x;exact ZO e
 |tup b=>obtain⟨_,_,_,_,p⟩:=x;exact p.lt
 |dK d=>obtain⟨_,_,_,_,o,_,_,e,_⟩:=x;exact ZO e
 |dT d=>obtain⟨_,_,_,_,o,_,_,e,_⟩:=x;exact ZO e
 |set S n=>obtain⟨o,_,_,_,e,_⟩:=x;exact ZO e
 |ins C j fs=>obtain⟨_,_,_,e,_⟩:=x;exact ZO e
 |own y=>obtain⟨_,e⟩:=x;exact ZO e
 |xd fs=>obtain⟨_,⟨_,_,_,e,_⟩,_⟩:=x;exact ZO e
 |rng lo i=>obtain⟨_,_,_,e⟩:=x;exact ZO e
 |frz g u=>obtain⟨e,_⟩:=x;exact ZO e
 |tbl q=>obtain⟨_,e,_⟩:=x;exact ZO e
 |met f y=>exact ZO (x)
 |ext φ=>obtain⟨_,⟨_,e⟩,_⟩:=x;exact ZO e
theorem Paired.PK{α β:Type}{F G:α->β->Prop}:∀{e:List α}{d:List β},Paired F e d->(∀a b,F a b->G a b)->Paired G e d
 |_,_,.nil,_=>.nil
 |_,_,.cons r t,f=>.cons (f _ _ r) (Paired.PK t f)
def du.N9{h':XAA}(x:du P w H h a o)(k:∀b u,(b=a\/H b=Y (.own a))->h.get? b=Y u->h'.get? b=Y u)(N:∀b,H b=Y (.own a)->H' b=Y (.own a))(G:∀b l,H b=Y (.tup l)->H' b=Y (.tup l))(O:∀b o y,H b=Y (.frz o (.own y))->H' b=Y (.frz o (.own y))):du P w H' h' a o:=by
 induction o with
 |lst l=>obtain⟨z,D,n,r,e⟩:=x;exact⟨z,D,n,r,k _ _ (.inl L) e⟩
 |tup l=>obtain⟨z,D,r,nd,g,e,c⟩:=x;exact⟨z,D,r,Qv.of (k _ _ (.inl L) e) (nd _ e),g,k _ _ (.inl L) e,c⟩
 |dK Q=>obtain⟨z,y,m,r,g,i,j,e,c⟩:=x;exact⟨z,y,m,r,g,i,j,k _ _ (.inl L) e,c⟩
 |dT Q =>
  obtain⟨z,y,l,r,g,i,j,e,c⟩:=x;exact⟨z,y,l,Paired.PK r λp q z=>⟨z.1,G _ _ z.2.1,z.2.2⟩,g,i,j,k _ _ (.inl L) e,c⟩
 |set S n=>obtain⟨g,i,j,t,e,c⟩:=x;exact⟨g,i,j,t,k _ _ (.inl L) e,c⟩
 |ins C U fs =>
  obtain⟨d,z,ne,e,A,⟨s,i,j,e2,c⟩,r⟩:=x;exact⟨N _ d,z,ne,k _ _ (.inl L) e,A,⟨s,i,j,k _ _ (.inr d) e2,c⟩,r⟩
 |own y=>obtain⟨g,e⟩:=x;exact⟨g,k _ _ (.inl L) e⟩
 |xd fs=>obtain⟨A,⟨s,i,j,e,c⟩,r⟩:=x;exact⟨A,⟨s,i,j,k _ _ (.inl L) e,c⟩,r⟩
 |rng lo R=>obtain⟨t,u,v,e⟩:=x;exact⟨t,u,v,k _ _ (.inl L) e⟩
 |frz g u F=>obtain⟨e,q⟩:=x;exact⟨k _ _ (.inl L) e,F q⟩
 |tbl q =>
  obtain⟨ps,e,e1,e2⟩:=x;refine⟨ps,k a _ (.inl L) e,e1,λpos v r=>?_⟩;obtain⟨c,o,y,m,t,r1,r2,E⟩:=e2 pos v r;exact⟨c,o,y,m,t,r1,O _ _ _ r2,E⟩
 |met f y =>
  exact k a _ (.inl L) x
 |ext φ=>obtain⟨p,⟨o,e⟩,st⟩:=x;exact⟨st _ _ p λo q=>k _ _ (.inl L) q,⟨o,k _ _ (.inl L) e⟩,st⟩
theorem LA.lt(x:LA P w H h)(e:H a=Y o):a<h.objs.size:=(x a o e).lt
def LA.fresh(x:LA P w H h)(e:h.objs.size<=a):H a=J:=by
 cases q:H a with
 |none=>rfl
 |some u=>exact absurd (Zg (x.lt q) e) (YE _)
def LA.kept{h':XAA}(x:LA P w H h)(k:∀b u,h.get? b=Y u->h'.get? b=Y u):LA P w H h':=λa o e =>
 (x a o e).N9 (λb u _ q=>k b u q) (λ_ q=>q) (λ_ _ q=>q) λ_ _ _ q=>q
def LA.laid{h':XAA}(x:LA P w H h)(k:∀b u,h.get? b=Y u->h'.get? b=Y u)(g:h.objs.size<=a)(d:du P w (upd H a o) h' a o):LA P w (upd H a o) h':=λb u e=>by
 have f:=x.fresh g;by_cases hb:b=a
 ·subst hb;rw[aw]at e;cases e;exact d
 ·rw[aD hb]at e;exact(x b u e).N9 (λc v _ q=>k c v q) (λc q=>by rw[aD (cL q f)];exact q) (λc i q=>by rw[aD (cL q f)];exact q) λc _ _ q=>by rw[aD (cL q f)];exact q
end
noncomputable def Rd(H:Hp)(a:On)(u:HO):Prop:=H a=Y u\/∃o,H a=Y (.frz o u)
def Rd.ok(r:Rd H a u)(x:LA P w H h):du P w H h a u:=by
 rcases r with r | ⟨o,r⟩
 ·exact x a u r
 ·obtain⟨_,q⟩:=x a _ r;exact q
noncomputable def Kn:Option HO->Prop
 |some (.lst _)=>True
 |some (.dK _)=>True
 |some (.dT _)=>True
 |some (.set _ _)=>True
 |some (.ins _ _ _)=>True
 |some (.ext _)=>True
 |_=>False
section
variable{H:Hp}
def LA.write{h':XAA}(m:LA P w H h)(a:Kn (H x))(he:e=x\/H e=Y (.own x))(k:∀b u,b≠e->h.get? b=Y u->h'.get? b=Y u)(o:∃u,h'.get? e=Y u)(g:du P w (upd H x o') h' x o'):LA P w (upd H x o') h':=λb u q=>by
 have l:∀c y,H c=Y (.own y)->c≠x:=λc y r z=>by subst z;rw[r]at a;exact a
 by_cases hb:b=x
 ·subst hb;rw[aw]at q;cases q;exact g
 ·rw[aD hb]at q;by_cases f:b=e
  ·have j:H b=Y (.own x):=by
    rcases he with z | z
    ·exact absurd (f.trans z) hb
    ·rw[f];exact z
   rw[q]at j;cases j;obtain⟨v,n⟩:=o;exact⟨v,by rw[f];exact n⟩
  ·refine(m b u q).N9 (λc v d r=>k c v ?_ r) (λc r=>by rw[aD (l c b r)];exact r) (λc i r=>by rw[aD ((λc i r z=>by subst z;rw[r]at a;exact a) c i r)];exact r) λc _ _ r=>by rw[aD λz=>by subst z;rw[r]at a;exact a];exact r
   rcases d with rfl | d
   ·exact f
   ·rintro rfl;rcases he with z | z
    ·exact l c b d z
    ·rw[d]at z;cases z;exact hb L
end
structure Un(fs ex:W9)(H H':Hp)(h h':XAA):Prop where
 keep:∀b o,h.get? b=some o->H b=none->b∉fs->b∉ex->h'.get? b=some o
 slot:∀b o,h.get? b=some o->H b=none->b∈fs->b∉ex->∃sl,h'.get? b=some { o with slots:=sl }
 free:∀b o,h.get? b=some o->H b=none->b∉ex->H' b=none
 there:∀b o,h.get? b=some o->b∉ex->∃o',h'.get? b=some o'
 Na:∀b xs,H b=some (.tup xs)->H' b=some (.tup xs)
 MV:∀b o u,H b=some (.frz o u)->H' b=some (.frz o u)
 MN:∀b q,H b=some (.tbl q)->H' b=some (.tbl q)
section
variable{H:Hp}
def Un.any(u:Un fs ex H H1 h h1)(q:h.get? b=Y d)(n:H b=J)(f:b∉ex):∃g,h1.get? b=Y { d with slots:=g }:=by
 by_cases hb:b∈fs
 ·exact u.slot b d q n hb f
 ·exact⟨d.slots,u.keep b d q n hb f⟩
def Un.kept{h h':XAA}(k:∀b u,h.get? b=Y u->h'.get? b=Y u):Un fs ex H H h h' :=
 ⟨λb d q _ _ _=>k b d q,λb d q _ _ _=>⟨d.slots,k b d q⟩,λ_ _ _ n _=>n,λb d q _=>⟨d,k b d q⟩,λ_ _ q=>q,λ_ _ _ q=>q,λ_ _ q=>q⟩
def Un.refl:Un fs ex H H h h:=Un.kept λ_ _ q=>q
def Un.laid{h h':XAA}(k:∀b u,h.get? b=Y u->h'.get? b=Y u)(g:h.objs.size<=a)(d:H a=J):Un fs ex H (upd H a o) h h' where
 keep:=λb u q _ _ _=>k b u q
 slot:=λb u q _ _ _=>⟨u.slots,k b u q⟩
 free:=λb u q n _=>by rw[aD (Za (Zg (ZO q) g))];exact n
 there:=λb u q _=>⟨u,k b u q⟩
 Na:=λb f q=>by rw[aD (cL q d)];exact q
 MV:=λb u f q=>by rw[aD (cL q d)];exact q
 MN:=λb n q=>by rw[aD (cL q d)];exact q
def Un.write{h h':XAA}(d:Kn (H x))(he:e=x\/H e=Y (.own x))(k:∀b u,b≠e->h.get? b=Y u->h'.get? b=Y u)(l:∃u,h'.get? e=Y u):Un fs ex H (upd H x o) h h':=by
 have g:∀b,H b=J->b≠x:=λb n z=>by subst z;rw[n]at d;exact d
 have hb:∀b,H b=J->b≠e:=λb n z=>by
  subst z;rcases he with r | r
  ·exact g b n r
  ·rw[n]at r;cases r
 have f:∀b u,H b=Y u->¬Kn (Y u)->b≠x:=λb u q nm z=>by subst z;rw[q]at d;exact nm d
 refine⟨λb u q n _ _=>k b u (hb b n) q,λb u q n _ _=>⟨u.slots,k b u (hb b n) q⟩,λb u q n _=>by rw[aD (g b n)];exact n,λb u q _=>?_,
  λb j q=>by rw[aD (f b _ q λz=>z)];exact q,λb u j q=>by rw[aD (f b _ q λz=>z)];exact q,λb n q=>by rw[aD (f b _ q λz=>z)];exact q⟩
 by_cases i:b=e
 ·subst i;exact l
 ·exact⟨u,k b u i q⟩
end
noncomputable def gone(v:PP):Obj:=⟨v,J,.freed,#[]⟩
def yD(H:Hp)(a:On)(o:Obj):Obj:=match H a with
 |some (.tbl q)=>gone (.str q 0)
 |some _=>gone .none
 |none=>match o.data with
  |.freed=>gone .none
  |_=>o
def um(h:XAA)(H:Hp):Heap:=⟨h.objs.mapIdx λa o=>yD H a o,h.life⟩
def Tb(b:XAA)(a:On)(q:Str):Prop:=b.objs[a]?=Y (gone (.str q 0))
def zc(h:XAA)(H:Hp):(um h H).objs.size=h.objs.size:=Array.size_mapIdx
def sv(h:XAA)(H:Hp)(b:On):(um h H).objs[b]?=(h.objs[b]?).map (yD H b):=Array.getElem?_mapIdx
def m8{h:XAA}:h.get? b=Y o↔h.objs[b]?=Y o/\o.data ≠ .freed:=by
 unfold Heap.get?;split
 ·rename_i e;exact⟨λz=>(nomatch z),λ⟨z,n⟩=>by rw[e]at z;cases z;exact absurd L n⟩
 ·rename_i n;exact⟨λz=>⟨z,λd=>by
   obtain⟨c,u,f,a⟩:=o;cases (d);exact n _ _ _ z⟩,λz=>z.1⟩
def Bc{h:XAA}(e:h.get? b=Y o)(n:H b=J):(um h H).get? b=Y o:=by
 obtain⟨e1,e2⟩:=m8.mp e;refine m8.mpr ⟨?_,e2⟩;rw[sv,e1,Vm];unfold yD;rw[n];cases h:o.data with
 |freed=>exact absurd h e2
 |_=>rfl
def C6(e:(um h H).get? b=Y o):h.get? b=Y o/\H b=J:=by
 obtain⟨e1,e2⟩:=m8.mp e;rw[sv]at e1;obtain⟨u,e3,a⟩:=Zy.mp e1;unfold yD at a;cases q:H b with
 |some y =>
  rw[q]at a;cases y<;>(cases a;exact absurd L e2)
 |none =>
  rw[q]at a;refine⟨m8.mpr ?_,rfl⟩;cases d:u.data with
  |freed=>rw[d]at a;cases a;exact absurd L e2
  |_ =>
   have f:u=o:=by rw[d]at a;exact a
   subst f;exact⟨e3,e2⟩
def DU:Tb (um h H) b q↔H b=Y (.tbl q)/\b<h.objs.size:=by
 unfold Tb;rw[sv];constructor
 ·intro e;obtain⟨u,e3,a⟩:=Zy.mp e;refine⟨?_,(WC.mp e3).1⟩;unfold yD at a;cases y:H b with
  |some f =>
   rw[y]at a;cases f with
   |tbl i=>cases a;rfl
   |_=>cases a
  |none =>
   rw[y]at a;cases d:u.data with
   |freed=>rw[d]at a;cases a
   |_ =>
    have g:u=gone (.str q 0):=by rw[d]at a;exact a
    rw[g]at d;cases d
 ·rintro⟨e,l⟩;rw[Xk l,Vm];unfold yD;rw[e]
noncomputable def D6(g h:XAA)(L:On):Km:=(List.range h.objs.size).filterMap λa=>if a=L\/(g.get? a).isSome=M then J else (h.get? a).map λo=>(a,o)
def rest(g h:XAA)(L d:On):Km:=(D6 g h L).filter λp=>decide (p.1≠d)
structure Mod(K:X2)(mg:Wv)(base:XAA):Prop where
 Tu:K.In base
 glob:base.Ns mainGlobals mg
 blt:∃mb,base.Ns builtinsNs mb/\∀x:Str,x ≠ "__name__" → mb x=bootBuiltins x
 nolimit:base.NoLimit
structure Cx where
 prog:SB
 w:XAB
 K:X2
 mg:Wv
 base:XAA
 A:SC
 N:List Str
 s₀:KB
 H₀:Hp
 env:Env
 outer:List Env
 stack:List Env
 ex:W9
 fn:Str->Bool
 calm:Bool
 pn:Km
 xe:Ki
abbrev K1(e:Expr)(l:List Expr)(X:Cx):Prop:=P3 (e :: l) X.env=(B,eval e X.env) :: P3 l X.env
abbrev K2(p:Pos)(l:List Expr)(X:Cx):Prop:=(backTo p (P3 l X.env)).any (·.1)=B
abbrev K3(x:Str):Prop:=(x==("__debug__" : Str))=B
abbrev K4(x:Str):Prop:=(x==("__classdict__" : Str))=B
noncomputable def LS(l:List Env):W9:=l.filterMap (·.frame)
abbrev Cx.fs(X:Cx):W9:=LS X.outer
noncomputable def M7(a:Scope)(x:Str):Prop:=a.names.lookup x=Y .local\/a.names.lookup x=Y .cell\/a.names.lookup x=Y .free
noncomputable def Loc(a:Scope)(x:Str):Prop:=a.names.lookup x=Y .local\/a.names.lookup x=Y .cell
noncomputable def Look(a:Env)(h:XAA)(m:Wv)(x:Str)(u:PP):Prop :=
 (a.kindOf x=Y .local/\m x=Y u)\/((a.kindOf x=Y .cell\/a.kindOf x=Y .free)/\∃c,a.cells.lookup x=Y c/\h.IsCell c (Y u))
structure Cx.Ok(X:Cx):Prop where
 mod:Mod X.K X.mg X.base
 kind:X.env.scope.kind=.function
 glob:X.env.globals=mainGlobals
 blt:X.env.builtins=builtinsNs
 above:X.s₀.heap.objs.size<=X.env.locals
 inj:∀x y c,X.env.cells.lookup x=some c->X.env.cells.lookup y=some c->x=y
 has:∀x,(X.env.kindOf x=some .cell\/X.env.kindOf x=some .free)->∃c,X.env.cells.lookup x=some c
 Uq:∀x c,X.fn x=true->X.env.cells.lookup x=some c->X.s₀.heap.objs.size<=c
 hd:X.calm=true->X.A.handled=none
 frames:X.A.frames=some X.stack
 UQ:X.stack=X.outer\/(X.stack=X.env :: X.outer/\X.env.frame=some X.env.locals)
 exf:∀b∈X.ex,b≠X.env.locals/\∀x c,X.env.cells.lookup x=some c->c≠b
 tb:∀b q,Tb X.base b q->X.H₀ b=some (.tbl q)
 bs:∀b o,X.base.get? b=some o->X.s₀.heap.get? b=some o/\X.H₀ b=none
 P4:X.base.objs.size<=X.s₀.heap.objs.size
 OM:∀b o,X.base.get? b=some o->b∉X.ex
 PY:∀b∈X.ex,b∉X.fs
 L8:X.s₀.heap.FunFrames X.base X.outer
 RV:∀b∈X.fs,X.H₀ b=none
structure Inv(X:Cx)(pins:Km)(O:List (Option V))(H:Hp)(s:KB):Prop where
 ok:X.Ok
 os:s.os=X.s₀.os
 bare:AllBare s.gens
 base:Un X.fs X.ex X.H₀ H X.s₀.heap s.heap
 loc:∃m,s.heap.Ns X.env.locals m/\∀(i:Nat)(x:Str)(v:V),X.N[i]?=some x->O[i]?=some (some v)->M7 X.env.scope x->∃u,RelV v u/\Look X.env s.heap m x u
 cell:∀x c,X.env.cells.lookup x=some c->∃v,s.heap.IsCell c v
 free:H X.env.locals=none
 Lz:∀x c,X.env.cells.lookup x=some c->H c=none
 pin:∀p∈X.pn++pins,s.heap.get? p.1=some p.2/\H p.1=none/\p.1≠X.env.locals/\p.1∉X.fs/\∀v,p.2.data ≠ .cell v
 Kd:LA X.prog X.w H s.heap
 len:O.length=X.N.length
section
variable{H:Hp}
def Cx.Ok.nofr{X:Cx}(a:X.Ok)(e:X.base.get? b=Y o):b∉X.fs:=λhb=>by
 have:=(a.L8.mem hb).1;rw[e]at this;cases this
theorem Inv.bs(I:Inv X pins O H s):∀b o,X.base.get? b=Y o->s.heap.get? b=Y o/\H b=J:=λb o e =>
 ⟨I.base.keep b o (I.ok.bs b o e).1 (I.ok.bs b o e).2 (I.ok.nofr e) (I.ok.OM b o e),I.base.free b o (I.ok.bs b o e).1 (I.ok.bs b o e).2 (I.ok.OM b o e)⟩
theorem Inv.tb(I:Inv X pins O H s):∀b q,Tb X.base b q->H b=Y (.tbl q):=λb q e=>I.base.MN b q (I.ok.tb b q e)
def Inv.bk(I:Inv X pins O H s):∀b o,X.base.get? b=Y o->s.heap.get? b=Y o:=λb o e=>(I.bs b o e).1
theorem Inv.mod(I:Inv X pins O H s):Mod X.K X.mg X.base:=I.ok.mod
def Inv.LZ(I:Inv X pins O H s):X.K.In s.heap:=I.ok.mod.Tu.keeps I.bk
theorem Inv.lt(I:Inv X pins O H s):X.env.locals<s.heap.objs.size:=let ⟨_,a,_⟩:=I.loc;a.lt
def Inv.sz(I:Inv X pins O H s):X.s₀.heap.objs.size<=s.heap.objs.size:=ZR I.ok.above (ZQ I.lt)
def Inv.nofs(I:Inv X pins O H s)(h:s.heap.objs.size<=a):a∉X.fs:=λhb=>by
 obtain⟨_,o,b,_⟩:=I.ok.L8.mem hb;exact absurd (Zg (ZO b) (ZR I.sz h)) (YE _)
def Inv.RZ(I:Inv X pins O H s):∀x c,X.env.cells.lookup x=Y c->c≠X.env.locals:=λx c e z=>by
 obtain⟨v,o,a,hd⟩:=I.cell x c e;obtain⟨m,⟨f,g,h,d,b,_⟩,_⟩:=I.loc;rw[z,d]at a;cases a;rw[b]at hd;cases hd
theorem Inv.L8(I:Inv X pins O H s):s.heap.FunFrames X.base X.outer:=by
 have all:∀(l:List Env),(∀b∈LS l,b∈X.fs)->X.s₀.heap.FunFrames X.base l->s.heap.FunFrames X.base l:=by
  intro l
  induction l with
  |nil=>intro _ _;trivial
  |cons env r g =>
   intro f m;obtain⟨n,⟨L,o,a,j,i,hd⟩,h⟩:=m;have d:=f L (by unfold LS;rw[Y8,a];exact Zv);obtain⟨p,e⟩:=I.base.slot L o i (I.ok.RV L d) d λz=>I.ok.PY L z d;exact⟨n,⟨L,_,a,j,e,hd⟩,g (λb hb=>f b (by unfold LS;rw[Y8,a];exact Zx _ hb)) h⟩
 exact all X.outer (λ_ hb=>hb) I.ok.L8
theorem Inv.stack(I:Inv X pins O H s):s.heap.FunFrames X.base X.stack:=by
 rcases I.ok.UQ with e | ⟨e,b⟩
 ·rw[e];exact I.L8
 ·rw[e];obtain⟨m,a,_⟩:=I.loc;refine .cons (by rw[I.ok.kind];decide) b a ?_ I.L8;exact Heap.get?_none_of_le (ZR I.ok.P4 I.ok.above)
def Inv.MQ(I:Inv X pins O H s):∀b∈LS X.stack,b∈X.env.locals :: X.fs:=λb hb=>by
 rcases I.ok.UQ with e | ⟨e,a⟩
 ·rw[e]at hb;exact Zx _ hb
 ·rw[e]at hb;unfold LS at hb;rw[Y8,a]at hb;exact hb
def Inv.NR(I:Inv X pins O H s):∀b∈LS X.stack,H b=J:=λb hb=>by
 rcases Zi.mp (I.MQ b hb) with e | hb
 ·rw[e];exact I.free
 ·obtain⟨_,o,a,_⟩:=I.ok.L8.mem hb;exact I.base.free b o a (I.ok.RV b hb) λz=>I.ok.PY b z hb
def Inv.step{h':XAA}{ch:W9}(I:Inv X pins O H s)(F:∀b∈ch,(b∈X.ex\/X.s₀.heap.objs.size<=b)/\b≠X.env.locals/\(∀x c,X.env.cells.lookup x=Y c->c≠b)/\∀p∈X.pn++pins,p.1≠b)(g:∀b o,b≠X.env.locals->b∉X.fs->b∉ch->s.heap.get? b=Y o->H b=J->h'.get? b=Y o)(j:∀b o,b≠X.env.locals->b∈X.fs->b∉ch->s.heap.get? b=Y o->H b=J->∃P,h'.get? b=Y { o with slots:=P })(f:∀b o,b∉ch->s.heap.get? b=some o->H b=none->H' b=none)(y:∀b o,b∉ch->s.heap.get? b=Y o->∃C,h'.get? b=Y C)(Na:∀b h,H b=Y (.tup h)->H' b=Y (.tup h))(MV:∀b o u,H b=Y (.frz o u)->H' b=Y (.frz o u))(MN:∀b q,H b=Y (.tbl q)->H' b=Y (.tbl q))(Z:∀m,s.heap.Ns X.env.locals m->h'.Ns X.env.locals m)(Kd:LA X.prog X.w H' h')(hg:AllBare S) :
  Inv X pins O H' { s with heap:=h',gens:=S,drawn:=d',toks:=U }:=by
 have D:∀b o,X.s₀.heap.get? b=Y o->b≠X.env.locals:=λb o e=>Za (Zg (ZO e) I.ok.above);have G:∀b o,X.s₀.heap.get? b=Y o->b∉X.ex->b∉ch:=λb o e a hb=>by
  rcases (F b hb).1 with z | z
  ·exact a z
  ·exact absurd (Zg (ZO e) z) (YE _)
 have cellK:∀x c,X.env.cells.lookup x=Y c->∀v,s.heap.IsCell c v->h'.IsCell c v:=λx c e v ⟨o,A,hd⟩=>by
  have E:c∉ch:=λz=>(F c z).2.2.1 x c e L;by_cases R:c∈X.fs
  ·obtain⟨P,q⟩:=j c o (I.RZ x c e) R E A (I.Lz x c e);exact⟨_,q,hd⟩
  ·exact⟨o,g c o (I.RZ x c e) R E A (I.Lz x c e),hd⟩
 refine⟨I.ok,I.os,hg,⟨λb o e n hb a=>?_,λb o e n hb a=>?_,λb o e n a=>?_,λb o e a=>?_,λb h e=>Na b h (I.base.Na b h e),λb o h e=>MV b o h (I.base.MV b o h e),λb q e=>MN b q (I.base.MN b q e)⟩,?_,λx c e=>?_,?_,λx c e=>?_,λp Q=>?_,Kd,I.len⟩
 ·exact g b o (D b o e) hb (G b o e a) (I.base.keep b o e n hb a) (I.base.free b o e n a)
 ·obtain⟨P,e1⟩:=I.base.slot b o e n hb a;obtain⟨N,e2⟩:=j b _ (D b o e) hb (G b o e a) e1 (I.base.free b o e n a);exact⟨N,e2⟩
 ·obtain⟨C,e1⟩:=I.base.there b o e a;exact f b C (G b o e a) e1 (I.base.free b o e n a)
 ·obtain⟨C,e1⟩:=I.base.there b o e a;exact y b C (G b o e a) e1
 ·obtain⟨m,hn,hl⟩:=I.loc;refine⟨m,Z m hn,λi x v e1 e2 e3=>?_⟩;obtain⟨u,r,l⟩:=hl i x v e1 e2 e3;refine⟨u,r,?_⟩;rcases l with l | ⟨k,c,e,z⟩
  ·exact .inl l
  ·exact .inr ⟨k,c,e,cellK x c e _ z⟩
 ·obtain⟨v,z⟩:=I.cell x c e;exact⟨v,cellK x c e v z⟩
 ·obtain⟨m,⟨o,_,_,A,_⟩,_⟩:=I.loc;exact f _ o (λz=>(F _ z).2.1 L) A I.free
 ·obtain⟨v,o,A,hd⟩:=I.cell x c e;exact f c o (λz=>(F c z).2.2.1 x c e L) A (I.Lz x c e)
 ·obtain⟨e,n,ne,nf,d⟩:=I.pin p Q;have E:=λz=>(F p.1 z).2.2.2 p Q L;exact⟨g p.1 p.2 ne nf E e n,f p.1 p.2 E e n,ne,nf,d⟩
def Inv.un{t':Nat}(I:Inv X pins O H s)(u:Un X.fs [] H H' s.heap h')(l:LA X.prog X.w H' h'):Inv X pins O H' { s with heap:=h',toks:=t' }:=by
 obtain⟨m,⟨o,x,y,a,r⟩,_⟩:=id I.loc;obtain⟨p,h⟩:=u.any a I.free (by simp);exact I.step (ch:=[]) (λ_ z=>nomatch z) (λb o _ hb _ e n=>u.keep b o e n hb (by simp)) (λb o _ hb _ e n=>u.slot b o e n hb (by simp)) (λb o _ e n=>u.free b o e n (by simp)) (λb o _ e=>u.there b o e (by simp)) u.Na u.MV u.MN (λv g=>by
  obtain⟨q,j,i,d,f⟩:=g;rw[a]at d;cases d;exact⟨_,j,i,h,f⟩) l I.bare
def Inv.call{g':Array GenState}{t':Nat}{d':Drawn}{ch:W9}(I:Inv X pins O H s)(u:Un (LS X.stack) ch H H' s.heap h')(y:LA X.prog X.w H' h')(l:AllBare g')(g:∀b∈ch,(b∈X.ex\/X.s₀.heap.objs.size<=b)/\b≠X.env.locals/\(∀x c,X.env.cells.lookup x=Y c->c≠b)/\∀p∈X.pn++pins,p.1≠b) :
  Inv X pins O H' { s with heap:=h',gens:=g',drawn:=d',toks:=t' }:=by
 obtain⟨m,⟨o,E,F,f,r⟩,_⟩:=id I.loc;obtain⟨A,d⟩:=u.any f I.free λz=>(g _ z).2.1 L;exact I.step (ch:=ch) g (λb o d hb a e n=>u.keep b o e n (λz=>(Zi.mp (I.MQ b z)).elim d hb) a) (λb o _ _ a e n=>u.any e n a) (λb o a e n=>u.free b o e n a) (λb o a e=>u.there b o e a) u.Na u.MV u.MN (λD j=>by
  obtain⟨C,v,q,h,i⟩:=j;rw[f]at h;cases h;exact⟨_,v,q,d,i⟩) y l
def Inv.turned{h':XAA}{t':Nat}(I:Inv X pins O H s)(k:∀b o,b≠a->s.heap.get? b=Y o->h'.get? b=Y o)(i:H a=J)(g:a≠X.env.locals)(y:a∈X.ex\/X.s₀.heap.objs.size<=a)(w:∀x c,X.env.cells.lookup x=Y c->c≠a)(l:∀p∈X.pn++pins,p.1≠a):Inv X pins O H { s with heap:=h',toks:=t' }:=by
 have f:∀b u,H b=Y u->b≠a:=λb u e z=>by rw[z,i]at e;cases e
 refine I.step (ch:=[a]) (λb hb=>?_) (λb o _ _ d e _=>k b o (λz=>d (by simp[z])) e) (λb o _ _ d e _=>⟨o.slots,k b o (λz=>d (by simp[z])) e⟩) (λ_ _ _ _ n=>n)
  (λb o d e=>⟨o,k b o (λz=>d (by simp[z])) e⟩) (λ_ _ e=>e) (λ_ _ _ e=>e) (λ_ _ e=>e) (λm j=>?_) (λb u e=>?_) I.bare
 ·have e:b=a:=by simpa using hb
  subst e;exact⟨y,g,w,l⟩
 ·obtain⟨o,A,C,h,r⟩:=j;exact⟨o,A,C,k _ o (Y4 g) h,r⟩
 ·refine(I.Kd b u e).N9 (λc v d q=>k c v ?_ q) (λ_ q=>q) (λ_ _ q=>q) λ_ _ _ q=>q;rcases d with z | z
  ·rw[z];exact f b u e
  ·exact f c _ z
def Inv.tok(I:Inv X pins O H s)(t:Nat):Inv X pins O H { s with toks:=t }:=I.un (t':=t) Un.refl I.Kd
theorem Inv.kept{h':XAA}{t':Nat}(I:Inv X pins O H s)(k:∀b u,s.heap.get? b=Y u->h'.get? b=Y u):Inv X pins O H { s with heap:=h',toks:=t' }:=I.un (Un.kept k) (I.Kd.kept k)
theorem Inv.laid{h':XAA}{o:HO}{t':Nat}(I:Inv X pins O H s)(k:∀b u,s.heap.get? b=Y u->h'.get? b=Y u)(e:s.heap.objs.size<=a)(d:du X.prog X.w (upd H a o) h' a o) :
  Inv X pins O (upd H a o) { s with heap:=h',toks:=t' }:=I.un (Un.laid k e (I.Kd.fresh e)) (I.Kd.laid k e d)
theorem Inv.write{h':XAA}{x e:On}(I:Inv X pins O H s)(d:Kn (H x))(he:e=x\/H e=Y (.own x))(k:∀b u,b≠e->s.heap.get? b=Y u->h'.get? b=Y u)(f:∃u,h'.get? e=Y u)(a:du X.prog X.w (upd H x o) h' x o):Inv X pins O (upd H x o) { s with heap:=h',toks:=g }:=I.un (Un.write d he k f) (I.Kd.write d he k f a)
def Inv.NT(I:Inv X pins O H s)(h:∀p∈a,s.heap.get? p.1=Y p.2/\H p.1=J/\p.1≠X.env.locals/\p.1∉X.fs/\∀v,p.2.data ≠ .cell v):Inv X a O H s :=
 ⟨I.ok,I.os,I.bare,I.base,I.loc,I.cell,I.free,I.Lz,λp b=>(Zc.mp b).elim (λz=>I.pin p (Yl _ z)) (h p),I.Kd,I.len⟩
def tq{N:List Str}(d:N.Nodup){i j:Nat}{x:Str}(a:N[i]?=Y x)(b:N[j]?=Y x):i=j:=by
 obtain⟨f,e1⟩:=Zb.mp a;obtain⟨e,e2⟩:=Zb.mp b;exact(V7 d).mp (e1.trans e2.symm)
def qf{v:V}(I:Inv X pins O H s)(hN:X.N.Nodup)(S:X.N[i]?=Y x)(l:Loc X.env.scope x)(r:RelV v u)(h:∀s',Inv X pins (O.set i (Y v)) H s'->(∃a,Heap.SameBut a s.heap s'.heap/\(a=X.env.locals\/X.env.cells.lookup x=Y a))->Q () s')(hf:{`q0,X.fn x=true\/X.env.scope.names.lookup x=Y .local}):Pi Mq0 A (storeName X.env x u) Q E s:=by
 obtain⟨m,hn,hl⟩:=id I.loc;have R:i<O.length:=by rw[I.len];exact(Zb.mp S).1
 have RZ:=I.RZ;have tracked:∀{a:On}{h':XAA},(∃o,s.heap.get? a=Y o/\H a=J)->Heap.SameBut a s.heap h'->LA X.prog X.w H h':=λ{a h'} ha f b ob e=>by
  obtain⟨_,_,QR⟩:=ha;refine(I.Kd b ob e).N9 (λc Z g q=>(f.2 c ?_).trans q) (λ_ q=>q) (λ_ _ q=>q) λ_ _ _ q=>q;rintro rfl;rcases g with rfl | g
  ·rw[QR]at e;cases e
  ·rw[QR]at g;cases g
 rcases l with C | C
 ·refine wpAny_storeName_local C hn (λh' hn' f=>?_) (by rw[I.ok.kind];rfl);obtain⟨oL,_,_,PU,_⟩:=id hn;refine h _ ⟨I.ok,I.os,I.bare,⟨λb o e n hb l=>?_,λb o e n hb l=>?_,I.base.free,λb o e l=>?_,I.base.Na,I.base.MV,I.base.MN⟩,⟨_,hn',λj y v' e1 e2 e3=>?_⟩,λy c e=>?_,I.free,I.Lz,λp hp=>?_,tracked ⟨oL,PU,I.free⟩ f,by simpa using I.len⟩ ⟨_,f,.inl L⟩
  ·exact(f.2 b (Za (Zg (ZO e) I.ok.above))).trans (I.base.keep b o e n hb l)
  ·obtain⟨sl,e1⟩:=I.base.slot b o e n hb l;exact⟨sl,(f.2 b (Za (Zg (ZO e) I.ok.above))).trans e1⟩
  ·obtain⟨o',e1⟩:=I.base.there b o e l;exact⟨o',(f.2 b (Za (Zg (ZO e) I.ok.above))).trans e1⟩
  ·by_cases D:j=i
   ·subst D;rw[S]at e1;cases e1;rw[XQ R]at e2;cases e2;exact⟨u,r,.inl ⟨C,by simp⟩⟩
   ·rw[YU (Y4 D)]at e2;obtain⟨u',r',q⟩:=hl j y v' e1 e2 e3;refine⟨u',r',?_⟩;rcases q with⟨k,e⟩ | ⟨k,c,e,z⟩
    ·refine .inl ⟨k,?_⟩;have:y≠x:=λe=>D (tq hN e1 (e ▸ S));simp[this,e]
    ·exact .inr ⟨k,c,e,z.sameBut f (RZ y c e)⟩
  ·obtain⟨Z,z⟩:=I.cell y c e;exact⟨Z,z.sameBut f (RZ y c e)⟩
  ·obtain⟨e,n,ne,nf,d⟩:=I.pin p hp;exact⟨(f.2 p.1 ne).trans e,n,ne,nf,d⟩
 ·have F:X.fn x=true:=by
   rcases hf with z | z
   ·exact z
   ·rw[z]at C;cases C
  obtain⟨c,g⟩:=I.ok.has x (.inl C);obtain⟨Z,z⟩:=I.cell x c g;refine wpAny_storeName_cell I.ok.kind C g z (λh' LP f=>?_);obtain⟨oc,P,G⟩:=id z;refine h { s with heap:=h' } ⟨I.ok,I.os,I.bare,⟨λb o e n hb l=>?_,λb o e n hb l=>?_,I.base.free,λb o e l=>?_,I.base.Na,I.base.MV,I.base.MN⟩,⟨m,hn.sameBut f (Y4 (RZ x c g)),λj y v' e1 e2 e3=>?_⟩,λy c' e=>?_,I.free,I.Lz,λp hp=>?_,tracked ⟨oc,P,I.Lz x c g⟩ f,by simpa using I.len⟩ ⟨c,f,.inr g⟩
  ·exact(f.2 b (Za (Zg (ZO e) (I.ok.Uq x c F g)))).trans (I.base.keep b o e n hb l)
  ·obtain⟨sl,e1⟩:=I.base.slot b o e n hb l;exact⟨sl,(f.2 b (Za (Zg (ZO e) (I.ok.Uq x c F g)))).trans e1⟩
  ·obtain⟨o',e1⟩:=I.base.there b o e l;exact⟨o',(f.2 b (Za (Zg (ZO e) (I.ok.Uq x c F g)))).trans e1⟩
  ·by_cases D:j=i
   ·subst D;rw[S]at e1;cases e1;rw[XQ R]at e2;cases e2;exact⟨u,r,.inr ⟨.inl C,c,g,LP⟩⟩
   ·rw[YU (Y4 D)]at e2;obtain⟨u',r',q⟩:=hl j y v' e1 e2 e3;refine⟨u',r',?_⟩;rcases q with q | ⟨k,c',e,z'⟩
    ·exact .inl q
    ·refine .inr ⟨k,c',e,z'.sameBut f ?_⟩;rintro rfl;exact D (tq hN e1 (I.ok.inj _ _ _ e g ▸ S))
  ·by_cases U:c'=c
   ·subst U;exact⟨_,LP⟩
   ·obtain⟨w2,z2⟩:=I.cell y c' e;exact⟨w2,z2.sameBut f U⟩
  ·obtain⟨e,n,ne,nf,d⟩:=I.pin p hp;refine⟨(f.2 p.1 ?_).trans e,n,ne,nf,d⟩;intro q;rw[q,P]at e;exact d Z (by rw[← (Zl e)];exact G)
def uj(I:Inv X pins O H s)(g:X.N.Nodup)(e:X.N[i]?=Y x)(d:Loc X.env.scope x)(r:RelV v u)(h:∀a,Inv X pins (O.set i (Y v)) H a->Q () a)(f:{`q0,X.fn x=true\/X.env.scope.names.lookup x=Y .local}):Pi b A (storeName X.env x u) Q E s :=
 qf I g e d r (λa j _=>h a j) f
def Inv.Up{a:KB}{ch:W9}(I:Inv X pins O H s)(d:a.os=s.os)(u:Un (LS X.stack) ch H H' s.heap a.heap)(g:LA X.prog X.w H' a.heap)(e:AllBare a.gens)(f:∀b∈ch,(b∈X.ex\/X.s₀.heap.objs.size<=b)/\b≠X.env.locals/\(∀x c,X.env.cells.lookup x=Y c->c≠b)/\∀p∈X.pn++pins,p.1≠b):Inv X pins O H' a:=by
 obtain⟨h',g',d',t',h⟩:=a;subst d;exact I.call (g':=g') (t':=t') (d':=d') u g e f
end
abbrev XK:=PP->Option On->Hp->Prop
noncomputable abbrev St:=List (Option V)
abbrev VK:=V->Hp->Prop
abbrev TE:=St->Hp->VK->Prop
abbrev TT:=St->Hp->(Bool->Hp->Prop)->Prop
abbrev TA:=St->Hp->(List V->Hp->Prop)->Prop
structure Ends where
 nx:St->Hp->Prop
 rt:VK
 bk:St->Hp->Prop:=λ_ _=>False
 ct:St->Hp->Prop:=λ_ _=>False
abbrev TS:=Ends->St->Hp->Prop
def EP(X:Cx)(a:Km)(O:St)(Q:VK)(u:PP)(d:KB):Prop:=∃v b,Inv X a O b d/\RelV v u/\Q v b
noncomputable def TP(X:Cx)(a:Km)(O:St)(Q:Bool->Hp->Prop)(b:Bool)(e:KB):Prop:=∃d,Inv X a O d e/\Q b d
def AP(X:Cx)(a:Km)(O:St)(Q:List V->Hp->Prop)(e:Vz)(f:KB):Prop:=∃b d,Inv X a O d f/\aP b e/\Q b d
def SP(X:Cx)(a:Km)(D:Ends)(f:Flow)(e:KB):Prop :=
 match f with
 |.next=>∃d b,Inv X a d b e/\D.nx d b
 |.brk=>∃d b,Inv X a d b e/\D.bk d b
 |.cont=>∃d b,Inv X a d b e/\D.ct d b
 |.ret u=>∃v d b,Inv X a d b e/\RelV v u/\D.rt v b
def PE(X:Cx)(e:Expr)(t:TE):Prop :=
 ∀(a:Km)(s:KB)(O:St)(H:Hp)(Q:VK),Inv X a O H s->t O H Q->Pi (KF X.prog X.w) X.A (eval e X.env) (EP X a O Q) X.xe s
def PT(X:Cx)(e:Expr)(t:TT):Prop :=
 ∀(a:Km)(s:KB)(O:St)(H:Hp)(Q:Bool->Hp->Prop),Inv X a O H s->t O H Q->Pi (KF X.prog X.w) X.A (isTrue e X.env (eval e X.env)) (TP X a O Q) X.xe s
def PW(X:Cx)(e:Expr)(t:TT):Prop :=
 ∀(whole:Sem PP)(a:Km)(s:KB)(O:St)(H:Hp)(Q:Bool->Hp->Prop),Inv X a O H s->t O H Q->Pi (KF X.prog X.w) X.A (isTrue e X.env whole) (TP X a O Q) X.xe s
def PW.pt(h:PW X e t):PT X e t:=h _
def PA(X:Cx)(b:List Expr)(t:TA):Prop :=
 ∀(pos:Pos)(a:Km)(s:KB)(O:St)(H:Hp)(Q:List V->Hp->Prop),Inv X a O H s->t O H Q->Pi (KF X.prog X.w) X.A (spliced (backTo pos (P3 b X.env))) (AP X a O Q) X.xe s
def PS(X:Cx)(b:Stmt)(t:TS):Prop :=
 ∀(a:Km)(s:KB)(O:St)(H:Hp)(D:Ends),Inv X a O H s->t D O H->Pi (KF X.prog X.w) X.A (exec b X.env) (SP X a D) X.xe s
def Mr(X:Cx)(b:List Stmt)(t:TS):Prop :=
 ∀(a:Km)(s:KB)(O:St)(H:Hp)(D:Ends),Inv X a O H s->t D O H->Pi (KF X.prog X.w) X.A (execs b X.env) (SP X a D) X.xe s
def thn{α:Type}{t:Sem α}{Q b:α->KB->Prop}{M:Model}(h:Pi M A t Q E s)(d:∀a s,Q a s->b a s):Pi M A t b E s:=Xw h d λ_ _ x=>x
section
noncomputable def Jm(i:Nat):TE:=λO H Q=>∃v,O[i]?=Y (Y v)/\Q v H
noncomputable def tC(v:V):TE:=λ_ H Q=>Q v H
def fh{X:Cx}(y:X.N[i]?=Y x)(o:M7 X.env.scope x)(f:{`q1,K3 x})(g:{`q1,K4 x}):PE X (.Name x d) (Jm i):=by
 intro b s O H Q I h;obtain⟨v,e,h⟩:=h;obtain⟨m,p,w⟩:=I.loc;obtain⟨u,r,l⟩:=w i x v y e o;have fin:EP X b O Q u s:=⟨v,H,I,r,h⟩
 rcases l with⟨a,q⟩ | ⟨a,c,j,n⟩
 ·exact wpAny_Name (wpAny_loadName_local I.ok.kind a p q fin) f
 ·rcases a with a | a
  ·exact wpAny_Name (wpAny_loadName_cell I.ok.kind a j n fin) f
  ·exact wpAny_Name (wpAny_loadName_free I.ok.kind a j n fin g) f
def qJ{i j pos}:PE X (.Constant (.int i) j pos) (tC (.int i)):=λ_ _ _ H _ I h=>wpAny_Constant_int ⟨.int i,H,I.tok _,⟨_,rfl⟩,h⟩
def HR{b j pos}:PE X (.Constant (.bool b) j pos) (tC (.bl b)):=λ_ _ _ H _ I h=>Constant_bool ⟨.bl b,H,I,rfl,h⟩
def FP{j pos}:PE X (.Constant .none j pos) (tC .non):=λ_ _ _ H _ I h=>Constant_none ⟨.non,H,I,rfl,h⟩
def GC{x j pos}:PE X (.Constant (.str x) j pos) (tC (.str x)):=λ_ _ _ H _ I h=>Calls.Constant_str ⟨.str x,H,I.tok _,⟨_,rfl⟩,h⟩
noncomputable def Gl(X:Cx)(x:Str):Prop:=X.env.kindOf x=Y .globalImplicit
def nN(I:Inv X a O H s)(e:Gl X x)(d:X.mg x=Y u)(h:Q u s)(f:{`q1,K3 x}):Pi (KF X.prog X.w) X.A (eval (.Name x b) X.env) Q E s :=
 Calls.Name_function_global I.ok.kind e (Calls.loadGlobal_global (by rw[I.ok.glob];exact I.mod.glob.keeps I.bk) d h) f
def oh(I:Inv X a O H s)(g:Gl X x)(f:X.mg x=J)(d:bootBuiltins x=Y u)(h:Q u s)(e:{`q1,x ≠ "__name__"})(i:{`q1,K3 x}):Pi (KF X.prog X.w) X.A (eval (.Name x b) X.env) Q E s:=by
 obtain⟨m,l,j⟩:=I.mod.blt;exact Calls.Name_function_global I.ok.kind g (Calls.loadGlobal_builtin (by rw[I.ok.glob];exact I.mod.glob.keeps I.bk) f (by rw[I.ok.blt];exact l.keeps I.bk) ((j x e).trans d) h) i
def Er(d:Gl X x)(b:X.mg x=Y u)(r:RelV v u)(e:{`q1,K3 x}):PE X (.Name x a) (tC v) :=
 λ_ _ _ H _ I h=>nN I d b ⟨v,H,I,r,h⟩ e
def Cp{v:V}(f:Gl X x)(e:X.mg x=J)(b:bootBuiltins x=Y u)(r:RelV v u)(d:{`q1,x ≠ "__name__"})(g:{`q1,K3 x}):PE X (.Name x a) (tC v) :=
 λ_ _ _ H _ I h=>oh I f e b ⟨v,H,I,r,h⟩ d g
def PC(X:Cx)(g:CmpOp)(a b:Expr)(t:TE):Prop :=
 ∀(d:Km)(s:KB)(O:St)(H:Hp)(Q:VK),Inv X d O H s->t O H Q →
  Pi (KF X.prog X.w) X.A (eval a X.env) (λv f=>Pi (KF X.prog X.w) X.A (eval b X.env) (λu e=>Pi (KF X.prog X.w) X.A (UV g v u) (EP X d O Q) X.xe e) X.xe f) X.xe s
def zD(b:Expr)(h:d ≠ .In)(e:d ≠ .NotIn):behindInMarks d b=B:=by
 have e1:(d==CmpOp.In)=B:=by cases d<;>first | rfl | exact absurd L h
 have e2:(d==CmpOp.NotIn)=B:=by cases d<;>first | rfl | exact absurd L e
 cases b<;>simp[behindInMarks,e1,e2]
noncomputable def J0(ta:TE):TE:=λO H Q=>ta O H λx d=>Q (.bl (decide (x=.non))) d
noncomputable def Jn(ta:TE):TE:=λO H Q=>ta O H λx d=>Q (.bl (!decide (x=.non))) d
def RelV.Ng(r:RelV x v):(v==Value.none)=decide (x=.non):=by
 cases x with
 |non=>cases r;rfl
 |bl _=>cases r;rfl
 |int _=>obtain⟨t,rfl⟩:=r;rfl
 |str _=>obtain⟨t,rfl⟩:=r;rfl
 |byt _=>obtain⟨t,rfl⟩:=r;rfl
 |flt _=>obtain⟨t,rfl⟩:=r;rfl
 |ref _=>cases r;rfl
 |ty _=>cases r;rfl
def Gp{j pos'}(f:PE X a ta):PC X .Is a (.Constant .none j pos') (J0 ta):=by
 intro d s O H Q I h;refine thn (f d s O H _ I h) λv s1 g=>?_;obtain⟨x,l,i,r1,e⟩:=g;exact Constant_none (is_none_gen ⟨.bl _,l,i,by rw[r1.Ng];rfl,e⟩)
def DH{j pos'}(f:PE X a ta):PC X .IsNot a (.Constant .none j pos') (Jn ta):=by
 intro d s O H Q I h;refine thn (f d s O H _ I h) λv s1 g=>?_;obtain⟨x,l,i,r1,e⟩:=g;exact Constant_none (isnot_none_gen ⟨.bl _,l,i,by rw[r1.Ng];rfl,e⟩)
noncomputable def tB(t:TE):TT:=λO H Q=>t O H λx d=>∃c,x=.bl c/\Q c d
def zr(h:PC X f a b t)(g:behindInMarks f b=B:=by first | exact zD _ (by decide) (by decide) | rfl):PT X (.Compare a [f] [b] pos) (tB t):=by
 intro e s O H Q I hw;refine wpAny_isTrue_Compare1 (thn (h e s O H _ I hw) λv s1 g=>thn g λu p l=>thn l λc o j=>?_) g;obtain⟨x,n,m,r1,i⟩:=j;obtain⟨d,rfl,q⟩:=i;cases r1;exact Y0 ⟨n,m,q⟩
def FO(h:PE X e t)(he:{`q2,∀whole,isTrue e X.env whole=(do let v ← whole;standAt e.pos;holding [v] (truthy v))}):PT X e (tB t):=by
 intro f s O H Q I hw;refine isTrue_plain (thn (h f s O H _ I hw) λv s1 ⟨x,j,i,r1,g⟩=>?_) (he _);obtain⟨d,rfl,q⟩:=g;cases r1;exact Y0 ⟨j,i,q⟩
noncomputable def JW(t u:TT):TT:=λO H Q=>t O H λc d=>if c=M then u O d Q else Q B d
noncomputable def tOr(t u:TT):TT:=λO H Q=>t O H λc d=>if c=M then Q M d else u O d Q
noncomputable def JY(t:TT):TT:=λO H Q=>t O H λc d=>Q (!c) d
def nI(f:PT X a tA):PW X (.BoolOp .And [a] pos) tA:=by
 intro g d s O H Q I h;refine isTrue_and (thn (f d s O H Q I h) λc s1 e=>?_);cases c with
 |true=>exact isTrue_and_nil e
 |false=>exact e
def qH(f:PT X a tA):PW X (.BoolOp .Or [a] pos) tA:=by
 intro g d s O H Q I h;refine isTrue_or (thn (f d s O H Q I h) λc s1 e=>?_);cases c with
 |false=>exact isTrue_or_nil e
 |true=>exact e
def Bp{X:Cx}{a:Expr}{pos:Pos}{tA UP:TT}{rest:List Expr}(l:PT X a tA)(j:PW X (.BoolOp .And (b :: rest) pos) UP):PW X (.BoolOp .And (a :: b :: rest) pos) (JW tA UP):=by
 intro i d s O H Q I h;refine isTrue_and (thn (l d s O H _ I h) λc s1 m=>?_);obtain⟨g,f,e⟩:=m;cases c with
 |true=>exact j i d s1 O g Q f e
 |false=>exact⟨g,f,e⟩
def IA{X:Cx}{a:Expr}{pos:Pos}{tA UP:TT}{rest:List Expr}(l:PT X a tA)(j:PW X (.BoolOp .Or (b :: rest) pos) UP):PW X (.BoolOp .Or (a :: b :: rest) pos) (tOr tA UP):=by
 intro i d s O H Q I h;refine isTrue_or (thn (l d s O H _ I h) λc s1 m=>?_);obtain⟨g,f,e⟩:=m;cases c with
 |true=>exact⟨g,f,e⟩
 |false=>exact j i d s1 O g Q f e
def Cj(e:PT X a tA):PT X (.UnaryOp .Not a pos) (JY tA):=by
 intro d s O H Q I h;exact isTrue_not (e d s O H (λc f=>Q (!c) f) I h)
noncomputable def ID(ta e:TE):TE:=λO H Q=>ta O H λx d=>∃c,x=.bl c/\if c=M then e O d Q else Q (.bl B) d
noncomputable def Jv(ta:TE):TE:=λO H Q=>ta O H λx d=>∃c,x=.bl c/\Q (.bl (!c)) d
def GS{op}(h:PE X a t):PE X (.BoolOp op [a] pos) t:=λd s O H Q I hw=>BoolOp_one (h d s O H Q I hw)
def FW{X:Cx}{a:Expr}{ta tb:TE}{pos:Pos}{rest:List Expr}(j:PE X a ta)(i:PE X (.BoolOp .And (b :: rest) pos) tb):PE X (.BoolOp .And (a :: b :: rest) pos) (ID ta tb):=by
 intro d s O H Q I h;refine BoolOp_and (thn (j d s O H _ I h) λv s1 l=>?_);obtain⟨x,g,f,r1,e⟩:=l;obtain⟨c,rfl,e⟩:=e;cases r1;refine Y0 ?_;cases c with
 |true=>exact i d s1 O g Q f e
 |false=>exact⟨.bl B,g,f,rfl,e⟩
def Fl(f:PE X a ta):PE X (.UnaryOp .Not a pos) (Jv ta):=by
 intro d s O H Q I h;refine UnaryOp_ (thn (f d s O H _ I h) λv s1 g=>?_);obtain⟨x,j,i,r1,e⟩:=g;obtain⟨c,rfl,e⟩:=e;cases r1;exact not_of (Y0 ⟨.bl (!c),j,i,rfl,e⟩)
end
def Kt(K:X2)(H:Hp)(a:On)(d:List V):Prop :=
 Rd H a (.lst d) ∨
  ∃(o:Obj)(b:Array PP)(n:Nat),K.lookup a=Y o/\o.cls=.type "list" ∧ o.dict=J/\o.data=.seq b n/\b.size<=KM/\aP d b.toList
def LF(K:X2)(H:Hp)(a:On)(d:List V):Prop :=
 Rd H a (.tup d) ∨
  ∃(o:Obj)(b:Array PP)(n:Nat),K.lookup a=Y o/\o.cls=.type "tuple" ∧ o.data=.seq b n/\b.size<=KM/\aP d b.toList
noncomputable def JU:PP->Option V
 |.none=>Y .non
 |.bool b=>Y (.bl b)
 |.int i _=>Y (.int i)
 |.str x _=>Y (.str x)
 |.bytes b _=>Y (.byt b)
 |.float b _=>Y (.flt b)
 |.ref a=>Y (.ref a)
 |.type n=>Y (.ty n)
 |_=>J
def RelV.abs(r:RelV x u):JU u=Y x:=by
 cases x with
 |non=>cases r;rfl
 |bl _=>cases r;rfl
 |int _=>obtain⟨t,rfl⟩:=r;rfl
 |str _=>obtain⟨t,rfl⟩:=r;rfl
 |byt _=>obtain⟨t,rfl⟩:=r;rfl
 |flt _=>obtain⟨t,rfl⟩:=r;rfl
 |ref _=>cases r;rfl
 |ty _=>cases r;rfl
def RelV.inj(r:RelV x u)(q:RelV y u):x=y:=Zl (r.abs.symm.trans q.abs)
theorem aP.inj:∀{b a:List V}{d:Vz},aP b d->aP a d->b=a
 |_,_,_,.nil,.nil=>rfl
 |_,_,_,.cons r t,.cons f e=>by rw[r.inj f,aP.inj t e]
section
variable{H:Hp}
def Kt.of{K:X2}(h:H a=Y (.lst xs)):Kt K H a xs:=.inl (.inl h)
def LF.of{K:X2}(h:H a=Y (.tup xs)):LF K H a xs:=.inl (.inl h)
def Inv.list(I:Inv X pins O H s)(h:Kt X.K H a xs):∃b:Vz,aP xs b/\PlainL s.heap a b.toArray/\xs.length<=sizeLine:=by
 rcases h with h | ⟨o,b,n,f,g,hd,d,i,r⟩
 ·obtain⟨z,b,n,r,e⟩:=h.ok I.Kd;exact⟨b,r,⟨_,n,e,rfl,rfl,rfl⟩,z⟩
 ·refine⟨b.toList,r,⟨o,n,I.LZ a o f,g,hd,by simpa using d⟩,?_⟩;have e:=r.length;simp only[Ym]at e;lia
def Inv.tuple(I:Inv X pins O H s)(h:LF X.K H a xs):∃b:Vz,aP xs b/\IsTup s.heap a b.toArray/\xs.length<=sizeLine:=by
 rcases h with h | ⟨o,b,n,f,g,d,i,r⟩
 ·obtain⟨z,b,r,_,p⟩:=h.ok I.Kd;exact⟨b,r,p,z⟩
 ·refine⟨b.toList,r,⟨o,I.LZ a o f,g,n,by simpa using d⟩,?_⟩;have e:=r.length;simp only[Ym]at e;lia
def Inv.Nh(I:Inv X pins O H s)(h:Kt X.K H a xs)(j:Kt X.K H a ys):xs=ys:=by
 obtain⟨i,r,⟨o,n,e,_,_,d⟩,_⟩:=I.list h;obtain⟨l,g,⟨m,p,b,_,_,f⟩,_⟩:=I.list j;rw[e]at b;cases b;rw[d]at f;injection f with d1 _
 have:i=l:=by simpa using congrArg Array.toList d1
 subst this;exact r.inj g
def Inv.N8(I:Inv X pins O H s)(h:LF X.K H a xs)(j:LF X.K H a ys):xs=ys:=by
 obtain⟨i,r,⟨o,e,_,n,d⟩,_⟩:=I.tuple h;obtain⟨l,g,⟨m,b,_,p,f⟩,_⟩:=I.tuple j;rw[e]at b;cases b;rw[d]at f;injection f with d1 _
 have:i=l:=by simpa using congrArg Array.toList d1
 subst this;exact r.inj g
end
noncomputable abbrev Cx.Ms(X:Cx)(E:Ki):Cx:={ X with xe:=E }
abbrev Cx.Nf(X:Cx):Cx:=X.Ms λ_ _=>False
theorem Cx.Ok.Ms{X:Cx}(a:X.Ok)(E:Ki):(X.Ms E).Ok :=
 ⟨a.mod,a.kind,a.glob,a.blt,a.above,a.inj,a.has,a.Uq,a.hd,a.frames,a.UQ,a.exf,a.tb,a.bs,a.P4,a.OM,a.PY,a.L8,a.RV⟩
def Cx.Ok.Ln{X:Cx}(a:(X.Ms E).Ok):X.Ok :=
 ⟨a.mod,a.kind,a.glob,a.blt,a.above,a.inj,a.has,a.Uq,a.hd,a.frames,a.UQ,a.exf,a.tb,a.bs,a.P4,a.OM,a.PY,a.L8,a.RV⟩
section
variable{H:Hp}
theorem Inv.Ms(I:Inv X pins O H s)(E:Ki):Inv (X.Ms E) pins O H s:=⟨I.ok.Ms E,I.os,I.bare,I.base,I.loc,I.cell,I.free,I.Lz,I.pin,I.Kd,I.len⟩
theorem Inv.Ln{X:Cx}(I:Inv (X.Ms E) pins O H s):Inv X pins O H s:=⟨I.ok.Ln,I.os,I.bare,I.base,I.loc,I.cell,I.free,I.Lz,I.pin,I.Kd,I.len⟩
theorem SP.Ln{X:Cx}(h:SP (X.Ms E) pins D f d):SP X pins D f d:=by
 cases f with
 |next=>obtain⟨a,b,I,q⟩:=h;exact⟨a,b,I.Ln,q⟩
 |brk=>obtain⟨a,b,I,q⟩:=h;exact⟨a,b,I.Ln,q⟩
 |cont=>obtain⟨a,b,I,q⟩:=h;exact⟨a,b,I.Ln,q⟩
 |ret u=>obtain⟨v,a,b,I,r,q⟩:=h;exact⟨v,a,b,I.Ln,r,q⟩
theorem Mr.Nf{X:Cx}(h:Mr X.Nf a t):Mr X a t:=λpins s O H D I hw =>
 Xw (h pins s O H D (I.Ms _) hw) (λ_ _ q=>q.Ln) λ_ _ z=>False.elim z
end
section
variable{st:Stmt}
noncomputable def Iu:TS:=λD O H=>D.nx O H
noncomputable def JT(t u:TS):TS:=λD O H=>t { D with nx:=u D } O H
def DG:Mr X [] Iu:=λ_ _ O H _ I h=>VU ⟨O,H,I,h⟩
def AI{X:Cx}{rest:List Stmt}{t u:TS}(d:PS X st t)(b:Mr X rest u):Mr X (st :: rest) (JT t u):=by
 intro a s O H D I h;refine wpAny_execs_cons (thn (d a s O H { D with nx:=u D } I h) λf s1 q=>?_);cases f with
 |next =>
  obtain⟨g,j,i,q⟩:=q;exact b a s1 g j D i q
 |ret v=>exact q
 |brk=>exact q
 |cont=>exact q
def au(b:PS X st t):Mr X [st] t:=by
 intro a s O H D I h;refine wpAny_execs_cons (thn (b a s O H D I h) λf s1 q=>?_);cases f with
 |next=>exact VU q
 |ret v=>exact q
 |brk=>exact q
 |cont=>exact q
def Inv.quiet(I:Inv X a O H s):interactive X.env=B:=by simp[interactive,I.ok.kind]
noncomputable def JB(a:TE):TS:=λD O H=>a O H λ_ b=>D.nx O b
def jz{pos:Pos}(he:PE X e te)(d:{`q3,swapsWith e J pos.line X.env=pure B}):PS X (.Expr e pos) (JB te):=by
 intro a s O H D I h;exact wpAny_Expr_any (thn (he a s O H _ I h) λv s1 ⟨x,g,f,r1,b⟩=>⟨O,g,f,b⟩) I.quiet d
noncomputable def JQ(a:TE):TS:=λD O H=>a O H D.rt
def rV(he:PE X e te):PS X (.Return (Y e) pos) (JQ te):=by
 intro a s O H D I h;refine wpAny_Return_some (thn (he a s O H _ I h) λv s1 d=>?_);obtain⟨x,g,f,r1,b⟩:=d;exact⟨x,O,g,f,r1,b⟩
noncomputable def Kb(c:TT)(t u:TS):TS:=λD O H=>c O H λb a=>if b=M then t D O a else u D O a
def EJ(m:PT X c g)(o:Mr X a t)(n:Mr X b u):PS X (.If c a b pos) (Kb g t u):=by
 intro f s O H D I h;refine wpAny_If (thn (m f s O H _ I h) λd s1 p=>?_);obtain⟨l,j,i⟩:=p;cases d with
 |true=>exact o f s1 O l D j i
 |false=>exact n f s1 O l D j i
end
abbrev TG:=V->St->Hp->(St->Hp->Prop)->Prop
abbrev P8:=List V->St->Hp->(St->Hp->Prop)->Prop
def PG(X:Cx)(a:Expr)(t:TG):Prop :=
 ∀(b:Km)(s:KB)(O:St)(H:Hp)(v:V)(u:PP)(Q:St->Hp->Prop),Inv X b O H s->RelV v u->t v O H Q →
  Pi (KF X.prog X.w) X.A (assign a X.env u) (λ_ f=>∃d e,Inv X b d e f/\Q d e) X.xe s
def Pw(X:Cx)(g:List Expr)(t:P8):Prop :=
 ∀(a:Km)(s:KB)(O:St)(H:Hp)(b:List V)(d:Vz)(Q:St->Hp->Prop),Inv X a O H s->aP b d->t b O H Q →
  Pi (KF X.prog X.w) X.A (assignInOrder ((assignEach g X.env).map (·.2)) d) (λ_ h=>∃e f,Inv X a e f h/\Q e f) X.xe s
abbrev D3:=V->V->V->Hp->(Hp->Prop)->Prop
def Gq(X:Cx)(t:D3):Prop :=
 ∀(a:Km)(s:KB)(O:St)(H:Hp)(o i v:V)(b iv u:PP)(Q:Hp->Prop),Inv X a O H s->RelV o b->RelV i iv->RelV v u->t o i v H Q →
  Pi (KF X.prog X.w) X.A (setItem b iv u) (λ_ e=>∃d,Inv X a O d e/\Q d) X.xe s
section
noncomputable def Bu(i:Nat):TG:=λv O H Q=>Q (O.set i (Y v)) H
def wI{X:Cx}(f:X.N.Nodup)(d:X.N[i]?=Y x)(b:Loc X.env.scope x)(e:{`q0,X.fn x=M\/X.env.scope.names.lookup x=Y .local}):PG X (.Name x pos) (Bu i):=by
 intro a s O H v u Q I r h;exact wpAny_assign_Name (uj I f d b r (λj g=>⟨_,H,g,h⟩) e)
noncomputable def JH:P8:=λa O H Q=>a=[]/\Q O H
noncomputable def Iz(t:TG)(u:P8):P8:=λa O H Q=>∃v r,a=v :: r/\t v O H λb d=>u r b d Q
def DR:Pw X [] JH:=by
 intro a s O H b d Q I r h;obtain⟨e,h⟩:=h;subst e;cases r;exact assignInOrder_nil ⟨O,H,I,h⟩
def A7(l:PG X e t)(j:Pw X b u)(g:{`q3,(assignEach (e :: b) X.env).map (·.2)=assign e X.env :: (assignEach b X.env).map (·.2)}):Pw X (e :: b) (Iz t u):=by
 intro a s O H p w Q I r h;obtain⟨v,q,e1,h⟩:=h;subst e1;cases r with
 |cons r d =>
  rw[g];refine assignInOrder_cons (thn (l a s O H _ _ _ I r h) λ_ s1 i=>?_);obtain⟨m,o,n,f⟩:=i;exact j a s1 m o _ _ Q n d f
def jJ(K:X2)(n:Nat)(t:P8):TG:=λv O H Q=>∃a b,v=.ref a/\LF K H a b/\b.length=n/\t b O H Q
def Hk{X:Cx}(w:X.calm=M)(h:Pw X f t)(p:{`q3,(assignEach f X.env).length=n})(x:{`q3,(assignEach f X.env).findIdx? (·.1)=J}):PG X (.Tuple f k pos) (jJ X.K n t):=by
 intro d s O H v u Q I r hw;obtain⟨a,i,e1,m,q,hw⟩:=hw;subst e1;cases r;obtain⟨y,g,l,z⟩:=I.tuple m;refine assign_Tuple_tuple (I.ok.hd w) l (by simp[p,← q,g.length]) x λA j=>?_;exact h d _ O H i _ Q (I.kept (t':=s.toks) λb o e=>j b o (Za (ZO e)) e) (by simpa using g) hw
noncomputable def Jj(a b:TE)(t:D3):TG:=λv O H Q=>a O H λo f=>b O f λi e=>t o i v e λd=>Q O d
def vU(p:PE X o e)(q:PE X i f)(n:Gq X t)(w:{`q2,∀v,assign (.Subscript o i pos) X.env v=(do
   let b ← holding [v] (eval o X.env)
   let iv ← holding [v,b] (eval i X.env)
   standAt pos
   holding [v,b,iv] (setItem b iv v)
   release [v,b,iv] [])}):PG X (.Subscript o i pos) (Jj e f t):=by
 intro a s O H v u Q I r h;rw[w];refine Zr (Y2 (thn (p a s O H _ I h) λb s1 d=>?_));obtain⟨x,F,C,r1,m⟩:=d;refine Zr (Y2 (thn (q a s1 O F _ C m) λiv g d=>?_));obtain⟨y,E,A,r2,l⟩:=d;refine Zr (wpAny_standAt (Zr (Y2 (thn (n a g O E x y v b iv u _ A r1 r2 r l) λ_ G d=>?_))));obtain⟨D,z,j⟩:=d;exact wpAny_release ⟨O,D,z,j⟩
noncomputable def HX(a:TE)(g:TG):TS:=λD O H=>a O H λx b=>g x O b D.nx
def vP{pos:Pos}(he:PE X e d)(j:PG X b g)(i:{`q3,swapsWithSole [b] e pos.line X.env=pure B})(hw:{`q3,swappedStores [b] e X.env=pure J})(m:{`q3,(assignEach [b] X.env).map (·.2)=[assign b X.env]}):PS X (.Assign [b] e pos) (HX d g):=by
 intro a s O H D I h;refine wpAny_Assign_stores (thn (he a s O H _ I h) λv s1 l=>?_) i hw;obtain⟨x,o,n,r1,f⟩:=l;rw[m];exact thn (j a s1 O o x v _ n r1 f) λ_ p q=>q
def rB{X:Cx}{pos:Pos}(o:X.N.Nodup)(l:X.N[i]?=Y x)(g:Loc X.env.scope x)(he:PE X e d)(j:{`q3,swapsWith e (Y (.Name x a)) pos.line X.env=pure B})(m:{`q0,X.fn x=M\/X.env.scope.names.lookup x=Y .local}) :
  PS X (.Assign [.Name x a] e pos) (HX d (Bu i)):=by
 intro b s O H D I h;refine wpAny_Assign_Name (thn (he b s O H _ I h) λv s1 n=>?_) j;obtain⟨y,r,q,r1,f⟩:=n;exact uj q o l g r1 (λu p=>⟨_,r,p,f⟩) m
end
section
def G7(c:TT)(g:TS):TS:=λD O H=>∃W:Nat->St->Hp->Prop,(∃m,W m O H)/\∀m O H,W m O H →
 c O H λb e=>if b=M then ∃N:St->Hp->Prop,(∀d f,N d f->∃a,a<m/\W a d f)/\g { D with nx:=N,ct:=N,bk:=D.nx } O e else D.nx O e
def Bo{X:Cx}(y:PassesOwn (KF X.prog X.w) X.A X.env X.xe)(Z:PT X c u)(hb:Mr X d x):PS X (.While c d [] pos) (G7 u x):=by
 intro a s O H D I h;obtain⟨W,⟨U,Q⟩,turn⟩:=h;refine wpAny_While (codeAny_whileLoop (λn S=>∃z G,Inv X a z G S/\W n z G) ?_ U ⟨O,H,I,Q⟩);rintro n s1 ⟨l,F,I1,P⟩;refine XC y (thn (Z a s1 l F _ I1 (turn n l F P)) λb R h_=>?_);obtain⟨E,C,j⟩:=h_;cases b with
 |true =>
  obtain⟨N,hN,j⟩:=j;rw[Zp L];refine XC y (thn (hb a R l E _ C j) λf s3 i=>?_);cases f with
  |next =>
   obtain⟨e,g,r,o⟩:=i;obtain⟨p,q,m⟩:=hN e g o;exact⟨p,q,e,g,r,m⟩
  |cont =>
   obtain⟨e,g,r,o⟩:=i;obtain⟨p,q,m⟩:=hN e g o;exact⟨p,q,e,g,r,m⟩
  |brk=>exact i
  |ret v=>exact i
 |false =>
  rw[Zo Zh];exact VU ⟨l,E,C,j⟩
end
structure It where
 go:Nat->Hp->Prop
 UK:Nat->Hp->V->Hp->Prop
 stop:Nat->Hp->Prop
def pM(X:Cx)(a:Km)(H:Hp)(b:On):Prop :=
 H b=J/\b≠X.env.locals/\b∉X.fs/\(b∈X.ex\/X.s₀.heap.objs.size<=b)/\(∀x c,X.env.cells.lookup x=Y c->c≠b)/\∀p∈X.pn++a,p.1≠b
def Inv.OY(I:Inv X a O H s)(d:s.heap.objs.size<=b)(h:f b=J):pM X a f b:=by
 refine⟨h,Wk (Zg I.lt d),I.nofs d,.inr (ZR I.sz d),λx c e z=>?_,λp g z=>?_⟩
 ·obtain⟨v,q⟩:=I.cell x c e;exact absurd (Zg q.lt (by rw[z];exact d)) (YE _)
 ·exact absurd (Zg (ZO (I.pin p g).1) (by rw[z];exact d)) (YE _)
structure Turn(P:SB)(w:XAB)(K:X2)(tg:Expr)(J:It)(fp:W9)(it:On)(tn:Nat->XAA->Prop):Prop where
 mem:it∈fp
 obj:∀i h,tn i h->∀b∈fp,∃o,h.get? b=some o/\∀v,o.data ≠ .cell v
 keep:∀i h h',tn i h->(∀b∈fp,∀o,h.get? b=some o->h'.get? b=some o)->tn i h'
 item:∀(X:Cx),X.prog=P->X.w=w->X.K=K->X.calm=true->∀(i:Nat)(pins:Km)(s:KB)(O:St)(H:Hp)(E:Ki),Inv X pins O H s->(∀b∈fp,pM X pins H b)->tn i s.heap->J.go i H →
  Pi (KF P w) X.A (pyNext (.ref it)) (λr s1=>∃u,r=some u ∧
   Pi (KF P w) X.A (letOwnedTupleGo tg (.ref it) u) (λ_ s2=>∃x H',Inv X pins O H' s2/\RelV x u/\J.UK i H x H'/\tn (i+1) s2.heap/\∀b∈fp,H' b=none) E s1) E s
 done:∀(X:Cx),X.prog=P->X.w=w->X.K=K->X.calm=true->∀(i:Nat)(pins:Km)(s:KB)(O:St)(H:Hp)(E:Ki),Inv X pins O H s->(∀b∈fp,pM X pins H b)->tn i s.heap->J.stop i H →
  Pi (KF P w) X.A (pyNext (.ref it)) (λr s1=>r=none/\Inv X pins O H s1) E s
 self:∀(A:SC)(i:Nat)(s:KB)(Q:Ki)(E:Ki),tn i s.heap->Q (.ref it) s->Pi (KF P w) A (pyIter (.ref it)) Q E s
abbrev TI:=St->Hp->(It->Hp->Prop)->Prop
def PIE(X:Cx)(a:Km)(O:St)(h:Expr)(R:It->Hp->Prop)(d:PP)(g:KB):Prop :=
 ∃(it:On)(fp:W9)(f:Nat->XAA->Prop)(J:It)(e:Hp),d=.ref it/\Inv X a O e g/\Turn X.prog X.w X.K h J fp it f/\f 0 g.heap/\(∀b∈fp,pM X a e b)/\R J e
def PI(X:Cx)(e b:Expr)(d:TI):Prop :=
 ∀(a:Km)(s:KB)(O:St)(H:Hp)(R:It->Hp->Prop),Inv X a O H s->d O H R →
  Pi (KF X.prog X.w) X.A (eval b X.env) (λv s1=>Pi (KF X.prog X.w) X.A (pyIter v) (PIE X a O e R) X.xe s1) X.xe s
def uM{M:Model}{s:KB}(f:s.heap.get? e=Y o)(j:o.cls=.type n)(i:o.data=.fields b)(g:["enumerate", "zip", "dict_itemiterator", "dict_reverseitemiterator", "odict_iterator", "itertools.zip_longest", "itertools.pairwise"].contains n=B)(a:Q () s):Pi M A (letOwnedTupleGo d (.ref e) u) Q E s:=by
 cases d<;>first
  |exact Zk a
  | (cases u<;>first
    |exact Zk a
    | (refine Zr (wpAny_load f ?_)
       rw[j,i];show Pi M A (if (["enumerate", "zip", "dict_itemiterator", "dict_reverseitemiterator", "odict_iterator", "itertools.zip_longest", "itertools.pairwise"].contains n&&b[0]? == Y (rawInt _))=true then _ else _) Q E s;rw[Zo (by intro h;rw[g,Bool.false_and]at h;cases h)];exact Zk a))
def Itl(K:X2)(a:On):It :=
 ⟨λi H=>∃b x,Kt K H a b/\b[i]?=Y x,λi H x d=>d=H/\∀b,Kt K H a b->b[i]?=Y x,λi H=>∃b,Kt K H a b/\b.length<=i⟩
def Itt(K:X2)(a:On):It :=
 ⟨λi H=>∃b x,LF K H a b/\b[i]?=Y x,λi H x d=>d=H/\∀b,LF K H a b->b[i]?=Y x,λi H=>∃b,LF K H a b/\b.length<=i⟩
noncomputable def Itr(a:Int)(n:Nat):It:=⟨λi _=>i<n,λi H x b=>b=H/\x=.int (a+i),λi _=>n<=i⟩
def yZ{K:X2}(a f:On):Turn P w K Q (Itl K a) [f] f (λi h=>h.IsListIter f a i) where
 mem:=by simp
 obj:=λi h st b hb=>by
  have e:b=f:=by simpa using hb
  subst e;obtain⟨o,e,c,d⟩:=st;exact⟨o,e,λv z=>by rw[d]at z;cases z⟩
 keep:=λi h G st k=>st.at λo e=>k f (by simp) o e
 item:=by
  intro X r hw y F i g s O H E I l st hg;refine L2.ai λP_ n=>?_;subst r hw y;obtain⟨N,x,j,q⟩:=hg;obtain⟨S,m,p,U⟩:=I.list j;obtain⟨u,hu,R⟩:=m.get q;obtain⟨D,f1,f2,C,A,f5⟩:=l f (by simp);refine n ?_;refine wpAny_pyNext_list_item st p.isList (x:=u) (by simpa using hu) λG L sb=>?_;obtain⟨o,e,c,d⟩:=id L;exact⟨u,rfl,uM e c d (by decide) ⟨x,H,(I.turned (t':=s.toks) (λb o hb e=>(sb.2 b hb).trans e) D f1 C A f5),R,⟨rfl,λys Z=>by rw[I.Nh Z j];exact q⟩,L,λb hb=>(l b hb).1⟩⟩
 done:=by
  intro X r hw y F i g s O H E I l st hg;refine L2.ai λP_ n=>?_;subst r hw y;obtain⟨N,j,q⟩:=hg;obtain⟨S,m,p,U⟩:=I.list j;obtain⟨D,f1,f2,C,A,f5⟩:=l f (by simp);refine n ?_;have hl:=m.length;exact wpAny_pyNext_list_end (I.ok.hd F) st p.isList (by simp;lia) λG eb=>⟨rfl,I.turned (λb o hb e=>eb b o hb e) D f1 C A f5⟩
 self:=λ_ _ _ _ _ st h=>wpAny_pyIter_listiter st h
def vB{K:X2}(a f:On):Turn P w K Q (Itt K a) [f] f (λi h=>h.IsTupleIter f a i) where
 mem:=by simp
 obj:=λi h st b hb=>by
  have e:b=f:=by simpa using hb
  subst e;obtain⟨o,e,c,d⟩:=st;exact⟨o,e,λv z=>by rw[d]at z;cases z⟩
 keep:=λi h G st k=>st.at λo e=>k f (by simp) o e
 item:=by
  intro X r hw y F i g s O H E I l st hg;refine L2.ai λP_ n=>?_;subst r hw y;obtain⟨N,x,j,q⟩:=hg;obtain⟨S,m,p,U⟩:=I.tuple j;obtain⟨u,hu,R⟩:=m.get q;obtain⟨D,f1,f2,C,A,f5⟩:=l f (by simp);refine n ?_;refine wpAny_pyNext_tuple_item st (p) (x:=u) (by simpa using hu) λG L sb=>?_;obtain⟨o,e,c,d⟩:=id L;exact⟨u,rfl,uM e c d (by decide) ⟨x,H,(I.turned (t':=s.toks) (λb o hb e=>(sb.2 b hb).trans e) D f1 C A f5),R,⟨rfl,λys Z=>by rw[I.N8 Z j];exact q⟩,L,λb hb=>(l b hb).1⟩⟩
 done:=by
  intro X r hw y F i g s O H E I l st hg;refine L2.ai λP_ n=>?_;subst r hw y;obtain⟨N,j,q⟩:=hg;obtain⟨S,m,p,U⟩:=I.tuple j;obtain⟨D,f1,f2,C,A,f5⟩:=l f (by simp);refine n ?_;have hl:=m.length;exact wpAny_pyNext_tuple_end (I.ok.hd F) st (p) (by simp;lia) λG eb=>⟨rfl,I.turned (λb o hb e=>eb b o hb e) D f1 C A f5⟩
 self:=λ_ _ _ _ _ st h=>wpAny_pyIter_tupleiter st h
def vz{K:X2}(a:On)(f:Int)(n:Nat):Turn P w K y (Itr f n) [a] a (λi h=>IsRangeIter h a (f+(i:Nat)*1) ((n:Int)-(i:Nat)) 1) where
 mem:=by simp
 obj:=λi h st b hb=>by
  have e:b=a:=by simpa using hb
  subst e;exact⟨_,st,λv z=>by
   cases z⟩
 keep:=λi h u st k=>k a (by simp) _ st
 item:=by
  intro X l hw m j i d s O H E I g st hg;subst l hw m;obtain⟨r,f1,f2,q,p,f5⟩:=g a (by simp);refine(Walks.range (prog:=X.prog) (w:=X.w) (I.ok.hd j) a f 1 n).item i s _ _ hg st λv u F C x A=>?_;obtain⟨t,rfl⟩:=C;refine⟨_,rfl,uM x L L (by decide) ⟨.int (f+i),H,(I.turned (λb o hb e=>A b o (by simpa using hb) e) r f1 q p f5),⟨t,?_⟩,⟨rfl,rfl⟩,x,λb hb=>(g b hb).1⟩⟩;rw[Int.mul_one]
 done:=by
  intro X l hw m j i d s O H E I g st hg;subst l hw m;obtain⟨r,f1,f2,q,p,f5⟩:=g a (by simp);exact wpAny_pyNext_range_end (I.ok.hd j) st (by have:n<=i:=hg;lia) λu D=>⟨rfl,I.turned (λb o hb e=>D b o hb e) r f1 q p f5⟩
 self:=λ_ _ _ _ _ st h=>wpAny_pyIter_rangeiter st h
section
def zG{a f:Int}(I:Inv X d O H s)(m:-(2 ^ 62)<=a)(l:a<2 ^ 62)(j:-(2 ^ 62)<=f)(i:f<2 ^ 62)(q:R (Itr a (f-a).toNat) H):Pi (KF X.prog X.w) X.A (pyIter (.ref s.heap.objs.size)) (PIE X d O tg R) E { s with heap:=s.heap.push { cls:=.type "range",data:=.fields #[.int a t,.int f u,.int 1 v] },toks:=g }:=by
 refine wpAny_pyIter_range (IsRange.new ..) (small_one m l j i) ?_;have h:Inv X d O H { s with heap:=s.heap.push { cls:=.type "range",data:=.fields #[.int a t,.int f u,.int 1 v] },toks:=g }:=I.kept λb o e=>Zj _ e;refine⟨(s.heap.push { cls:=.type "range",data:=.fields #[.int a t,.int f u,.int 1 v] }).objs.size,[(s.heap.push { cls:=.type "range",data:=.fields #[.int a t,.int f u,.int 1 v] }).objs.size],_,_,H,rfl,
  h.kept (t':=g) λb o e=>Zj _ e,vz _ a (f-a).toNat,?_,λb hb=>?_,q⟩
 ·have e1:a+((0:Nat):Int)*1=a:=by simp
  have e2:(((f-a).toNat:Nat):Int)-((0:Nat):Int)=Builtin.Range.rangeSize a f 1:=by rw[rangeSize_one];split<;>lia
  rw[e1,e2];exact ZK _ L
 ·have e:b=(s.heap.push { cls:=.type "range",data:=.fields #[.int a t,.int f u,.int 1 v] }).objs.size:=by simpa using hb
  subst e;exact h.OY (Zn _) (h.Kd.fresh (Zn _))
def E1(ta:TA):TI:=λO H R=>ta O H λa b=>∃j:Int,a=[.int j]/\-(2 ^ 62)<=j/\j<2 ^ 62/\R (Itr 0 j.toNat) b
def pT(o:Gl X "range")(n:X.mg "range" = J)(u:PA X [a] g)(m:{`q3,P3 [a] X.env=[(B,eval a X.env)]}):PI X tg (.Call (.Name "range" p) [a] [] b) (E1 g):=by
 intro d s O H R I h;refine Call_ (oh I o n boot_range (WM (thn (u b d s O H _ I h) λy s1 v=>?_) m L));obtain⟨x,z,w,r1,f⟩:=v;obtain⟨j,e,f,l,q⟩:=f;subst e;cases r1 with
 |cons r i =>
  cases i;obtain⟨t,rfl⟩:=r;exact call_range_1 (zG w (by lia) (by lia) f l (by simpa using q))
def IM(e:TI)(g:TG)(f:TS):TS:=λD O H=>e O H λJ l=>∃W:Nat->Nat->St->Hp->Prop,(∃m,W 0 m O l)/\∀i m O H,W i m O H →
 (J.stop i H/\D.nx O H)\/(J.go i H/\∃N:St->Hp->Prop,(∀d a,N d a->∃b,b<m/\W (i+1) b d a)/\∀x a,J.UK i H x a->g x O a λh j=>f { D with nx:=N,ct:=N,bk:=D.nx } h j)
noncomputable def pB(a:W9)(h:XAA):Km:=a.filterMap λb=>(h.get? b).map λo=>(b,o)
def iE{h:XAA}(d:b∈a)(e:h.get? b=Y o):(b,o)∈pB a h:=Wt.mpr ⟨b,d,by rw[e];rfl⟩
def yX(d:p∈pB a h):p.1∈a/\h.get? p.1=Y p.2:=by
 obtain⟨b,hb,e⟩:=Wt.mp d;cases q:h.get? b with
 |none=>rw[q]at e;cases e
 |some o =>
  rw[q]at e;have f:=Zl e;subst f;exact⟨hb,q⟩
def Inv.pinned(I:Inv X a O H s)(j:∀b∈f,pM X a H b)(i:∀b∈f,∃o,s.heap.get? b=Y o/\∀v,o.data ≠ .cell v):Inv X (a++pB f s.heap) O H s :=
 I.NT λp h=>(Zc.mp h).elim (λz=>I.pin p (ZI _ z)) λz=>by
  obtain⟨hb,e⟩:=yX z;obtain⟨l,f1,f2,_⟩:=j p.1 hb;obtain⟨o,g,d⟩:=i p.1 hb;rw[e]at g;cases g;exact⟨e,l,f1,f2,d⟩
def Inv.LH(I:Inv X (a++b) O H s):Inv X a O H s:=I.NT λp d=>I.pin p (ZI _ (Yl _ d))
def Fq{X:Cx}(P:PassesOwn (KF X.prog X.w) X.A X.env X.xe)(hc:X.calm=M)(hi:PI X tg j wi)(hg:PG X tg g)(l:Mr X E tb)(hs:{`q2,∀x,XAD j X.env x=pure x}):PS X (.For tg j E [] Z) (IM wi g tb):=by
 intro a s O H D I h;refine wpAny_For (thn (hi a s O H _ I h) λv s1 h1=>thn h1 λitv s2 h2=>?_) hs;refine L2.ai λP_ k_=>?_;obtain⟨it,fp,tn,J,H2,e,I2,T,LV,f2,W,⟨m0,w0⟩,turn⟩:=h2;subst e;refine k_ ?_;have Ny:∀{z:Hp},(∀b∈fp,z b=none)->∀b∈fp,pM X a z b:=λhn b l=>⟨hn b l,(f2 b l).2⟩
 refine codeAny_forLoop_any (λn s'=>∃i R z,Inv X a R z s'/\tn i s'.heap/\(∀b∈fp,z b=none)/\W i n R z) ?_ m0 ⟨0,O,H2,I2,LV,λb l=>(f2 b l).1,w0⟩;rintro n s3 ⟨i,Q,S,I3,NA,T8,w3⟩;rcases turn i n Q S w3 with⟨stop,qn⟩ | ⟨go,N,hN,step⟩
 ·refine XC P (thn (T.done X L L L hc i a s3 Q S X.xe I3 (Ny T8) NA stop) λr s4 F=>?_);obtain⟨hr,I4⟩:=F;subst hr;exact VU ⟨Q,S,I4,qn⟩
 ·refine XC P (thn (T.item X L L L hc i a s3 Q S X.xe I3 (Ny T8) NA go) λr s4 F=>?_);obtain⟨u,hr,h4⟩:=F;subst hr;refine XC P (thn h4 λ_ s5 F=>?_);obtain⟨x,H5,I5,r5,y5,Rn,fr5⟩:=F;refine XC P (thn (hg _ s5 Q H5 x u _ (I5.pinned (Ny fr5) (T.obj _ _ Rn)) r5 (step x H5 y5)) λ_ s6 F=>?_);obtain⟨O6,H6,I6,q6⟩:=F;refine XC P (thn (l _ s6 O6 H6 _ I6 q6) λf U C=>?_);have again:∀{p:St}{y:Hp},Inv X (a++pB fp s5.heap) p y U->N p y->∃m,m<n/\∃i R z,Inv X a R z U/\tn i U.heap/\(∀b∈fp,z b=none)/\W i m R z:=λ{p y} q G=>by
   obtain⟨m',hm,w7⟩:=hN p y G;refine⟨m',hm,i+1,p,y,q.LH,T.keep _ _ _ Rn λb l o e=>(q.pin (b,o) (ZI _ (ZI _ (iE l e)))).1,λb l=>?_,w7⟩;obtain⟨o,e,d⟩:=T.obj _ _ Rn b l;exact(q.pin (b,o) (ZI _ (ZI _ (iE l e)))).2.1
  cases f with
  |next=>obtain⟨p,y,q,G⟩:=C;exact again q G
  |cont=>obtain⟨p,y,q,G⟩:=C;exact again q G
  |brk=>obtain⟨p,y,q,C⟩:=C;exact⟨p,y,q.LH,C⟩
  |ret v=>obtain⟨x7,p,y,q,r7,C⟩:=C;exact⟨x7,p,y,q.LH,r7,C⟩
end
abbrev R2:=V->V->Hp->VK->Prop
def OpR(X:Cx)(f:PP->PP->Sem PP)(r:R2):Prop :=
 ∀(a:Km)(s:KB)(O:St)(H:Hp)(x y:V)(v u:PP)(Q:VK),Inv X a O H s->RelV x v->RelV y u->r x y H Q →
  Pi (KF X.prog X.w) X.A (f v u) (EP X a O Q) X.xe s
def UnR(X:Cx)(f:PP->Sem PP)(r:V->Hp->VK->Prop):Prop :=
 ∀(a:Km)(s:KB)(O:St)(H:Hp)(x:V)(v:PP)(Q:VK),Inv X a O H s->RelV x v->r x H Q →
  Pi (KF X.prog X.w) X.A (f v) (EP X a O Q) X.xe s
def dw(X:Cx)(f:PP)(r:List V->Hp->VK->Prop):Prop :=
 ∀(a:Km)(s:KB)(O:St)(H:Hp)(b:List V)(d:Vz)(Q:VK),Inv X a O H s->aP b d->r b H Q →
  Pi (KF X.prog X.w) X.A (call f d) (EP X a O Q) X.xe s
def J1(X:Cx)(r:V->Hp->(Bool->Hp->Prop)->Prop):Prop :=
 ∀(a:Km)(s:KB)(O:St)(H:Hp)(x:V)(v:PP)(Q:Bool->Hp->Prop),Inv X a O H s->RelV x v->r x H Q →
  Pi (KF X.prog X.w) X.A (truthy v) (TP X a O Q) X.xe s
noncomputable def Sl(r:R2)(ta a:TE):TE:=λO H Q=>ta O H λx d=>a O d λy b=>r x y b Q
noncomputable def tUn(r:V->Hp->VK->Prop)(ta:TE):TE:=λO H Q=>ta O H λx a=>r x a Q
noncomputable def rI(C:Int->Int->Prop)(g:Int->Int->V):R2:=λx y H Q=>∃i j,x=.int i/\y=.int j/\C i j/\Q (g i j) H
noncomputable def NS(g:Int->Int->V):R2:=λx y H Q=>∃i j,x=.int i/\y=.int j/\Q (g i j) H
noncomputable def rU(g:Int->V):V->Hp->VK->Prop:=λx H Q=>∃i,x=.int i/\Q (g i) H
section
def Fz{X:Cx}{a b:Expr}{ta tb:TE}(r:PE X a ta)(q:PE X b tb){d:Km}{s:KB}{O:St}{H:Hp}{R:V->V->Hp->Prop}(I:Inv X d O H s)(h:ta O H λx j=>tb O j λy e=>R x y e){Q:Ki}{f:PP->PP->Sem PP}(p:∀v u g x y e,Inv X d O e g->RelV x v->RelV y u->R x y e->Pi (KF X.prog X.w) X.A (f v u) Q X.xe g) :
  Pi (KF X.prog X.w) X.A (eval a X.env) (λv m=>Pi (KF X.prog X.w) X.A (eval b X.env) (λu l=>Pi (KF X.prog X.w) X.A (f v u) Q X.xe l) X.xe m) X.xe s:=by
 refine thn (r d s O H _ I h) λv s1 i=>?_;obtain⟨x,j,C,r1,o⟩:=i;refine thn (q d s1 O j _ C o) λu g i=>?_;obtain⟨y,e,z,r2,n⟩:=i;exact p v u g x y e z r1 r2 n
def EN(j:OpR X (binaryOp e) r)(m:PE X a ta)(l:PE X b tb):PE X (.BinOp a e b pos) (Sl r ta tb):=by
 intro d s O H Q I h;exact wpAny_BinOp (Fz m l I h λv u f x y o n i g q=>j d f O o x y v u Q n i g q)
def HU(g:UnR X (unaryOp e) r)(i:PE X a ta):PE X (.UnaryOp e a pos) (tUn r ta):=by
 intro d s O H Q I h;refine UnaryOp_ (thn (i d s O H _ I h) λv s1 j=>?_);obtain⟨x,m,l,r1,f⟩:=j;exact g d s1 O m x v Q l r1 f
def opI{X:Cx}{f:PP->PP->Sem PP}{C:Int->Int->Prop}{g:Int->Int->Int}(d:∀(i j:Int)(t u:Tok)(s:KB)(Q:Ki)(E:Ki),C i j->Q (.int (g i j) s.toks) { s with toks:=s.toks+1 }->Pi (KF X.prog X.w) X.A (f (.int i t) (.int j u)) Q E s) :
  OpR X f (rI C λi j=>.int (g i j)):=by
 intro e s O H x y v u Q I n m h;obtain⟨i,j,rfl,rfl,o,q⟩:=h;obtain⟨t,rfl⟩:=n;obtain⟨l,rfl⟩:=m;exact d i j t l s _ _ o ⟨.int (g i j),H,I.tok _,⟨_,rfl⟩,q⟩
def JD{X:Cx}{f:PP->PP->Sem PP}{g:Int->Int->Int}(d:∀(i j:Int)(t u:Tok)(s:KB)(Q:Ki)(E:Ki),Q (.int (g i j) s.toks) { s with toks:=s.toks+1 }->Pi (KF X.prog X.w) X.A (f (.int i t) (.int j u)) Q E s) :
  OpR X f (NS λi j=>.int (g i j)):=by
 intro e s O H x y v u Q I n m h;obtain⟨i,j,rfl,rfl,q⟩:=h;obtain⟨t,rfl⟩:=n;obtain⟨l,rfl⟩:=m;exact d i j t l s _ _ ⟨.int (g i j),H,I.tok _,⟨_,rfl⟩,q⟩
def Cm{X:Cx}{f:PP->PP->Sem PP}{g:Int->Int->Bool}(d:∀(i j:Int)(t u:Tok)(s:KB)(Q:Ki)(E:Ki),Q (.bool (g i j)) s->Pi (KF X.prog X.w) X.A (f (.int i t) (.int j u)) Q E s) :
  OpR X f (NS λi j=>.bl (g i j)):=by
 intro e s O H x y v u Q I n m h;obtain⟨i,j,rfl,rfl,q⟩:=h;obtain⟨t,rfl⟩:=n;obtain⟨l,rfl⟩:=m;exact d i j t l s _ _ ⟨.bl (g i j),H,I,rfl,q⟩
noncomputable def Il(i j:Int):Prop:=0<j/\j<1073741824
noncomputable def Ej(i j:Int):Prop:=(-(2 ^ 64)<i/\i<2 ^ 64)\/(-(2 ^ 64)<j/\j<2 ^ 64)
def Ej.ok{i j:Int}(h:Ej i j):IntMulOk i j:=by
 rcases h with⟨e,d⟩ | ⟨e,d⟩
 ·exact .of_left (intBits_le_64 e d)
 ·exact .of_right (intBits_le_64 e d)
def HB:OpR X (binaryOp .Add) (NS λi j=>.int (i+j)):=JD λ_ _ _ _ _ _ _ q=>add_int q
def Be:OpR X (binaryOp .Sub) (NS λi j=>.int (i-j)):=JD λ_ _ _ _ _ _ _ q=>sub_int q
def Hr:OpR X (binaryOp .Mult) (rI Ej λi j=>.int (i*j)):=opI λ_ _ _ _ _ _ _ d q=>mul_int q d.ok
def ny:OpR X (binaryOp .FloorDiv) (rI Il λi j=>.int (i/j)):=opI λi j _ _ _ _ _ d q=>by
 have f:=d.1;have e:=d.2;exact floordiv_int (by lia) (by rw[Int.fdiv_eq_ediv_of_nonneg i (by lia)];exact q) (.inl (PyProof.noPylong_small (by omega)))
def FC:OpR X (binaryOp .Mod) (rI (λ_ j=>0<j) λi j=>.int (i%j)):=opI λi j _ _ _ _ _ d q=>by
 exact mod_int' (by lia) (by rw[Int.fmod_eq_emod_of_nonneg i (by lia)];exact q)
def unI{X:Cx}{f:PP->Sem PP}{g:Int->Int}(d:∀(i:Int)(t:Tok)(s:KB)(Q:Ki)(E:Ki),Q (.int (g i) s.toks) { s with toks:=s.toks+1 }->Pi (KF X.prog X.w) X.A (f (.int i t)) Q E s) :
  UnR X f (rU λi=>.int (g i)):=by
 intro e s O H x v Q I j h;obtain⟨i,rfl,q⟩:=h;obtain⟨t,rfl⟩:=j;exact d i t s _ _ ⟨.int (g i),H,I.tok _,⟨_,rfl⟩,q⟩
def FQ:UnR X (unaryOp .USub) (rU λi=>.int (-i)):=unI λ_ _ _ _ _ q=>neg_int q
end
section
def GN(I:Inv X d O H s)(q:Q (.bl k) H)(e:k=f):EP X d O Q (.bool f) s:=by
 subst e;exact⟨.bl k,H,I,rfl,q⟩
def Ig:OpR X (UV .Lt) (NS λi j=>.bl (decide (i<j))):=Cm λ_ _ _ _ _ _ _ q=>lt_int q
def HV:OpR X (UV .LtE) (NS λi j=>.bl (decide (i<=j))):=Cm λ_ _ _ _ _ _ _ q=>le_int q
def Js:OpR X (UV .Gt) (NS λi j=>.bl (decide (j<i))):=Cm λ_ _ _ _ _ _ _ q=>gt_int q
def Im:OpR X (UV .GtE) (NS λi j=>.bl (decide (j<=i))):=Cm λ_ _ _ _ _ _ _ q=>ge_int q
def yE:OpR X (UV .Lt) (λx y H Q=>∃i j,x=.str i/\y=.str j/\Q (.bl (decide (i.cps.toList<j.cps.toList))) H):=by
 intro d s O H x y v u Q I f e h;obtain⟨i,j,rfl,rfl,q⟩:=h;obtain⟨t,rfl⟩:=f;obtain⟨g,rfl⟩:=e;exact lt_str (GN I q L)
def OpR.or(h:OpR X f r)(j:OpR X f i):OpR X f (λx y H Q=>r x y H Q\/i x y H Q):=by
 intro d s O H x y v u Q I g e q;rcases q with q | q
 ·exact h d s O H x y v u Q I g e q
 ·exact j d s O H x y v u Q I g e q
def jm(b:Expr)(h:{`q1,d ≠ .In})(e:{`q1,d ≠ .NotIn}):behindInMarks d b=B:=by
 have e1:(d==CmpOp.In)=B:=by cases d<;>first | rfl | exact absurd L h
 have e2:(d==CmpOp.NotIn)=B:=by cases d<;>first | rfl | exact absurd L e
 cases b<;>simp[behindInMarks,e1,e2]
def Em(j:OpR X (UV e) r)(n:PE X a ta)(m:PE X b tb)(l:behindInMarks e b=B):PE X (.Compare a [e] [b] pos) (Sl r ta tb):=by
 intro d s O H Q I h;exact wpAny_Compare1 (Fz n m I h λv u f x y p o i g q=>j d f O p x y v u Q o i g q) l
noncomputable def BO(t:TE):TT:=λO H Q=>t O H λx d=>∃k,x=.bl k/\Q k d
def xZ(n:OpR X (UV f) r)(q:PE X a ta)(p:PE X b tb)(o:behindInMarks f b=B):PT X (.Compare a [f] [b] pos) (BO (Sl r ta tb)):=by
 intro d s O H Q I h;refine wpAny_isTrue_Compare1 (thn (q d s O H _ I h) λv s1 ⟨x,G,D,r1,m⟩=>thn (p d s1 O G _ D m) λu g ⟨y,F,C,r2,l⟩ =>
  thn (n d g O F x y v u _ C r1 r2 l) λc L w=>?_) o
 obtain⟨z,E,A,i,k,e,j⟩:=w;subst e;cases i;exact Y0 ⟨E,A,j⟩
noncomputable def Ca(r h:R2)(ta g f:TE):TE:=λO H Q=>ta O H λx l=>g O l λy j=>r x y j λz d=>∃k,z=.bl k ∧
 (if k=M then f O d λe i=>h y e i Q else Q (.bl B) d)
def ux(R:OpR X (UV i) r)(NI:OpR X (UV g) j)(ha:PE X a ta)(Z:PE X b tb)(U:PE X c tc)(S:{`q4,lastMarks [i,g] [b,c]=B}):PT X (.Compare a [i,g] [b,c] pos) (BO (Ca r j ta tb tc)):=by
 intro f s O H Q I h;refine isTrue_chain (thn (ha f s O H _ I h) λv s1 ⟨x,H1,I1,r1,N⟩=>test_link (thn (Z f s1 O H1 _ I1 N) λu A ⟨y,H2,I2,r2,L⟩ =>
  thn (R f A O H2 x y v u _ I2 r1 r2 L) λd w h_=>?_)) S
 obtain⟨z,n,m,E,k,e,l⟩:=h_;subst e;cases E;refine Y0 ?_;cases k with
 |false =>
  obtain⟨k',e',P⟩:=l;cases e';exact ite_ff ⟨n,m,P⟩
 |true =>
  refine ite_tt (test_last (thn (U f w O n _ m l) λp q ⟨o,H4,I4,D,G⟩=>thn (NI f q O H4 y o u p _ I4 r2 D G) λd' s5 ⟨z2,H5,I5,C,k2,e2,F⟩=>?_));subst e2;cases C;exact Y0 ⟨H5,I5,F⟩
def FX(K:X2)(x:V)(H:Hp)(k:Bool):Prop :=
 match x with
 |.non=>k=B
 |.bl b=>k=b
 |.int i=>k=(i != 0)
 |.str y=>y.length<=KM/\k=((y.length:Int) != 0)
 |.byt y=>y.size<=KM/\k=((y.size:Int) != 0)
 |.ref p=>(∃d,Kt K H p d/\k=!d.isEmpty)\/(∃d,LF K H p d/\k=!d.isEmpty)\/∃e,H p=Y (.dK e)/\k=!e.isEmpty
 |_=>False
def vA{κ:Type}{e:List (κ×V)}{d:List (κ×PP)}(r:KV e d):(!d.isEmpty)=!e.isEmpty:=by
 cases r<;>rfl
def oy(r:aP d e):(!e.toArray.isEmpty)=!d.isEmpty:=by
 cases r<;>simp
def qQ:(KM:Nat)<2 ^ 63:=by rw[Xb];decide
def G4:J1 X (λx H Q=>∃k,FX X.K x H k/\Q k H):=by
 intro n s O H x v Q I f h;obtain⟨k,e,q⟩:=h;have E:=Xb;cases x with
 |non =>
  cases f;subst e;exact truthy_none ⟨H,I,q⟩
 |bl b =>
  cases f;subst e;exact Y0 ⟨H,I,q⟩
 |int i =>
  obtain⟨t,rfl⟩:=f;subst e;exact PySem.P.truthy_int ⟨H,I,q⟩
 |str y =>
  obtain⟨t,rfl⟩:=f;obtain⟨C,d⟩:y.length<=KM/\k=((y.length:Int) != 0):=e;subst d;exact PySem.P.truthy_str (by lia) ⟨H,I.tok _,q⟩
 |byt y =>
  obtain⟨t,rfl⟩:=f;obtain⟨C,d⟩:y.size<=KM/\k=((y.size:Int) != 0):=e;subst d;exact PySem.W.truthy_bytes (by lia) ⟨H,I.tok _,q⟩
 |ref p =>
  cases f;have d:=e;rcases d with⟨z,g,d⟩ | ⟨z,g,d⟩ | ⟨u,g,d⟩
  ·subst d;obtain⟨A,r,l,o⟩:=I.list g;have hlen:=r.length;exact wpAny_truthy_list l.isList (by simp only[ZE];lia) ⟨H,I.tok _,by rw[oy r];exact q⟩
  ·subst d;obtain⟨A,r,l,o⟩:=I.tuple g;have hlen:=r.length;exact truthy_tuple l (by simp only[ZE];lia) ⟨H,I.tok _,by rw[oy r];exact q⟩
  ·subst d;obtain⟨o,D,j,r,m⟩:u.length<=KM/\(p==sysModules)=B/\∃j,KV u j/\s.heap.DictOf (aS X.prog X.w) p j:=I.Kd p _ g;have hlen:=Wp r;exact wpAny_truthy_dict D m (by lia) ⟨H,I.tok _,by rw[vA r];exact q⟩
 |_=>exact(e).elim
def Ad(g:PE X a ta)(he:∀whole,isTrue a X.env whole=(do let v ← whole;standAt a.pos;holding [v] (truthy v))) :
  PT X a (λO H Q=>ta O H λx e=>∃k,FX X.K x e k/\Q k e):=by
 intro d s O H Q I h;exact isTrue_plain (thn (g d s O H _ I h) λv s1 ⟨x,j,i,r1,f⟩=>G4 d s1 O j x v Q i r1 f) (he _)
def vm:OpR X (binaryOp .Add) (λx y H Q=>∃i j,x=.str i/\y=.str j/\i.length+j.length<=KM/\Q (.str (i++j)) H):=by
 intro d s O H x y v u Q I g f h;obtain⟨i,j,rfl,rfl,l,q⟩:=h;obtain⟨t,rfl⟩:=g;obtain⟨e,rfl⟩:=f;exact add_str (λe m=>⟨.str (i++j),H,I.tok _,⟨_,rfl⟩,q⟩) l
def vals1(r:aP [x] d):∃u,d=[u]/\RelV x u:=by
 cases r with
 |cons r1 r2=>cases r2;exact⟨_,rfl,r1⟩
def vals2(r:aP [x,y] e):∃u d,e=[u,d]/\RelV x u/\RelV y d:=by
 cases r with
 |cons r1 r2 =>
  cases r2 with
  |cons g f=>cases f;exact⟨_,_,rfl,r1,g⟩
def JA(K:X2)(x:V)(H:Hp)(n:Nat):Prop :=
 match x with
 |.str y=>y.length<=KM/\n=y.length
 |.byt y=>y.size<=KM/\n=y.size
 |.ref p=>(∃d,Kt K H p d/\n=d.length)\/∃d,LF K H p d/\n=d.length
 |_=>False
def AR:dw X (.builtin "len") (λf H Q=>∃x n,f=[x]/\JA X.K x H n/\Q (.int n) H):=by
 intro m s O H f z Q I r h;obtain⟨x,n,rfl,e,q⟩:=h;obtain⟨u,rfl,g⟩:=vals1 r;have A:=Xb;cases x with
 |str y =>
  obtain⟨t,rfl⟩:=g;obtain⟨w,d⟩:y.length<=KM/\n=y.length:=e;subst d;exact len_str (by lia) ⟨.int _,H,I.tok _,⟨_,rfl⟩,q⟩
 |byt y =>
  obtain⟨t,rfl⟩:=g;obtain⟨w,d⟩:y.size<=KM/\n=y.size:=e;subst d;exact PySem.W.len_bytes (by lia) ⟨.int _,H,I.tok _,⟨_,rfl⟩,q⟩
 |ref p =>
  cases g;have d:=e;rcases d with⟨f,l,d⟩ | ⟨f,l,d⟩
  ·subst d;obtain⟨o,i,j,v⟩:=I.list l;have hlen:=i.length;exact Calls.call_len_list j.isList (by simp only[ZE];lia) ⟨.int f.length,H,I.tok _,⟨_,by simp only[ZE];rw[hlen]⟩,q⟩
  ·subst d;obtain⟨o,i,j,v⟩:=I.tuple l;have hlen:=i.length;exact len_tuple j (by simp only[ZE];lia) ⟨.int f.length,H,I.tok _,⟨_,by simp only[ZE];rw[hlen]⟩,q⟩
 |_=>exact(e).elim
end
structure NO(h:XAA)(x dx C:On)(mA:Wv):Prop where
 obj:h.get? x=some (PySem.W.instObj C dx)
 ns:h.Ns1 dx mA
 ne:dx≠x
def yr{h:XAA}(n:h.Ns1 g f):∃d,h.get? g=Y d/\∀name,PySem.W.lookIn name d=Y (f name):=by
 obtain⟨o,p,r,j,hd,m,_,l⟩:=n;refine⟨o,j,λname=>?_⟩;have e:=l name;unfold nsFind findBy at e;rw[← Array.find?_toList]at e;unfold PySem.W.lookIn;rw[hd];dsimp only;split
 ·rename_i y q;rw[q]at e;exact congrArg Y e
 ·rename_i q;rw[q]at e;have a:p.toList.any (·.refKey)=B:=by
   rw[List.any_eq_false];intro y i;obtain⟨z,t,b⟩:=m y (Array.mem_toList_iff.mp i);simp[DictEntry.refKey,b]
  rw[Zo (by rw[a];exact Zh)];exact congrArg Y e
def NO.look(I:NO h x d C b):∃a,PySem.W.InstAt h x (PySem.W.instObj C d) C (Y a)/\∀name,PySem.W.lookIn name a=Y (b name) :=
 let ⟨a,e,f⟩:=yr I.ns
 ⟨a,⟨I.obj,rfl,rfl,e⟩,f⟩
section
variable{K:X2}
def get_map{s:KB}(X:K.In s.heap)(I:NO s.heap x dx C mA)(i:PySem.W.plainGet K C name=M)(g:PySem.W.hasDictIn K C=M)(j:PySem.W.findIn K (.ref C) name=Y none)(d:mA name=Y v)(b:PySem.W.handedIn v=M)(h:Q v { s with toks:=s.toks+1 }) :
  Pi (KF prog w) A (getAttr (.ref x) name a) Q E s:=by
 obtain⟨l,J,e⟩:=I.look;exact PySem.W.get_value X J (VZ i).1 (PySem.W.findObj_own g j L (by rw[e,d])) b h
def B3{s:KB}(X:K.In s.heap)(I:NO s.heap x dx C mA)(a:PySem.W.plainGet K C name=M)(j:PySem.W.findIn K (.ref C) name=Y (Y (.ref f)))(g:PySem.W.isFn K (.ref f)=M)(e:mA name=none)(h:Q (.ref f,[.ref x]) s) :
  Pi (KF prog w) A (getMethod (.ref x) name b) Q E s:=by
 obtain⟨d,J,i⟩:=I.look;exact PySem.W.method_fn X J (VZ a).1 (VZ a).2 j (beq_iff_eq.mp g) (by show (PySem.W.lookIn name d).map (·.isSome)=Y B;rw[i,e];rfl) h
def CY{s:KB}(X:K.In s.heap)(I:NO s.heap x dx C mA)(p:PySem.W.findIn K (.ref C) "__setattr__" = Y (Y (.builtin "object.__setattr__")))(q:PySem.W.plainOver K C=M)(o:PySem.W.takerIn K C name=Y none)(r:PySem.W.hasDictIn K C=M)(hw:PySem.Within mA j)(d:j.length<=KM)(h:∀a,NO a x dx C (λy=>if y=name then Y v else mA y)->Heap.SameBut dx s.heap a->Q () { s with heap:=a,toks:=s.toks+2 }) :
  Pi (KF prog w) A (setAttr (.ref x) name v) Q E s:=by
 obtain⟨G,J,L⟩:=I.look;refine PySem.W.set_plain X J p (PySem.W.osa_open X J q o λb=>?_);obtain⟨cd,u,F⟩:=PySem.W.any_some r;refine Zr (Zk (Zr (Zr (wpAny_loadPart I.obj (Zr (PySem.W.Looks.here (PySem.W.looks_clsIn X u) ?_))))));rw[F];refine Zk (Zr (Zk (Zr ?_)));refine wpAny_nsSet1 I.ns λa l m=>?_;refine L2.ai λN n=>?_;obtain⟨H,z,D,e,g,i⟩:=l.count (PySem.Within.cons name v hw);refine n ?_;refine Zr (wpAny_lookBehind e (by rw[g];exact pastItsLine_dict (ZR i (by rw[Zf];exact X3 d))) ?_);exact Zk (h _ ⟨(m.2 _ (Y4 I.ne)).trans I.obj,l,I.ne⟩ m)
def B7{A:SC}{s:KB}(X:K.In s.heap)(e:PySem.W.makesIn K C=M)(i:PySem.W.findIn K (.ref C) "__init__" = Y (Y (.ref f)))(j:PySem.W.typeIn K (.ref f)=Y (.type "function"))(h:codeAny (KF prog w) (A.under (.builtin "type.__call__" ⟨.ref C :: a,b⟩)) (.call (.ref f) ⟨.ref (s.heap.objs.size+1) :: a,b⟩) (PySem.W.InitBack (s.heap.objs.size+1) R)
   { s with heap:=(s.heap.push PySem.W.emptyDict).push (PySem.W.instObj C s.heap.objs.size) }) :
  codeAny (KF prog w) A (.call (.ref C) ⟨a,b⟩) R s:=by
 obtain⟨l,g,d,t,os⟩:=s;exact PySem.W.make_core (PySem.W.makes_of X e) (PySem.W.looks_findIn X i) (λself=>PySem.W.bind_fn X self j) (.inl L) h
end
noncomputable def jb(f:Str)(v:V):List (Str×V)->List (Str×V)
 |[]=>[(f,v)]
 | (g,x) :: r=>if g=f then (g,v) :: r else (g,x) :: jb f v r
theorem mK(f g:Str)(v:V):∀fs:List (Str×V),(jb f v fs).lookup g=if g=f then Y v else fs.lookup g
 |[]=>by
  show List.lookup g [(f,v)]=_;by_cases h:g=f
  ·simp only[List.lookup,(beq_iff_eq.mpr h),Zp h]
  ·simp only[List.lookup,(beq_eq_false_iff_ne.mpr h),Zo h]
 | (k,x) :: r=>by
  rw[show jb f v ((k,x) :: r)=(if k=f then (k,v) :: r else (k,x) :: jb f v r) from rfl];by_cases a:k=f
  ·rw[Zp a];by_cases h:g=k
   ·simp only[List.lookup,(beq_iff_eq.mpr h),Zp (h.trans a)]
   ·simp only[List.lookup,(beq_eq_false_iff_ne.mpr h),Zo (λe:g=f=>h (e.trans a.symm))]
  ·rw[Zo a];by_cases h:g=k
   ·simp only[List.lookup,(beq_iff_eq.mpr h),Zo (λe:g=f=>a (h.symm.trans e))]
   ·simp only[List.lookup,(beq_eq_false_iff_ne.mpr h)];exact(mK f g v r)
theorem mf(f:Str)(v:V):∀fs:List (Str×V),f∈(jb f v fs).map (·.1)/\∀g,g∈fs.map (·.1)->g∈(jb f v fs).map (·.1)
 |[]=>⟨by simp[jb],λg h=>by simp at h⟩
 | (k,x) :: r=>by
  obtain⟨d,b⟩:=mf f v r;rw[show jb f v ((k,x) :: r)=(if k=f then (k,v) :: r else (k,x) :: jb f v r) from rfl];by_cases a:k=f
  ·rw[Zp a];subst a;exact⟨by simp,λg h=>by simpa using h⟩
  ·rw[Zo a];refine⟨?_,λg h=>?_⟩
   ·rw[Zm];exact Zx _ d
   ·rw[Zm]at h ⊢;rcases Zi.mp h with e | e
    ·exact Zi.mpr (.inl e)
    ·exact Zx _ (b g e)
theorem mG(f:Str)(v:V):∀fs:List (Str×V),(jb f v fs).length<=fs.length+1
 |[]=>by simp[jb]
 | (k,x) :: r=>by
  rw[show jb f v ((k,x) :: r)=(if k=f then (k,v) :: r else (k,x) :: jb f v r) from rfl];by_cases a:k=f
  ·rw[Zp a,Zf,Zf];exact Zd _ _
  ·rw[Zo a,Zf,Zf];exact X3 (mG f v r)
def iZ.some_of{v:V}(r:iZ (Y v) o):∃u,o=Y u/\RelV v u:=by
 cases o with
 |none=>exact(r).elim
 |some u=>exact⟨u,rfl,r⟩
def iZ.none_of(r:iZ J o):o=J:=by
 cases o with
 |none=>rfl
 |some u=>exact(r).elim
def ye(r:RelV v u):PySem.W.handedIn u=M:=by
 cases v with
 |non=>cases (r);rfl
 |bl b=>cases (r);rfl
 |int i=>obtain⟨t,e⟩:=(r);cases e;rfl
 |str x=>obtain⟨t,e⟩:=(r);cases e;rfl
 |byt b=>obtain⟨t,e⟩:=(r);cases e;rfl
 |flt b=>obtain⟨t,e⟩:=(r);cases e;rfl
 |ref a=>cases (r);rfl
 |ty n=>cases (r);rfl
section
variable{H:Hp}
def iM(i:LA P w H h)(e:H a=Y (.ins C dx fs)):∃b,NO h a dx C b/\(∀f,iZ (fs.lookup f) (b f))/\PySem.Within b (fs.map (·.1))/\fs.length<=1000/\H dx=Y (.own a):=by
 obtain⟨d,z,ne,g,b,n,r,q⟩:=(i a _ e)
 exact⟨b,⟨g,n,ne⟩,r,q,z,d⟩
end
structure LX(K:X2)(C:On):Prop where
 pg:PySem.W.plainGet K C Str.empty=true
 hd:PySem.W.hasDictIn K C=true
 po:PySem.W.plainOver K C=true
 sa:PySem.W.findIn K (.ref C) "__setattr__" = some (some (.builtin "object.__setattr__"))
def LX.get{K:X2}(c:LX K C)(f:Str):PySem.W.plainGet K C f=M:=c.pg
def aY(K:X2)(C:On)(f:Str):Prop:=PySem.W.findIn K (.ref C) f=Y J
def aY.SY{K:X2}(n:aY K C f):PySem.W.takerIn K C f=Y J:=by
 unfold PySem.W.takerIn;rw[n];rfl
structure Meth(K:X2)(C:On)(m:Str)(f:On):Prop where
 at_:PySem.W.findIn K (.ref C) m=some (some (.ref f))
 fn:PySem.W.isFn K (.ref f)=true
 kp:PySem.W.keepIn K (.ref f)=true
section
variable{H:Hp}
def vI(I:Inv X pins O H s)(e:H a=Y (.ins C dx fs))(c:LX X.K C)(n:aY X.K C f)(l:fs.lookup f=Y v)(h:∀u d,Inv X pins O H d->RelV v u->Q u d):Pi (KF X.prog X.w) A (getAttr (.ref a) f b) Q E s:=by
 obtain⟨m,j,r,_,_,_⟩:=iM I.Kd e;obtain⟨u,i,g⟩:=iZ.some_of (v:=v) (by rw[← l];exact r f);exact get_map I.LZ j (c.get f) c.hd n i (ye g) (h u _ (I.tok _) g)
def oi(I:Inv X pins O H s)(e:H a=Y (.ins C dx fs))(c:LX X.K C)(k:Meth X.K C m g)(l:fs.lookup m=J)(h:Q (.ref g,[.ref a]) s):Pi (KF X.prog X.w) A (getMethod (.ref a) m b) Q E s:=by
 obtain⟨i,d,r,_,_,_⟩:=iM I.Kd e;exact B3 I.LZ d (c.get m) k.at_ k.fn (iZ.none_of (by rw[← l];exact r m)) h
def vZ(I:Inv X pins O H s)(e:H a=Y (.ins C dx fs))(c:LX X.K C)(n:aY X.K C f)(G:fs.length<1000)(p:RelV y u)(h:∀l,Inv X pins O (upd H a (.ins C dx (jb f y fs))) l->Q () l):Pi (KF X.prog X.w) A (setAttr (.ref a) f u) Q E s:=by
 obtain⟨D,i,r,j,_,m⟩:=iM I.Kd e;refine CY I.LZ i c.sa c.po n.SY c.hd j (by rw[Zw,Xb];lia) λL d sb=>h _ ?_;refine I.write (x:=a) (e:=dx) (by rw[e];exact True.intro) (.inr m) (λb q hb z=>(sb.2 b hb).trans z) (let ⟨o,_,_,F,_⟩:=d.ns;⟨o,F⟩) ?_;refine⟨by rw[aD i.ne];exact m,?_,i.ne,d.obj,_,d.ns,λg=>?_,λg hg=>?_⟩
 ·have:=mG f y fs;lia
 ·rw[mK];by_cases q:g=f
  ·rw[Zp q,Zp q];exact p
  ·rw[Zo q,Zo q];exact r g
 ·by_cases q:g=f
  ·rw[q];exact(mf f y fs).1
  ·refine(mf f y fs).2 g (j g λz=>hg ?_);show (if g=f then Y u else D g)=J;rw[Zo q];exact z
def Inv.made(I:Inv X pins O H s):Inv X pins O (upd (upd H s.heap.objs.size (.own (s.heap.objs.size+1))) (s.heap.objs.size+1) (.ins C s.heap.objs.size []))
  { s with heap:=(s.heap.push PySem.W.emptyDict).push (PySem.W.instObj C s.heap.objs.size) }:=by
 have e1:(s.heap.push PySem.W.emptyDict).get? s.heap.objs.size=Y PySem.W.emptyDict:=ZK s.heap L;have g:=I.laid (o:=.own (s.heap.objs.size+1)) (t':=s.toks) (λb u q=>Zj _ q) (Zn _) ⟨_,e1⟩;refine g.laid (λb u q=>Zj _ q) (X5 (XJ _ _)) ?_;have ne:s.heap.objs.size≠s.heap.objs.size+1:=Za (Yk _);refine⟨by rw[aD ne,aw],ZA _,ne,(by
  have:=ZK (s.heap.push PySem.W.emptyDict) (o:=PySem.W.instObj C s.heap.objs.size) L
  rwa [XJ]at this),λ_=>J,(Heap.Ns1.of_empty (⟨PySem.W.emptyDict,#[],_,e1,rfl,(λe he=>absurd he (by simp)),λ_=>rfl⟩)).at λo q=>Zj _ q,λ_=>True.intro,λy d=>absurd L d⟩
def Dr{f:Str}{s:KB}(j:XAC e f d (eval e d)=eval e d)(h:Pi (KF b w) A (eval e d) (λo i=>Pi (KF b w) A (getAttr o f M) Q E i) E s):Pi (KF b w) A (eval (.Attribute e f g) d) Q E s :=
 Attribute_any_ h (by rw[arm_eval_Attribute,j])
end
def J9(K:X2)(ta:TE)(f:Str):TE:=λO H Q=>ta O H λx b=>∃a C d fs v,x=.ref a/\b a=Y (.ins C d fs)/\LX K C/\aY K C f/\fs.lookup f=Y v/\Q v b
def JI(K:X2)(ta e:TE)(f:Str):TS:=λD O H=>e O H λy g=>ta O g λx d=>∃a C b fs,x=.ref a/\d a=Y (.ins C b fs)/\LX K C/\aY K C f/\fs.length<1000 ∧
 D.nx O (upd d a (.ins C b (jb f y fs)))
section
def Bi(he:PE X e ta)(i:XAC e f X.env (eval e X.env)=eval e X.env):PE X (.Attribute e f pos) (J9 X.K ta f):=by
 intro b s O H Q I h;refine Dr i (thn (he b s O H _ I h) λu s1 j=>?_);obtain⟨x,w,r,d,a,C,A,fs,v,ex,m,c,n,l,q⟩:=j;subst ex;obtain rfl:u=Value.ref a:=d;exact vI r m c n l λy z p g=>⟨v,w,p,g,q⟩
def GY{pos:Pos}(r:PE X o ta)(m:PE X value tv)(p:swapsWith value (Y (.Attribute o f pos')) pos.line X.env=pure B):PS X (.Assign [.Attribute o f pos'] value pos) (JI X.K ta tv f):=by
 intro b s O H D I h;refine plainObj_wpAny_Assign_Attribute (thn (m b s O H _ I h) λu s1 ⟨y,F,E,d,q⟩=>thn (r b s1 O F _ E q) λj L v=>?_) p;obtain⟨x,P,A,g,a,C,N,fs,ex,w,c,n,l,i⟩:=v;subst ex;obtain rfl:j=Value.ref a:=g;exact vZ A w c n l d λG z=>⟨O,_,z,i⟩
end
section
variable{H:Hp}
inductive LL(K:X2)(H:Hp):V->PP->Prop where
 |non:LL K H .non (.type "NoneType")
 |bl (x:Bool):LL K H (.bl x) (.type "bool")
 |int (i:Int):LL K H (.int i) (.type "int")
 |str (x:Str):LL K H (.str x) (.type "str")
 |flt (x:UInt64):LL K H (.flt x) (.type "float")
 |lst {a:On} {xs:List V} (e:H a=some (.lst xs)):LL K H (.ref a) (.type "list")
 |frz {a:On} {o:Obj} {xs:List V} (e:H a=some (.frz o (.lst xs))):LL K H (.ref a) (.type "list")
 |tup {a:On} {xs:List V} (e:H a=some (.tup xs)):LL K H (.ref a) (.type "tuple")
 |dK {a:On} {cp:List (Key×V)} (e:H a=some (.dK cp)):LL K H (.ref a) (.type "dict")
 |dT {a:On} {cp:List (List Key×V)} (e:H a=some (.dT cp)):LL K H (.ref a) (.type "dict")
 |ins {a C dx:On} {fs:List (Str×V)} (e:H a=some (.ins C dx fs)) (cl:LX K C) (ha:PySem.W.findIn K (.ref C) "__class__" = some (some (.builtin "object.__class__")))
   (hn:PySem.W.specialIn K (.builtin "object.__class__") "__get__" = some (some (.builtin "getset_descriptor.__get__"))) (htk:PySem.W.takesIn K (.builtin "object.__class__")=some true)
   (hm:PySem.W.mroIn K C (.type "object")=some true):LL K H (.ref a) (.ref C)
def y9(I:Inv X pins O H s)(d:RelV x u)(r:LL X.K H x t)(e:PySem.W.kitOne X.K t c=Y b)(h:∀v,Q (.bool b) { s with toks:=v }) :
  Pi (KF X.prog X.w) A (call (.builtin "isinstance") [u,c]) Q E s:=by
 cases r with
 |non=>cases (d);exact YC PySem.W.kitx_none I.LZ True.intro e (λz=>nomatch z) h
 |bl y=>cases (d);exact YC PySem.W.kitx_bool I.LZ True.intro e (λz=>nomatch z) h
 |int i=>obtain⟨t,q⟩:=(d);cases q;exact YC PySem.W.kitx_int I.LZ True.intro e (λz=>nomatch z) h
 |str y=>obtain⟨t,q⟩:=(d);cases q;exact YC PySem.W.kitx_str I.LZ True.intro e (λz=>nomatch z) h
 |flt y=>obtain⟨t,q⟩:=(d);cases q;exact YC PySem.W.kitx_float I.LZ True.intro e (λz=>nomatch z) h
 |@lst a l f =>
  cases (d);obtain⟨_,_,n,_,g⟩:=(I.Kd a _ f)
  exact YC PySem.W.kitx_list I.LZ ⟨_,g,rfl⟩ e (λz=>nomatch z) h
 |@frz a Z l f =>
  cases (d);obtain⟨_,_,_,n,_,g⟩:=(I.Kd a _ f)
  exact YC PySem.W.kitx_list I.LZ ⟨_,g,rfl⟩ e (λz=>nomatch z) h
 |@tup a l f =>
  cases (d);obtain⟨_,_,_,_,p⟩:=(I.Kd a _ f)
  obtain⟨o,g,j,_⟩:=p;exact YC PySem.W.kitx_tuple I.LZ ⟨o,g,j⟩ e (λz=>nomatch z) h
 |@dK a P f =>
  cases (d);obtain⟨_,_,S,_,p⟩:=(I.Kd a _ f)
  obtain⟨o,L,N,g,j,_⟩:=p;exact YC PySem.W.kitx_dict I.LZ ⟨o,g,j.1⟩ e (λz=>nomatch z) h
 |@dT a P f =>
  cases (d);obtain⟨_,_,l,_,o,L,N,g,j,_⟩:=(I.Kd a _ f)
  exact YC PySem.W.kitx_dict I.LZ ⟨o,g,j.1⟩ e (λz=>nomatch z) h
 |@ins a C dx fs f cl G D m F =>
  cases (d);obtain⟨mA,R,_⟩:=iM I.Kd f;obtain⟨U,J,_⟩:=R.look;exact YC (PySem.W.kitx_own (cl.get _) cl.hd G D m F) I.LZ J e (λz=>nomatch z) h
end
structure p0(k:Nat)(A:SC):Prop where
 hd:A.handled=none
 dp:A.depth+3*k+5<recursionLimit
 un:A.units+16*k+200<cLine
def p0.mono{k:Nat}(r:p0 k A)(h:j<=k):p0 j A:=⟨r.hd,by have:=r.dp;lia,by have:=r.un;lia⟩
theorem p0.deeper(r:p0 (k+1) A)(a:Env):p0 k (A.deeper a) :=
 ⟨r.hd,by have:=r.dp;show A.depth+1+3*k+5<_;lia,by have:=r.un;show A.units+3+16*k+200<_;lia⟩
def vX{A:SC}:(A.under (.builtin "type.__call__" ⟨.ref C :: a,b⟩)).depth=A.depth+1:=by
 first | rfl | simp[Around.under,Code.weight,Code.isCreation,Code.isGuard,Code.isCaller,Code.frames,Code.isFrame,guardIds]
def vE{A:SC}:(A.under (.builtin "type.__call__" ⟨.ref C :: a,b⟩)).units=A.units+1:=by
 first | rfl | simp[Around.under,Code.cUnits,Code.frames,Code.isFrame]
def p0.make(r:p0 (k+1) A)(C:On)(a:Vz)(b:List (Str×PP)):p0 k (A.under (.builtin "type.__call__" ⟨.ref C :: a,b⟩)) :=
 ⟨r.hd,by have:=r.dp;rw[vX];lia,by have:=r.un;rw[vE];lia⟩
theorem p0.depth(r:p0 k A):A.depth<recursionLimit:=by have:=r.dp;lia
theorem p0.units(r:p0 k A):A.units+64<cLine:=by have:=r.un;lia
noncomputable def Ea:TA:=λ_ H Q=>Q [] H
noncomputable def Ez(ta:TE)(b:TA):TA:=λO H Q=>ta O H λx e=>b O e λa d=>Q (x :: a) d
section
def g8:PA X [] Ea:=λ_ _ _ _ H Q I h=>Calls.spliced_nil ⟨[],H,I,.nil,h⟩
def cZ(l:PE X e te)(j:PA X es t)(i:{`q3,K1 e es X}):PA X (e :: es) (Ez te t):=by
 intro pos a s O H Q I h;rw[i];refine Calls.spliced_cons (thn (l a s O H _ I h) λu s1 b=>?_);obtain⟨x,p,n,r1,g⟩:=b;refine thn (j pos a s1 O p _ n g) λq r b=>?_;obtain⟨d,o,m,r2,f⟩:=b;exact⟨x :: d,o,m,.cons r1 r2,f⟩
def J7(t:TA):TE:=λO H Q=>t O H λa b=>a.length<=KM/\∀p,b p=J->Q (.ref p) (upd b p (.tup a))
def JS(t:TA):TE:=λO H Q=>t O H λa b=>a.length<=KM/\∀p,b p=J->Q (.ref p) (upd b p (.lst a))
def Fm{x1}(h:PA X es t):PE X (.Tuple es x1 pos) (J7 t):=by
 intro a s O H Q I i;refine wpAny_Tuple_spliced (thn (h pos a s O H _ I i) λg s1 ⟨f,j,d,r,z,q⟩=>⟨by rw[← r.length];exact z,?_⟩);refine⟨.ref s1.heap.objs.size,upd j s1.heap.objs.size (.tup f),d.laid (λb u e=>Zj _ e) (Zn _) ?_,rfl,q _ (d.Kd.fresh (Zn _))⟩;exact⟨z,g,r,Qv.of (ZK _ L) L,⟨_,ZK _ L,rfl,_,rfl⟩⟩
def Gw(h:PA X es t):PE X (.List es pos) (JS t):=by
 intro a s O H Q I i;refine wpAny_List_spliced (thn (h pos a s O H _ I i) λg s1 ⟨f,j,d,r,z,q⟩=>⟨by rw[← r.length];exact z,?_⟩);refine⟨.ref s1.heap.objs.size,upd j s1.heap.objs.size (.lst f),d.laid (λb u e=>Zj _ e) (Zn _) ?_,rfl,q _ (d.Kd.fresh (Zn _))⟩;exact⟨z,g,0,r,ZK _ L⟩
end
abbrev Sp:=List V->Hp->VK->XK->Prop
abbrev Oz:=List Env->Hp->KB->XK->Ki
structure Env0(P:SB)(w:XAB)(K:X2)(mg:Wv)(base:XAA)(A:SC)(outer:List Env)(s:KB)(H:Hp):Prop where
 frames:A.frames=some outer
 mod:Mod K mg base
 tb:∀b q,Tb base b q->H b=some (.tbl q)
 bs:∀b o,base.get? b=some o->s.heap.get? b=some o/\H b=none
 P4:base.objs.size<=s.heap.objs.size
 L8:s.heap.FunFrames base outer
 RV:∀b∈LS outer,H b=none
 Kd:LA P w H s.heap
 bare:AllBare s.gens
def CE(a:List Env)(P:SB)(w:XAB)(H:Hp)(s:KB)(Q:VK)(u:PP)(b:KB):Prop :=
 ∃v d,b.os=s.os/\AllBare b.gens/\Un (LS a) [] H d s.heap b.heap/\LA P w d b.heap/\RelV v u/\Q v d
def CR(d:Oz)(a:List Env)(P:SB)(w:XAB)(H:Hp)(s:KB)(Q:VK)(E:XK)(r:Result)(b:KB):Prop :=
 match r with
 |.ok (.ret u)=>CE a P w H s Q u b
 |.ok _=>False
 |.error e=>d a H s E e b
structure FnOk(P:SB)(w:XAB)(K:X2)(mg:Wv)(base:XAA)(CX:Oz)(k:Nat)(f:On)(fd:Re)(ps:List Str)(sp:Sp):Prop where
 len:∀vs H Q E,sp vs H Q E->vs.length=ps.length
 run:∀(A:SC)(outer:List Env)(s:KB)(H:Hp)(args:Args)(us:Vz)(vs:List V)(Q:VK)(E:XK),p0 k A->Env0 P w K mg base A outer s H->BindsTo s fd args (ps.zip us)->aP vs us->sp vs H Q E →
  codeAny (KF P w) A (.call (.ref f) args) (CR CX outer P w H s Q E) s
def FnOk.imp{K:X2}(F:FnOk P w K i a l k f j g e)(h:∀b H Q E,d b H Q E->e b H Q E):FnOk P w K i a l k f j g d :=
 ⟨λb H Q E q=>F.len b H Q E (h _ _ _ _ q),λA outer s H args m b Q E p he hb n o=>F.run A outer s H args m b Q E p he hb n (h _ _ _ _ o)⟩
def Env0.make{K:X2}(e:Env0 P w K d b A a s H)(C:On)(f:Vz)(g:List (Str×PP)) :
  Env0 P w K d b (A.under (.builtin "type.__call__" ⟨.ref C :: f,g⟩)) a s H:=⟨by first | exact e.frames | (simpa[Around.under,Code.envs,Code.isFrame,pushEnvs] using e.frames),e.mod,e.tb,e.bs,e.P4,e.L8,e.RV,e.Kd,e.bare⟩
section
variable{H:Hp}
def Inv.Uc(I:Inv X pins O H s):Env0 X.prog X.w X.K X.mg X.base X.A X.stack s H :=
 ⟨I.ok.frames,I.ok.mod,I.tb,I.bs,ZR I.ok.P4 I.sz,I.stack,I.NR,I.Kd,I.bare⟩
def Inv.after(I:Inv X pins O H s)(h:CE X.stack X.prog X.w H s Q u s'):EP X pins O Q u s':=by
 obtain⟨v,f,os,bare,un,Kd,r,q⟩:=h;obtain⟨a,g,d,t,e⟩:=s';obtain rfl:e=s.os:=os;exact⟨v,f,I.call (h':=a) (g':=g) (d':=d) (t':=t) (ch:=[]) un Kd bare (λb z=>absurd z (by simp)),r,q⟩
end
noncomputable def EM(b:Sp)(d:List V)(E:XK)(t:TA):TE:=λO H Q=>t O H λa e=>b (a++d) e Q E
def xp(C:On)(m:Str)(e:Sp)(g:List V)(E:XK)(ta:TE)(t:TA):TE:=λO H Q=>ta O H λx b=>∃a f fs,x=.ref a/\b a=Y (.ins C f fs)/\fs.lookup m=J ∧
 t O b λd h=>e (x :: (d++g)) h Q E
def BW(C:On)(e:Sp)(f:List V)(E:XK)(t:TA):TE:=λO H Q=>t O H λd b=>∀x a,b x=J->b a=J->a≠x →
 e (.ref x :: (d++f)) (upd (upd b a (.own x)) x (.ins C a [])) (λv g=>v=.non/\Q (.ref x) g) E
def Binds(K:X2)(d:Re)(b:List Str)(ds:Vz):Prop :=
 ∀(s:KB)(a:Vz),K.In s.heap->(a++ds).length=b.length->BindsTo s d ⟨a,[]⟩ (b.zip (a++ds))
def Binds.all{K:X2}{b:List Str}(h:∀a:Vz,a.length=b.length->bindArgs e ⟨a,[]⟩=pure (b.zip a)):Binds K e b []:=λs a _ d=>by
 rw[ZM]at d ⊢;exact .of_eq (h a d)
def ja(d:Oz)(X:Cx)(E:XK):Prop:=∀(a:Km)(O:St)(H:Hp)(s:KB)(e:PP)(b:KB),Inv X a O H s->d X.stack H s E e b->X.xe e b
section
def vK{X:Cx}{vs:List V}(F:FnOk X.prog X.w X.K X.mg X.base CX k f fd ps sp)(j:p0 k X.A)(n:Binds X.K fd ps ds)(l:aP Mq ds)(i:ja CX X E)(I:Inv X a O H s)(r:aP vs b)(h:sp (vs++Mq) H Q E):Pi (KF X.prog X.w) X.A (call (.ref f) b) (EP X a O Q) X.xe s:=by
 have r2:=r.append l;refine wpAny_call (W7 (F.run X.A X.stack s H ⟨b,[]⟩ (b++ds) (vs++Mq) Q E j I.Uc (n s b I.LZ (by rw[← r2.length];exact F.len _ _ _ _ h)) r2 h) λr g d=>?_);cases r with
 |error e=>exact i a O H s e g I d
 |ok q =>
  cases q with
  |ret u=>exact I.after d
  |next=>exact False.elim d
  |brk=>exact False.elim d
  |cont=>exact False.elim d
def r9{X:Cx}(F:FnOk X.prog X.w X.K X.mg X.base CX k f fd ps sp)(g:p0 k X.A)(l:Gl X x)(i:X.mg x=Y (.ref f))(j:PySem.W.keepIn X.K (.ref f)=M)(u:Binds X.K fd ps ds)(n:aP Mq ds)(d:ja CX X E)(v:PA X (e :: es) t)(y:{`q1,K3 x})(he:{`q3,K1 e es X})(z:{`q3,K2 pos es X}) :
  PE X (.Call (.Name x p) (e :: es) [] pos) (EM sp Mq E t):=by
 intro a s O H Q I h;refine We (nN I l i ?_ y);refine VR I.ok.mod.Tu j (thn (v pos a s O H _ I h) λG s1 ⟨D,L,b,r,q⟩=>⟨b.LZ,?_⟩) he z;exact vK F g u n d b r q
def rH(he:PE X o ta)(c:LX X.K C)(g:Meth X.K C m f)(F:FnOk X.prog X.w X.K X.mg X.base CX k f fd ps sp)(D:p0 k X.A)(N:Binds X.K fd ps ds)(G:aP Mq ds)(y:ja CX X E)(P:PA X (e :: es) t)(U:{`q3,K1 e es X})(Z:{`q3,K2 pos es X})(z:{`q3,eval (.Call (.Attribute o m apos) (e :: es) [] pos) X.env=(do
   let d ← eval o X.env
   standAt apos.atName
   let (f,first) ← holding [d] (getMethod d m pl)
   callWith pos f first (backTo pos (P3 (e :: es) X.env)) (backToKw pos (SZ [] X.env)))}) :
  PE X (.Call (.Attribute o m apos) (e :: es) [] pos) (xp C m sp Mq E ta t):=by
 intro b s O H Q I h;refine PySem.W.methodCall_KW (pl:=pl) (thn (he b s O H _ I h) λu s1 R=>?_) z;obtain⟨x,H1,j,n,a,dx,fs,ex,S,l,q⟩:=R;subst ex;obtain rfl:u=Value.ref a:=n;refine oi j S c g l ?_;refine VR I.ok.mod.Tu g.kp (thn (P pos b s1 O H1 _ j q) λus s2 ⟨vs,H2,i,r,v⟩=>⟨i.LZ,?_⟩) U Z;exact vK (vs:=.ref a :: vs) F D N G y i (.cons L r) v
def sJ(he:PE X o ta)(c:LX X.K C)(i:Meth X.K C m f)(F:FnOk X.prog X.w X.K X.mg X.base CX k f fd ps sp)(v:p0 k X.A)(z:Binds X.K fd ps ds)(y:aP Mq ds)(n:ja CX X E)(r:{`q3,eval (.Call (.Attribute o m apos) [] [] pos) X.env=(do
   let g ← eval o X.env
   standAt apos.atName
   let (f,first) ← holding [g] (getMethod g m pl)
   callWith pos f first (backTo pos (P3 [] X.env)) (backToKw pos (SZ [] X.env)))}) :
  PE X (.Call (.Attribute o m apos) [] [] pos) (xp C m sp Mq E ta Ea):=by
 intro b s O H Q I h;refine PySem.W.methodCall_KW (pl:=pl) (thn (he b s O H _ I h) λu s1 D=>?_) r;obtain⟨x,P,d,j,a,N,fs,ex,G,l,q⟩:=D;subst ex;obtain rfl:u=Value.ref a:=j;refine oi d G c i l ?_;exact PySem.W.callWith_K0 d.LZ i.kp (vK (vs:=[.ref a]) F v z y n d (.cons L .nil) q)
structure Mk(K:X2)(C f:On):Prop where
 makes:PySem.W.makesIn K C=true
 init:PySem.W.findIn K (.ref C) "__init__" = some (some (.ref f))
 fn:PySem.W.isFn K (.ref f)=true
 kp:PySem.W.keepIn K (.ref C)=true
def uJ{X:Cx}{us:Vz}(M:Mk X.K C f)(F:FnOk X.prog X.w X.K X.mg X.base CX k f fd ps sp)(z:p0 (k+1) X.A)(G:Binds X.K fd ps ds)(D:aP Mq ds)(y:ja CX X E)(I:Inv X a O H s)(r:aP i us)(h:∀x d,H x=J->H d=J->d≠x->sp (.ref x :: (i++Mq)) (upd (upd H d (.own x)) x (.ins C d [])) (λv R=>v=.non/\Q (.ref x) R) E) :
  Pi (KF X.prog X.w) X.A (call (.ref C) us) (EP X a O Q) X.xe s:=by
 have j:=h (s.heap.objs.size+1) s.heap.objs.size (I.Kd.fresh (W0 _)) (I.Kd.fresh (Zn _)) (Za (Yk _));have g:=Inv.made (C:=C) I;have r2:aP (V.ref (s.heap.objs.size+1) :: (i++Mq)) (Value.ref (s.heap.objs.size+1) :: (us++ds)):=.cons L (r.append D);refine wpAny_call (B7 (f:=f) I.LZ M.makes M.init (beq_iff_eq.mp M.fn) (W7 (F.run _ X.stack _ _ ⟨Value.ref (s.heap.objs.size+1) :: us,[]⟩ (Value.ref (s.heap.objs.size+1) :: (us++ds)) _ _ E (z.make C us [])
  (g.Uc.make C us []) (G _ (Value.ref (s.heap.objs.size+1) :: us) g.LZ (by
  have e:=r2.length;rw[F.len _ _ _ _ j]at e;exact e.symm)) r2 j) λr l b=>?_))
 cases r with
 |error e=>exact y a O _ _ e l g b
 |ok N =>
  cases N with
  |ret u =>
   obtain⟨v,S,P,n,ev,q⟩:=g.after b;subst ev;exact⟨n,⟨V.ref (s.heap.objs.size+1),S,P,rfl,q⟩⟩
  |next=>exact False.elim b
  |brk=>exact False.elim b
  |cont=>exact False.elim b
def Co{X:Cx}(M:Mk X.K C f)(F:FnOk X.prog X.w X.K X.mg X.base CX k f fd ps sp)(g:p0 (k+1) X.A)(j:Gl X x)(i:X.mg x=Y (.ref C))(n:Binds X.K fd ps ds)(l:aP Mq ds)(d:ja CX X E)(u:PA X (e :: es) t)(v:{`q1,K3 x})(he:{`q3,K1 e es X})(y:{`q3,K2 pos es X}) :
  PE X (.Call (.Name x p) (e :: es) [] pos) (BW C sp Mq E t):=by
 intro a s O H Q I h;refine We (nN I j i ?_ v);refine VR I.ok.mod.Tu M.kp (thn (u pos a s O H _ I h) λD s1 ⟨z,G,b,r,q⟩=>⟨b.LZ,?_⟩) he y;exact uJ M F g n l d b r q
def BS{X:Cx}(M:Mk X.K C f)(F:FnOk X.prog X.w X.K X.mg X.base CX k f fd ps sp)(d:p0 (k+1) X.A)(i:Gl X x)(g:X.mg x=Y (.ref C))(l:Binds X.K fd ps ds)(j:aP Mq ds)(b:ja CX X E)(n:{`q1,K3 x}):PE X (.Call (.Name x p) [] [] pos) (BW C sp Mq E Ea):=by
 intro a s O H Q I h;refine We (nN I i g ?_ n);exact PySem.W.callWith_K0 I.LZ M.kp (uJ (us:=[]) M F d l j b I .nil h)
end
structure gV(N P:List Str)(sc:Scope):Prop where
 kind:sc.kind=.function
 co:sc.isCoroutine=false
 gen:sc.isGenerator=false
 nd:N.Nodup
 pre:N.take P.length=P
 par:∀x∈P,sc.names.lookup x=some .local\/sc.names.lookup x=some .cell
 Rt:∀y∈sc.names,y.2 ≠ .free
theorem pR:∀{binds:List (Str×PP)}{m:Wv},(∀v,(x,v)∉binds)->bindL a binds m x=m x
 |[],_,_=>rfl
 | (n,v) :: r,m,h=>by
  unfold bindL;rw[pR λw hw=>h w (Zx _ hw)];split
  ·have:x≠n:=by rintro rfl;exact h v Zv
   simp[this]
  ·rfl
theorem pU:∀{binds:List (Str×PP)}{m:Wv},(∀v,(x,v)∉binds)->bindC a binds m x=m x
 |[],_,_=>rfl
 | (n,v) :: r,m,h=>by
  unfold bindC;rw[pU λw hw=>h w (Zx _ hw)];split
  ·rfl
  ·have:x≠n:=by rintro rfl;exact h v Zv
   simp[this]
theorem qc:∀{P:List Str}{b:Vz}{i:Nat}{m:Wv},P.Nodup->P[i]?=Y x->b[i]?=Y v->a x=Y .local →
  bindL a (P.zip b) m x=Y v
 |[],_,_,_,_,h,_,_=>by simp at h
 |_ :: _,[],_,_,_,_,h,_=>by simp at h
 |p :: P,w :: b,0,m,nd,e,d,f=>by
  simp at e d;subst e;subst d;show bindL a ((p,w) :: P.zip b) m p=_;unfold bindL;rw[pR λv g=>(ZY.mp nd).1 (List.of_mem_zip g).1,Zp f];simp
 |p :: P,w :: b,i+1,m,nd,e,d,f=>by
  unfold bindL;exact qc (i:=i) (ZY.mp nd).2 (by simpa using e) (by simpa using d) f
theorem qg:∀{P:List Str}{b:Vz}{i:Nat}{m:Wv},P.Nodup->P[i]?=Y x->b[i]?=Y v->a x≠Y .local →
  bindC a (P.zip b) m x=Y v
 |[],_,_,_,_,h,_,_=>by simp at h
 |_ :: _,[],_,_,_,_,h,_=>by simp at h
 |p :: P,w :: b,0,m,nd,e,d,f=>by
  simp at e d;subst e;subst d;show bindC a ((p,w) :: P.zip b) m p=_;unfold bindC;rw[pU λv g=>(ZY.mp nd).1 (List.of_mem_zip g).1,Zo f];simp
 |p :: P,w :: b,i+1,m,nd,e,d,f=>by
  unfold bindC;exact qg (i:=i) (ZY.mp nd).2 (by simpa using e) (by simpa using d) f
noncomputable def start(N:List Str)(a:List V):St:=a.map Y++List.replicate (N.length-a.length) J
def jr(j:Oz)(P:SB)(w:XAB)(K:X2)(m:Wv)(h:XAA)(N:List Str)(d:Str)(a:Scope)(f:On)(g:PP)(A:SC)(b:List Env)(s:KB)(H:Hp)(E:XK):Cx where
 prog:=P
 w:=w
 K:=K
 mg:=m
 base:=h
 A:=A.deeper (envOfC d a s.heap.objs.size f g)
 N:=N
 s₀:=s
 H₀:=H
 env:=envOfC d a s.heap.objs.size f g
 outer:=b
 stack:=envOfC d a s.heap.objs.size f g :: b
 ex:=[]
 calm:=M
 fn:=λ_=>M
 pn:=[]
 xe:=λe l=>Pi (KF P w) (A.deeper (envOfC d a s.heap.objs.size f g)) (leaving (envOfC d a s.heap.objs.size f g) e) (λ_ i=>j b H s E e i) (λn i=>j b H s E n i) l
def uQ{a:Scope}(h:a.names.lookup x=Y .cell):∃c,(cellsFrom n a.names []).lookup x=Y c:=by
 exact YS.mp (PySem.W.cellsFrom_some a.names n [] (.inl h))
def yx{K:X2}{A:SC}{D:List V}(S:gV N o d)(hd:A.handled=J)(m:Env0 P w K X n A g s H)(hl:D.length=o.length)(r:aP D U)(x:InCallC s s.heap.objs.size (bindL (envOfC j d s.heap.objs.size f R).kindOf (o.zip U) λ_=>J) (cellsFrom (s.heap.objs.size+1) d.names []) (bindC (envOfC j d s.heap.objs.size f R).kindOf (o.zip U) λ_=>J) s1) :
  Inv (jr CX P w K X n N j d f R A g s H E) [] (start N D) H s1:=by
 have KQ:o.length<=N.length:=by have:=congrArg List.length S.pre;rw[Yv]at this;lia
 obtain⟨Q,tk,rfl,hk⟩:=x.done;have Z:∀b:On,b∉(jr CX P w K X n N j d f R A g s H E).ex:=λb z=>absurd (show b∈([]) from z) (by simp);refine⟨⟨m.mod,S.kind,rfl,rfl,Zn _,λy z c Q l=>?_,λy C=>?_,λy c _ h=>?_,λ_=>hd,Around.frames_deeper m.frames,.inr ⟨rfl,rfl⟩,λb z=>absurd z (Z b),m.tb,m.bs,m.P4,λb _ _=>Z b,λb z=>absurd z (Z b),m.L8,m.RV⟩,
  rfl,m.bare,Un.kept hk,⟨_,x.toInCall.ns,λi y v Q l h3=>?_⟩,λy c h=>⟨_,x.cell y c h⟩,m.Kd.fresh (Zn _),λy c h=>?_,λp G=>absurd (show p∈([]) from G) (by simp),m.Kd.kept hk,?_⟩
 ·exact name_of_addr x.apart (X7 Q) (X7 l)
 ·have C:=C;rcases C with C | C
  ·exact uQ C
  ·exact absurd L (S.Rt _ (X7 C))
 ·exact ZQ (x.above y c (X7 h))
 ·have O:i<D.length:=by
   unfold start at l;by_cases O:i<D.length
   ·exact O
   ·rw[Yq (by simpa using O)]at l;rw[Y3]at l;split at l<;>cases l
  obtain⟨u,hu,rv⟩:=r.get (by
   unfold start at l;rw[Yt (by simpa using O),ZP]at l;cases e:D[i]? with
   |none=>rw[e]at l;cases l
   |some a=>rw[e]at l;cases l;rfl)
  have G:o[i]?=Y y:=by
   rw[← S.pre,List.getElem?_take_of_lt (by lia)];exact Q
  have F:o.Nodup:=by rw[← S.pre];exact S.nd.sublist (List.take_sublist _ _)
  refine⟨u,rv,?_⟩;rcases S.par y (Yr G) with k | k
  ·exact .inl ⟨k,qc F G hu k⟩
  ·obtain⟨c,e⟩:=uQ k;refine .inr ⟨.inl k,c,e,?_⟩;have q:=x.cell y c e;rw[qg F G hu (by show d.names.lookup y≠_;rw[k];decide)]at q;exact q
 ·exact m.Kd.fresh (ZQ (x.above y c (X7 h)))
 ·unfold start;show _=N.length;rw[Zs,Zw,Xy];lia
def Fc{CX:Oz}{P:SB}{w:XAB}{K:X2}{X:Wv}{i:XAA}{k:Nat}{f:On}{l d:Str}{g:Arguments}{h:List Stmt}{a:Scope}{dV kV D pm y ct oc:PP}{an od:Option On}{Nt:Array (V9)}{N U:List Str}{G:Sp}(lk:K.lookup f=Y ⟨oc,od,.func (PySem.W.fnOf l d g h a dV kV D pm an y ct),Nt⟩)(hcd:PySem.W.codeIn K y d=M)(S:gV N U a)(z:∀j H Q E,G j H Q E->j.length=U.length)(Nj:∀(A:SC)(outer:List Env)(s:KB)(H:Hp)(j:List V)(Q:VK)(E:XK),p0 k (A.deeper (envOfC d a s.heap.objs.size f y))->G j H Q E →
   ∃t,Mr (jr CX P w K X i N d a f y A outer s H E) h t/\t { nx:=λ_ m=>Q .non m,rt:=Q } (start N j) H) :
  FnOk P w K X i CX (k+1) f (PySem.W.fnOf l d g h a dV kV D pm an y ct) U G:=by
 refine⟨z,λA outer s H args us j Q E Z C hb r Pk=>?_⟩;have hl:=z _ _ _ _ Pk;have KX:=C.mod.Tu.keeps λb o e=>(C.bs b o e).1;refine codeAny_call_function Z.depth (KX _ _ lk) L S.co S.gen L (PySem.W.codeRec_of KX hcd) (hb _ _ _ _ ?_);refine wpAny_newFunctionEnv_cells S.kind (λ⟨n,v⟩ hy=>by
  rcases S.par n (List.of_mem_zip hy).1 with q | q
  ·exact .inl q
  ·exact .inr ⟨q,PySem.W.cellsFrom_some _ _ _ (.inl q)⟩) λenv he s1 x=>?_
 subst he;refine⟨(C.mod.nolimit.keeps λb o e=>(C.bs b o e).1).keeps x.toInCall.keep,codeAny_func ?_⟩;obtain⟨t,ht,hq⟩:=Nj A outer s H j Q E (Z.deeper _) Pk;refine Xw (ht [] s1 (start N j) H _ (yx S Z.hd C hl r x) hq) (λfl O p=>?_) λe O p=>p;have fin:∀{F:St}{m:Hp}{v:V}{u:PP},Inv (jr CX P w K X i N d a f y A outer s H E) [] F m O->RelV v u->Q v m->CE outer P w H s Q u O :=
  λ{F m v u} J R q=>⟨v,m,J.os,J.bare,J.base,J.Kd,R,q⟩
 cases fl with
 |ret u =>
  obtain⟨v,F,m,J,R,q⟩:=p;exact fin J R q
 |next =>
  obtain⟨F,m,J,q⟩:=p;exact fin (v:=V.non) J L q
 |brk =>
  obtain⟨_,_,_,q⟩:=p;exact False.elim q
 |cont =>
  obtain⟨_,_,_,q⟩:=p;exact False.elim q
section
noncomputable def tCB(r:List V->Hp->VK->Prop)(t:TA):TE:=λO H Q=>t O H λa b=>r a b Q
def oO{X:Cx}{x:Str}{p pos:Pos}{es:List Expr}{t:TA}{id:String}{r:List V->Hp->VK->Prop}(m:dw X (.builtin id) r)(l:Gl X x)(j:X.mg x=J)(g:bootBuiltins x=Y (.builtin id))(n:PA X (e :: es) t)(i:{`q1,x ≠ "__name__"})(o:{`q1,K3 x})(he:{`q3,K1 e es X})(q:{`q3,K2 pos es X}):PE X (.Call (.Name x p) (e :: es) [] pos) (tCB r t):=by
 intro a s O H Q I h;refine We (oh I l j g ?_ i o);exact PyProof.Rows.callWith_builtin1 (thn (n pos a s O H _ I h) λd s1 ⟨b,v,u,r1,f⟩=>m a s1 O v b d Q u r1 f) he q
def p6(m:dw X (.type T) r)(l:Gl X x)(j:X.mg x=J)(g:bootBuiltins x=Y (.type T))(n:PA X (e :: es) t)(i:{`q1,x ≠ "__name__"})(o:{`q1,K3 x})(he:{`q3,K1 e es X})(q:{`q3,K2 pos es X}):PE X (.Call (.Name x p) (e :: es) [] pos) (tCB r t):=by
 intro a s O H Q I h;refine We (oh I l j g ?_ i o);exact WM (thn (n pos a s O H _ I h) λd s1 ⟨b,v,u,r1,f⟩=>m a s1 O v b d Q u r1 f) he q
end
end L2
namespace HT
open PySem PyProof.Rows
section
noncomputable def Lj(n d:Nat):Option Int->Nat
 |none=>d
 |some v=>if v<0 then (v+(n:Int)).toNat else min v.toNat n
end
end HT
namespace L2
open PySem PySem.Spec PyProof.Rows
abbrev TO:=St->Hp->(Option Int->Hp->Prop)->Prop
def PO(X:Cx)(e:Option Expr)(t:TO):Prop :=
 ∀(a:Km)(s:KB)(O:St)(H:Hp)(Q:Option Int->Hp->Prop),Inv X a O H s->t O H Q →
  Pi (KF X.prog X.w) X.A (evalPart e X.env) (λu d=>∃o b,Inv X a O b d/\IsPart u o/\Q o b) X.xe s
noncomputable def Dz:TO:=λ_ H Q=>Q J H
noncomputable def IL(t:TE):TO:=λO H Q=>t O H λx a=>∃i,x=.int i/\Q (Y i) a
section
variable{lo:Option Expr}
def xY:PO X J Dz:=by
 intro a s O H Q I h;rw[evalPart_none];exact Zk ⟨J,H,I,.none,h⟩
def yb(h:PE X e te):PO X (Y e) (IL te):=by
 intro a s O H Q I hw;rw[evalPart_some];refine thn (h a s O H _ I hw) λu s1 d=>?_;obtain⟨x,g,f,r1,b⟩:=d;obtain⟨i,rfl,q⟩:=b;obtain⟨t,rfl⟩:=r1;exact⟨Y i,g,f,.int i t,q⟩
def QZ(X:Cx)(r:V->Option Int->Option Int->Hp->VK->Prop):Prop :=
 ∀(a:Km)(s:KB)(O:St)(H:Hp)(x:V)(v d b:PP)(lo hi:Option Int)(f:On)(Q:VK),Inv X a O H s->RelV x v->s.heap.IsSliceOf f d b .none->IsPart d lo->IsPart b hi->r x lo hi H Q →
  ∃T id,typeLookup (.type T) "__getitem__" = pure (Y (.builtin id))/\s.TypeIs v T/\Pi (KF X.prog X.w) X.A (getItem v (.ref f)) (EP X a O Q) X.xe s
def QZ.or(h:QZ X r)(m:QZ X i):QZ X (λx lo hi H Q=>r x lo hi H Q\/i x lo hi H Q):=by
 intro a s O H x v d b lo hi f Q I g l j pu q;rcases q with q | q
 ·exact h a s O H x v d b lo hi f Q I g l j pu q
 ·exact m a s O H x v d b lo hi f Q I g l j pu q
noncomputable def tSl(r:V->Option Int->Option Int->Hp->VK->Prop)(d:TE)(a b:TO):TE:=λO H Q=>d O H λx h=>a O h λl g=>b O g λu f=>r x l u f Q
def tQ(z:QZ X r)(he:PE X e te)(A:PO X lo tl)(w:PO X hi th):PE X (.Subscript e (.Slice lo hi J p2) pos) (tSl r te tl th):=by
 intro a s O H Q I h;refine Subscript_ (thn (he a s O H _ I h) λv s1 f=>?_);obtain⟨x,N,F,r1,o⟩:=f;refine wpAny_Slice (thn (A a s1 O N _ F o) λi j ⟨l,L,E,p,n⟩=>thn (w a j O L _ E n) λg d f=>?_);obtain⟨u,G,D,pu,m⟩:=f;rw[evalPart_none];refine Zk ?_;obtain⟨T,id,C,y,hg⟩:=z a { d with heap:=d.heap.push { cls:=.type "slice",data:=.fields #[i,g,.none] } } O G x v i g l u d.heap.objs.size Q (D.kept (t':=d.toks) λb P q=>Zj _ q) r1 (Heap.IsSliceOf.new ..) p pu m;exact tail_any y C hg (by with_unfolding_all rfl)
def AW(a:List V)(b d:Option Int):List V:=(a.drop (HT.Lj a.length 0 b)).take (HT.Lj a.length a.length d-HT.Lj a.length 0 b)
def tM(a:List V)(b d:Option Int):(AW a b d).length<=a.length:=by
 unfold AW;rw[Yv,Yz];lia
end
noncomputable def RA(n:Nat)(i:Int):Option Nat:=if 0<=i then (if i<n then Y i.toNat else J) else if -(n:Int)<=i then Y (i+n).toNat else J
def Sd{α:Type}(a:List α)(i:Int):Option α:=(RA a.length i).bind λj=>a[j]?
def wC{i:Int}(h:RA n i=Y j):seqIndex? i n=Y j/\j<n/\-(n:Int)<=i/\i<n:=by
 unfold RA at h;by_cases b:0<=i
 ·rw[Zp b]at h;by_cases a:i<n
  ·rw[Zp a]at h;exact⟨by rw[seqIndex_of b a,(Zl h)],by lia,by lia,a⟩
  ·rw[Zo a]at h;cases h
 ·rw[Zo b]at h;by_cases a:-(n:Int)<=i
  ·rw[Zp a]at h;exact⟨by rw[seqIndex_neg (by lia) a,(Zl h)],by lia,a,by lia⟩
  ·rw[Zo a]at h;cases h
def sF{α:Type}{a:List α}{i:Int}{v:α}(h:Sd a i=Y v):∃j,seqIndex? i a.length=Y j/\a[j]?=Y v/\j<a.length/\-(a.length:Int)<=i/\i<a.length:=by
 unfold Sd at h;cases e:RA a.length i with
 |none=>rw[e]at h;cases h
 |some j =>
  rw[e]at h;obtain⟨g,f,d,b⟩:=wC e;exact⟨j,g,h,f,d,b⟩
noncomputable def fX(b:Expr):Prop:=∀o i,subscripted b B o i=operate [o,i] (getItem o i)
def Mf(X:Cx)(r:R2):Prop :=
 ∀(value slice:Expr)(a:Km)(s:KB)(O:St)(H:Hp)(x y:V)(v u:PP)(Q:VK),Inv X a O H s->RelV x v->RelV y u->r x y H Q →
  subscripted slice B v u=operate [v,u] (getItem v u)->Pi (KF X.prog X.w) X.A (subscriptTail value slice v u) (EP X a O Q) X.xe s
def UH(X:Cx)(e:String)(r:V->List V->Hp->VK->Prop):Prop :=
 ∀(a:Km)(s:KB)(O:St)(H:Hp)(x:V)(b:List V)(v:PP)(d:Vz)(Q:VK),Inv X a O H s->RelV x v->aP b d->r x b H Q →
  Pi (KF X.prog X.w) X.A (call (.builtin e) (v :: d)) (EP X a O Q) X.xe s
section
def Mf.or(h:Mf X r)(j:Mf X g):Mf X (λx y H Q=>r x y H Q\/g x y H Q):=by
 intro value slice d s O H x y v u Q I f e q i;rcases q with q | q
 ·exact h value slice d s O H x y v u Q I f e q i
 ·exact j value slice d s O H x y v u Q I f e q i
def mO(j:Mf X r)(m:PE X a ta)(l:PE X b tb)(i:fX b):PE X (.Subscript a b pos) (Sl r ta tb):=by
 intro d s O H Q I h;exact Subscript_ (Fz m l I h λv u e x y o n g f q=>j a b d e O o x y v u Q n g f q (i _ _))
def IU(K:X2):R2:=λx y H Q=>∃p d i v,x=.ref p/\y=.int i/\Kt K H p d/\Sd d i=Y v/\Q v H
def Iy(K:X2):R2:=λx y H Q=>∃p d i v,x=.ref p/\y=.int i/\LF K H p d/\Sd d i=Y v/\Q v H
def Jo:R2:=λx y H Q=>∃z i c,x=.str z/\y=.int i/\z.length<=KM/\Sd z.cps.toList i=Y c/\Q (.str ⟨#[c]⟩) H
def wt:Mf X (IU X.K):=by
 intro value slice d s O H x y v u Q I A o h l;refine L2.ai λP_ C=>?_;obtain⟨p,R,i,z,rfl,rfl,E,he,q⟩:=h;cases A;obtain⟨t,rfl⟩:=o;obtain⟨D,r,f,S⟩:=I.list E;obtain⟨j,e,N,Z,L,G⟩:=sF he;obtain⟨w,n,P⟩:=r.get N;refine C ?_;have F:=r.length;have U:=qQ;have fin:EP X d O Q w s:=⟨z,H,I,P,q⟩
 by_cases m:0<=i
 ·have g:i.toNat=j:=by
   rw[seqIndex_of m G]at e;exact Zl e
  exact item_listR f.isList m (by lia) (by rw[g];simpa using n) fin l
 ·have g:(i+(D.toArray.size:Int)).toNat=j:=by
   rw[seqIndex_neg (by lia) L]at e;rw[ZE,← F];exact Zl e
  exact subscriptTail_builtinR (x:=w) f.isList.typeIs slot_list_getitem.lookup
   (wpAny_getItem_list_neg f.isList (by lia) (by rw[ZE]<;>lia) (by lia) (by rw[g];simpa using n) ⟨rfl,fin⟩) l
def Gk:Mf X (Iy X.K):=by
 intro value slice e s O H x y v u Q I g f h m;refine L2.ai λS l=>?_;obtain⟨p,E,i,z,rfl,rfl,n,he,q⟩:=h;cases g;obtain⟨t,rfl⟩:=f;obtain⟨F,r,d,G⟩:=I.tuple n;obtain⟨j,A,o,R,P,N⟩:=sF he;obtain⟨w,C,D⟩:=r.get o;refine l ?_;have L:=qQ;exact subscriptTail_builtinR (x:=w) d.typeIs slot_tuple_getitem.lookup
  (getItem_tuple (j:=j) d (by lia) (by lia) (by rw[ZE,← r.length];exact A) (by simpa using C) ⟨rfl,(⟨z,H,I,D,q⟩)⟩) m
def G0:Mf X Jo:=by
 intro value slice d s O H x y v u Q I g f h l;obtain⟨z,i,c,rfl,rfl,w,he,q⟩:=h;obtain⟨t,rfl⟩:=g;obtain⟨r,rfl⟩:=f;obtain⟨j,e,p,C,o,n⟩:=sF he;have m:z.cps.toList.length=z.length:=by simp[Str.length]
 rw[m]at e o n;have A:=qQ;exact tail_any (typeIs_str s z t) slot_str_getitem.lookup (getItem_str (c:=c) (by
  rw[(ZS (by lia)),(ZS (by lia)),Bool.or_false]) (by rw[e];simpa using p) ⟨.str ⟨#[c]⟩,H,I.tok _,⟨_,rfl⟩,q⟩) l
def rIx(K:X2):R2:=λx y H Q=>IU K x y H Q\/Iy K x y H Q\/Jo x y H Q
def kg:Mf X (rIx X.K):=wt.or (Gk.or G0)
def ve(d:Vz)(n j:Nat)(u:PP):Obj.mapSeq (·.setIfInBounds j u) { cls:=.type "list",data:=.seq d.toArray n }={ cls:=.type "list",data:=.seq (d.set j u).toArray n }:=by
 simp[Obj.mapSeq]
theorem Inv.lst{H:Hp}(I:Inv X d O H s)(h:H p=Y (.lst g)) :
  ∃(f:Vz)(n:Nat),aP g f/\s.heap.get? p=Y { cls:=.type "list",data:=.seq f.toArray n }/\g.length<=sizeLine:=by
 obtain⟨z,f,n,r,e⟩:=I.Kd p _ h;exact⟨f,n,r,e,z⟩
def Inv.Rx{l g:Vz}(I:Inv X d O H s)(h:H p=Y (.lst o))(w:s.heap.get? p=Y { cls:=.type "list",data:=.seq l.toArray n })(m:f { cls:=.type "list",data:=.seq l.toArray n }={ cls:=.type "list",data:=.seq g.toArray j })(r:aP i g)(v:i.length<=KM)(t:Nat) :
  Inv X d O (upd H p (.lst i)) { s with heap:=s.heap.update p f,toks:=t }:=by
 have e:(s.heap.update p f).get? p=Y { cls:=.type "list",data:=.seq g.toArray j }:=by
  rw[WQ f w (by rw[m]<;>rfl),m]
 refine I.write (x:=p) (e:=p) (by rw[h];trivial) (.inl L) (λb u hb q=>(VW _ _ (Y4 hb)).trans q) ⟨_,e⟩ ?_;exact⟨v,g,j,r,e⟩
def EU:V->V->V->Hp->(Hp->Prop)->Prop:=λo i v H Q=>∃p d k j,o=.ref p/\i=.int k/\H p=Y (.lst d)/\RA d.length k=Y j/\Q (upd H p (.lst (d.set j v)))
def set_list:Gq X EU:=by
 intro l s O H o i v P iv u Q I D E C h;refine L2.ai λU F=>?_;obtain⟨p,N,k,j,rfl,rfl,w,L,q⟩:=h;cases D;obtain⟨t,rfl⟩:=E;obtain⟨m,n,r,e,G⟩:=I.lst w;obtain⟨d,S,y,x⟩:=wC L;refine F ?_;have f:=r.length;have R:=qQ;have A :=
  I.Rx w e (ve m n j u) (r.set C j) (by rw[Yi];exact G) s.toks
 by_cases z:0<=k
 ·have g:k.toNat=j:=by
   rw[seqIndex_of z x]at d;exact Zl d
  exact PySem.W.ki_setAt e z (by lia) (by rw[ZE,← f];exact x) (by rw[g];exact⟨_,A,q⟩)
 ·have g:(k+(m.toArray.size:Int)).toNat=j:=by
   rw[seqIndex_neg (by lia) y]at d;rw[ZE,← f];exact Zl d
  exact PySem.W.ki_setBack e (by lia) (by rw[ZE,← f];exact y) (by lia) (by rw[g];exact⟨_,A,q⟩)
def ON(a:Int)(n:Nat):max 0 (min a (n:Int))=((min a.toNat n:Nat):Int):=by
 cases a with
 |ofNat k =>
  show max 0 (min (k:Int) (n:Int))=((min k n:Nat):Int);rcases Nat.le_total k n with h | h
  ·rw[Int.min_eq_left (Int.ofNat_le.mpr h),YV h];exact Int.max_eq_right (WD _)
  ·rw[Int.min_eq_right (Int.ofNat_le.mpr h),Vy h];exact Int.max_eq_right (WD _)
 |negSucc k =>
  rw[Int.min_eq_left (Int.le_trans (Int.le_of_lt (Int.negSucc_lt_zero k)) (WD n)),Int.max_eq_left (Int.le_of_lt (Int.negSucc_lt_zero k))];show (0:Int)=((min 0 n:Nat):Int);rw[Nat.zero_min];rfl
def rM(d e:Option Int)(n:Nat):(sliceBounds d e J n).1=((HT.Lj n 0 d:Nat):Int)/\(sliceBounds d e J n).2.1=((HT.Lj n n e:Nat):Int)/\(sliceBounds d e J n).2.2=1:=by
 refine⟨?_,?_,rfl⟩
 ·cases d with
  |none=>simp[sliceBounds,HT.Lj]
  |some i =>
   simp only[sliceBounds,HT.Lj,Option.getD_none,show (1:Int) > 0 by decide,if_true];by_cases h:i<0
   ·simp only[h,if_true];rw[ON,YV (by omega)]
   ·simp only[h,if_false];exact ON i n
 ·cases e with
  |none=>simp[sliceBounds,HT.Lj]
  |some i =>
   simp only[sliceBounds,HT.Lj,Option.getD_none,show (1:Int) > 0 by decide,if_true];by_cases h:i<0
   ·simp only[h,if_true];rw[ON,YV (by omega)]
   ·simp only[h,if_false];exact ON i n
def pI(d:Vz)(e f:Option Int):slicePick d.toArray e f J=((d.drop (HT.Lj d.length 0 e)).take (HT.Lj d.length d.length f-HT.Lj d.length 0 e)).toArray:=by
 obtain⟨i,h,g⟩:=rM e f d.toArray.size;unfold slicePick;rw[i,h,g];simp only[sliceRange_one,pick_run,ZE]<;>rfl
def IV(K:X2):V->Option Int->Option Int->Hp->VK->Prop:=λx lo e H Q=>∃a d,x=.ref a/\Kt K H a d/\∀p,H p=J->Q (.ref p) (upd H p (.lst (AW d lo e)))
def DO:QZ X (IV X.K):=by
 intro e s O H x v p o lo g u Q I i n j pu h;obtain⟨a,d,rfl,m,q⟩:=h;cases i;obtain⟨y,r,f,l⟩:=I.list m;have hlen:=r.length;refine⟨"list",_,slot_list_getitem.lookup,f.isList.typeIs,?_⟩;refine wpAny_getItem_list_slice f.isList n j pu .none (by simp) ?_ (by rw[ZE]<;>lia);rw[pI,← hlen];refine⟨.ref s.heap.objs.size,_,I.laid (λb w q=>Zj _ q) (Zn _) ?_,rfl,q _ (I.Kd.fresh (Zn _))⟩;exact⟨ZR (tM d lo g) l,_,0,(r.drop (HT.Lj d.length 0 lo)).take (HT.Lj d.length d.length g-HT.Lj d.length 0 lo),ZK _ L⟩
noncomputable def gK:V->Bool
 |.non=>M
 |.bl _=>M
 |.int _=>M
 |.str _=>M
 |_=>B
noncomputable def Pu:V->V->Bool
 |.non,.non=>M
 |.bl a,.bl b=>a==b
 |.bl a,.int b=>(if a then 1 else 0)==b
 |.int a,.bl b=>a==(if b then 1 else 0)
 |.int a,.int b=>a==b
 |.str a,.str b=>a==b
 |_,_=>B
def Hx(f:RelV y u)(d:RelV x v)(h:gK y=M)(g:gK x=M):SeqAt.EqAt A s u v (Pu y x):=by
 cases y with
 |non =>
  cases f;cases x with
  |non=>cases d;exact SeqAt.EqAt.same _
  |bl b=>cases d;exact SeqAt.EqAt.none_bool b
  |int b=>obtain⟨t,rfl⟩:=d;exact SeqAt.EqAt.none_int b t
  |str b=>obtain⟨t,rfl⟩:=d;exact SeqAt.EqAt.none_str b t
  |_=>exact absurd (g) Zh
 |bl a =>
  cases f;cases x with
  |non=>cases d;exact SeqAt.EqAt.bool_none a
  |bl b=>cases d;exact SeqAt.EqAt.bool_bool a b
  |int b=>obtain⟨t,rfl⟩:=d;exact SeqAt.EqAt.bool_int a b t
  |str b=>obtain⟨t,rfl⟩:=d;exact SeqAt.EqAt.bool_str a b t
  |_=>exact absurd (g) Zh
 |int a =>
  obtain⟨e,rfl⟩:=f;cases x with
  |non=>cases d;exact SeqAt.EqAt.int_none a e
  |bl b=>cases d;exact SeqAt.EqAt.int_bool a e b
  |int b=>obtain⟨t,rfl⟩:=d;exact SeqAt.EqAt.int_int a e b t
  |str b=>obtain⟨t,rfl⟩:=d;exact SeqAt.EqAt.int_str a e b t
  |_=>exact absurd (g) Zh
 |str a =>
  obtain⟨e,rfl⟩:=f;cases x with
  |non=>cases d;exact SeqAt.EqAt.str_none a e
  |bl b=>cases d;exact SeqAt.EqAt.str_bool a e b
  |int b=>obtain⟨t,rfl⟩:=d;exact SeqAt.EqAt.str_int a e b t
  |str b=>obtain⟨t,rfl⟩:=d;exact SeqAt.EqAt.str_str a e b t
  |_=>exact absurd (g) Zh
 |_=>exact absurd (h) Zh
def NL(x:V)(u:PP):Bool:=match u with
 |.none=>Pu .non x
 |.bool b=>Pu (.bl b) x
 |.int i _=>Pu (.int i) x
 |.str z _=>Pu (.str z) x
 |_=>B
def Ae(r:RelV y u)(f:gK y=M):NL x u=Pu y x:=by
 cases y with
 |non=>cases r;rfl
 |bl b=>cases r;rfl
 |int i=>obtain⟨t,rfl⟩:=r;rfl
 |str z=>obtain⟨t,rfl⟩:=r;rfl
 |_=>exact absurd (f) Zh
theorem lH:∀{d:List V}{e:Vz},aP d e->d.all gK=M->e.any (NL x)=d.any λy=>Pu y x
 |_,_,.nil,_=>rfl
 |y :: d,u :: e,.cons r t,f=>by
  rw[Xe,Yj]at f;rw[YK,YK,Ae r f.1,lH t f.2]
theorem i4(h:RelV x v)(i:gK x=M):∀{e:List V}{g:Vz},aP e g->e.all gK=M->∀u∈g,SeqAt.EqAt A s u v (NL x u)
 |_,_,.nil,_=>λu d=>by cases d
 |y :: e,u :: g,.cons r t,f=>λj d=>by
  rw[Xe,Yj]at f;rcases Zi.mp d with rfl | d
  ·rw[Ae r f.1];exact Hx r h f.1 i
  ·exact i4 h i t f.2 j d
def TH(x:V)(d:List V):Bool:=d.any λy=>Pu y x
def UT(K:X2)(e:Bool):R2:=λx y H Q=>∃p d,y=.ref p/\(Kt K H p d\/LF K H p d)/\gK x=M/\d.all gK=M/\Q (.bl (if e then !TH x d else TH x d)) H
def zd:OpR X (UV .In) (UT X.K B):=by
 intro i s O H x y v u Q I g l h;obtain⟨p,n,rfl,e,j,fs,q⟩:=h;cases l;rcases e with e | e
 ·obtain⟨d,r,f,m⟩:=I.list e;refine SeqAt.in_listAt (NL x) f.isList (λw hw=>i4 g j r fs w (by simpa using hw)) ⟨.bl _,H,I,rfl,?_⟩;rw[show d.toArray.any (NL x)=d.any (NL x) by simp,lH r fs];exact q
 ·obtain⟨d,r,f,m⟩:=I.tuple e;refine SeqAt.in_tupleAt (NL x) f (λw hw=>i4 g j r fs w (by simpa using hw)) ⟨.bl _,H,I,rfl,?_⟩;rw[show d.toArray.any (NL x)=d.any (NL x) by simp,lH r fs];exact q
def sE:OpR X (UV .NotIn) (UT X.K M):=by
 intro i s O H x y v u Q I g l h;obtain⟨p,n,rfl,e,j,fs,q⟩:=h;cases l;rcases e with e | e
 ·obtain⟨d,r,f,m⟩:=I.list e;refine SeqAt.notIn_listAt (NL x) f.isList (λw hw=>i4 g j r fs w (by simpa using hw)) ⟨.bl _,H,I,rfl,?_⟩;rw[show d.toArray.any (NL x)=d.any (NL x) by simp,lH r fs];exact q
 ·obtain⟨d,r,f,m⟩:=I.tuple e;refine SeqAt.notIn_tupleAt (NL x) f (λw hw=>i4 g j r fs w (by simpa using hw)) ⟨.bl _,H,I,rfl,?_⟩;rw[show d.toArray.any (NL x)=d.any (NL x) by simp,lH r fs];exact q
def dw.or(h:dw X f r)(j:dw X f i):dw X f (λe H Q=>r e H Q\/i e H Q):=by
 intro d s O H e g Q I rs q;rcases q with q | q
 ·exact h d s O H e g Q I rs q
 ·exact j d s O H e g Q I rs q
def rK:dw X (.type "list") (λC H Q=>∃p g,C=[.ref p]/\(Kt X.K H p g\/LF X.K H p g)/\∀l,H l=J->Q (.ref l) (upd H l (.lst g))):=by
 intro m s O H C F Q I r h;obtain⟨p,g,rfl,x,q⟩:=h;obtain⟨u,rfl,E⟩:=vals1 r;cases E;have fin:∀(f:Vz),aP g f->g.length<=KM->∀(d:XAA)(j:Nat),(∀b D,s.heap.get? b=Y D->d.get? b=Y D) →
   d.get? s.heap.objs.size=Y { cls:=.type "list",dict:=J,data:=.seq f.toArray j,slots:=#[] }->EP X m O Q (.ref s.heap.objs.size) { s with heap:=d }:=λf i v d j kp e =>
  ⟨.ref s.heap.objs.size,_,I.laid kp (Zn _) (show du X.prog X.w _ d _ (.lst g) from⟨v,f,j,i,e⟩),rfl,q _ (I.Kd.fresh (Zn _))⟩
 rcases x with x | x
 ·obtain⟨f,i,y,v⟩:=I.list x;have hlen:=i.length;obtain⟨o,z,A,n,hd⟩:=y.isList;exact call_list_seq p (.inl L) z A hd (λd j kp e=>fin f i v d j kp e) (by simp only[ZE]<;>lia)
 ·obtain⟨f,i,y,v⟩:=I.tuple x;have hlen:=i.length;obtain⟨o,z,A,n,hd⟩:=y;exact call_list_seq p (.inr L) z A hd (λd j kp e=>fin f i v d j kp e) (by simp only[ZE]<;>lia)
def pJ:dw X (.type "tuple") (λj H Q=>∃p d,j=[.ref p]/\((Kt X.K H p d/\∀l,H l=J->Q (.ref l) (upd H l (.tup d)))\/(LF X.K H p d/\Q (.ref p) H))):=by
 intro m s O H j A Q I r h;obtain⟨p,d,rfl,h⟩:=h;obtain⟨u,rfl,y⟩:=vals1 r;cases y;rcases h with⟨i,q⟩ | ⟨i,q⟩
 ·obtain⟨n,f,g,v⟩:=I.list i;have hlen:=f.length;refine call_tuple_list g.isList (λz kp=>?_) (by simp only[ZE]<;>lia);have x:=I.kept (t':=s.toks) kp;exact⟨.ref z.objs.size,_,(x.laid (t':=s.toks) (λb o e=>Zj _ e) (Zn _) (show du X.prog X.w _ _ _ (.tup d) from⟨v,n,f,Qv.new _ _,IsTup.new _ _⟩)),rfl,q _ (x.Kd.fresh (Zn _))⟩
 ·obtain⟨n,f,g,v⟩:=I.tuple i;exact call_tuple_same g ⟨.ref p,H,I,rfl,q⟩
def QA(K:X2)(T:String)(x:V)(H:Hp):Prop:=match x with
 |.str _=>T = "str"
 |.int _=>T = "int"
 |.ref p=>(T = "list" ∧ ∃e,Kt K H p e)\/(T = "tuple" ∧ ∃o,K.lookup p=Y o/\o.cls=.type "tuple" ∧ o.dict=J) ∨
   (T = "dict" ∧ ((∃d,H p=Y (.dK d))\/∃d,H p=Y (.dT d)))\/(T = "set" ∧ ∃S n,H p=Y (.set S n))
 |_=>False
def GX(I:Inv X f O H s)(r:RelV x v)(g:QA X.K T x H) :
  s.TypeIs v T/\∀a,v=.ref a->∃j,s.heap.get? a=Y j/\j.dict=J:=by
 cases x with
 |str z =>
  obtain⟨t,rfl⟩:=r;cases (g);exact⟨typeIs_str s z t,λ_ e=>nomatch e⟩
 |int i =>
  obtain⟨t,rfl⟩:=r;cases (g);exact⟨typeIs_int s i t,λ_ e=>nomatch e⟩
 |ref p =>
  cases r;rcases g with⟨rfl,u,l⟩ | ⟨rfl,o,d,m,hd⟩ | ⟨rfl,d⟩ | ⟨rfl,S,n,d⟩
  ·obtain⟨w,_,h,_⟩:=I.list l;refine⟨h.isList.typeIs,λa e=>?_⟩;cases e;obtain⟨o,n,e,c,hd,_⟩:=h;exact⟨o,e,hd⟩
  ·refine⟨⟨o,I.LZ p o d,m⟩,λa e=>?_⟩;cases e;exact⟨o,I.LZ _ o d,hd⟩
  ·have z:∃o,s.heap.get? p=Y o/\o.ExactDict:=by
    rcases d with⟨q,d⟩ | ⟨q,d⟩
    ·obtain⟨_,_,_,_,o,_,_,e,ex,_⟩:=I.Kd p _ d;exact⟨o,e,ex⟩
    ·obtain⟨_,_,_,_,o,_,_,e,ex,_⟩:=I.Kd p _ d;exact⟨o,e,ex⟩
   obtain⟨o,e,ex⟩:=z;refine⟨⟨o,e,ex.1⟩,λa e2=>?_⟩;cases e2;exact⟨o,e,ex.2.1⟩
  ·obtain⟨o,_,_,_,e,ex,_⟩:=I.Kd p _ d;refine⟨⟨o,e,ex.1⟩,λa e2=>?_⟩;cases e2;exact⟨o,e,ex.2.1⟩
 |_=>exact False.elim g
def tBM(K:X2)(T:String)(r:V->List V->Hp->VK->Prop)(f:TE)(t:TA):TE:=λO H Q=>f O H λx d=>QA K T x d/\t O d λe g=>r x e g Q
def qk{X:Cx}{o:Expr}{es:List Expr}{to:TE}{t:TA}{name:Str}{apos oe:Pos}{T id:String}{r:V->List V->Hp->VK->Prop}(u:PlainAttrs T)(f:Slot T name id)(E:typeOf (.builtin id)=pure (.type "method_descriptor"))(z:UH X id r)(y:PE X o to)(A:PA X (e :: es) t)(F:{`q3,XAC o name X.env (eval o X.env)=eval o X.env})(P:{`q3,((backTo oe (P3 (e :: es) X.env)).all (λx=>!x.1)&&(backToKw oe (SZ [] X.env)).all (λx=>x.1.isSome)
   && decide ((e :: es).length+([]:List Keyword).length+(if ([]:List Keyword).isEmpty then 0 else 1)<30))=M})(G:{`q3,(apos.endLine==oe.line)=M})(w:{`q3,K1 e es X})(N:{`q3,K2 oe es X}) :
  PE X (.Call (.Attribute o name apos) (e :: es) [] oe) (tBM X.K T r to t):=by
 intro d s O H Q I h;refine wpAny_Call_method_late F P G L (thn (y d s O H _ I h) λv s1 g=>?_);obtain⟨x,U,j,r1,ty,q⟩:=g;obtain⟨D,C⟩:=GX j r1 ty;refine⟨T,id,u,f,E,D,C,?_⟩;have i:=A oe d s1 O U _ j q;rw[w]at i ⊢;refine Calls.callWith_builtin (by show (B||(backTo oe (P3 es X.env)).any (·.1))=B;rw[N]<;>rfl) (Calls.evalArgs_plain ?_);refine thn i λm n g=>?_;obtain⟨l,S,R,r2,p⟩:=g;exact z d n O S x l v m Q R r1 r2 p
end
def MtM(X:Cx)(e:String)(r:V->List V->Hp->VK->Prop):Prop :=
 ∀(a:Km)(s:KB)(O:St)(H:Hp)(x:V)(b:List V)(v:PP)(d:Vz)(Q:VK),Inv X a O H s->RelV x v->aP b d->r x b H Q →
  Pi (KF X.prog X.w) X.A (call (.builtin e) (v :: d)) (EP X a O Q) X.xe s
def aP.nil_inv(h:aP [] a):a=[]:=by
 cases h;rfl
def aP.cons_inv(h:aP (x :: a) d):∃u b,d=u :: b/\RelV x u/\aP a b:=by
 cases h with
 |cons r t=>exact⟨_,_,rfl,r,t⟩
def aP.one(h:aP [x] a):∃u,a=[u]/\RelV x u:=by
 obtain⟨u,b,rfl,r,t⟩:=h.cons_inv;rw[t.nil_inv];exact⟨_,rfl,r⟩
section
variable{H:Hp}
def Inv.lset{d a:Vz}(I:Inv X pins O H s)(o:H l=Y (.lst xs))(e:s.heap.get? l=Y { cls:=.type "list",data:=.seq d.toArray n })(m:f d.toArray=a.toArray)(i:aP ys a)(h:ys.length<=KM) :
  Inv X pins O (upd H l (.lst ys)) { s with heap:=s.heap.update l (Obj.mapSeq f),toks:=g }:=by
 have q:=PySem.IsL.update e f;rw[m]at q;refine I.write (x:=l) (e:=l) (by rw[o];exact trivial) (.inl L) (λp u hb j=>(VW s.heap (Obj.mapSeq f) (Y4 hb)).trans j) ⟨_,q⟩ ?_;exact⟨h,a,_,i,q⟩
def Inv.lnew(I:Inv X pins O H s)(f:aP ys a)(e:ys.length<=KM) :
  Inv X pins O (upd H s.heap.objs.size (.lst ys)) { s with heap:=s.heap.push { cls:=.type "list",data:=.seq a.toArray },toks:=d } :=
 I.laid (λ_ _ q=>Zj _ q) (Zn _) ⟨e,a,0,f,ZK _ L⟩
theorem Inv.fresh(I:Inv X pins O H s):H s.heap.objs.size=J:=I.Kd.fresh (Zn _)
def Inv.Ry(I:Inv X pins O H s)(d:H l=Y (.lst xs)):xs.length<=KM/\∃(a:Vz)(n:Nat),aP xs a/\xs.length=a.length/\s.heap.get? l=Y { cls:=.type "list",data:=.seq a.toArray n }:=by
 obtain⟨z,a,n,r,e⟩:=I.Kd l _ d;exact⟨z,a,n,r,r.length,e⟩
end
section
def xg:V->List V->Hp->VK->Prop:=λx b H Q=>∃l a y,x=.ref l/\b=[y]/\H l=Y (.lst a)/\a.length<KM/\Q .non (upd H l (.lst (a++[y])))
def iw:MtM X "list.append" xg:=by
 intro a s O H x p v w Q I d f h;refine L2.ai λC i=>?_;obtain⟨l,o,y,rfl,rfl,b,m,q⟩:=h;cases d;obtain⟨u,rfl,g⟩:=f.one;obtain⟨z,j,n,r,A,e⟩:=I.Ry b;refine i ?_;refine call_meets F.slot_list_append ⟨_,e,rfl⟩ F.entry_list_append (F.args_list_append_2 _ _) (PySem.list_append l j.toArray n u (by rw[ZE];lia)) ⟨e,?_⟩;refine⟨.non,_,I.lset b e (by simp) (r.append (.cons g .nil)) ?_,rfl,q⟩;rw[Zs,NN];exact Nat.succ_le_of_lt m
def Ih:R2:=λx y H Q=>∃l b d a,x=.ref l/\y=.ref b/\H l=Y (.lst d)/\H b=Y (.lst a)/\d.length+a.length<=KM/\∀p,H p=J->Q (.ref p) (upd H p (.lst (d++a)))
def GL:OpR X (binaryOp .Add) Ih:=by
 intro a s O H x y v u Q I i g h;refine L2.ai λG j=>?_;obtain⟨l,b,C,w,rfl,rfl,m,o,E,q⟩:=h;cases i;cases g;obtain⟨z,d,n,r,F,e⟩:=I.Ry m;obtain⟨A,f,D,r2,L,e2⟩:=I.Ry o;refine j ?_;refine PySem.P.add_list e e2 ?_ (by rw[ZE,ZE];lia);have p:d.toArray++f.toArray=(d++f).toArray:=by simp
 rw[p];exact⟨.ref _,_,I.lnew (r.append r2) (by rw[Zs];omega),rfl,q _ I.fresh⟩
def len_rep{α:Type}(a:List α)(k:Nat):(List.replicate k a).flatten.length=k*a.length:=by
 induction k with
 |zero=>simp
 |succ k b=>rw[X9,ZG,Zs,b,Nat.succ_mul,WK]
end
section
set_option maxRecDepth 100000 in
end
section
variable{κ:Type}[DecidableEq κ]
noncomputable def eW(b:List (κ×V))(k:κ):Option V:=(b.find? λa=>decide (a.1=k)).map (·.2)
noncomputable def putK(b:List (κ×V))(k:κ)(v:V):List (κ×V) :=
 if (b.any λa=>decide (a.1=k))=M then b.map (λa=>if a.1=k then (a.1,v) else a) else b++[(k,v)]
def jh{p:κ×V}(e:p.1=k):eW (p :: r) k=Y p.2:=by simp[eW,Yh,e]
def n8{p:κ×V}(e:¬p.1=k):eW (p :: r) k=eW r k:=by simp[eW,Yh,e]
theorem tU(k:κ):∀a:List (κ×V),(a.any λb=>decide (b.1=k))=(eW a k).isSome
 |[]=>rfl
 |p :: r=>by
  rw[YK];by_cases e:p.1=k
  ·simp only[jh e,decide_eq_true e,Bool.true_or,Option.isSome_some]
  ·rw[n8 e,ZS e,Bool.false_or];exact tU k r
def gQ(a:List (κ×V))(k:κ)(v:V):(putK a k v).length<=a.length+1:=by
 unfold putK;split
 ·rw[Zw];exact Zd _ _
 ·rw[Zs,Zf,List.length_nil];exact Zn _
def iZ.K8(r:iZ o u):o.isSome=u.isSome:=by
 cases o with
 |none=>cases u with
  |none=>rfl
  |some _=>exact(r).elim
 |some _=>cases u with
  |none=>exact(r).elim
  |some _=>rfl
theorem iZ.getD{o:Option V}(r:iZ o u)(b:RelV d a):RelV (o.getD d) (u.getD a):=by
 cases o with
 |none=>cases u with
  |none=>exact b
  |some _=>exact(r).elim
 |some _=>cases u with
  |none=>exact(r).elim
  |some _=>exact r
def KV.val(r:KV g d)(k:κ):iZ (eW g k) (valueAt d k):=by
 induction r with
 |nil=>exact True.intro
 |@cons p q ps a h t i =>
  obtain⟨f,j⟩:=h;by_cases e:p.1=k
  ·have b:valueAt (q :: a) k=Y q.2:=by simp[valueAt,Yh,(f.symm.trans e)]
   rw[jh e,b];exact j
  ·have l:¬q.1=k:=λz=>e (f.trans z);have b:valueAt (q :: a) k=valueAt a k:=by simp[valueAt,Yh,l]
   rw[n8 e,b];exact i
theorem KV.any(r:KV d b)(k:κ):(d.any λa=>decide (a.1=k))=b.any λa=>decide (a.1=k):=by
 induction r with
 |nil=>rfl
 |cons h t e=>rw[YK,YK,e,h.1]
def KV.Rq(r:KV f d)(k:κ)(g:RelV y u) :
  KV (f.map λa=>if a.1=k then (a.1,y) else a) (d.map λa=>if a.1=k then (a.1,u) else a):=by
 induction r with
 |nil=>exact .nil
 |@cons p q ps l h t i =>
  rw[Zm,Zm];refine .cons ?_ i;obtain⟨b,j⟩:=h;by_cases e:p.1=k
  ·rw[Zp e,Zp (b.symm.trans e)];exact⟨b,g⟩
  ·rw[Zo e,Zo (λz=>e (b.trans z))];exact⟨b,j⟩
def KV.put(r:KV d a)(k:κ)(b:RelV y u):KV (putK d k y) (stored a k u):=by
 unfold putK stored;rw[r.any k];by_cases e:(a.any λf=>decide (f.1=k))=M
 ·rw[Zp e,Zp e];exact r.Rq k b
 ·rw[Zo e,Zo e];exact Paired.snoc r ⟨rfl,b⟩
def KV.keys{b:List (κ×V)}{a:List (κ×PP)}(r:KV b a):b.map (·.1)=a.map (·.1):=by
 induction r with
 |nil=>rfl
 |cons h t d=>rw[Zm,Zm,d,h.1]
theorem KV.length{b:List (κ×V)}(r:KV b a):b.length=a.length:=Wp r
end
def mL(r:RelV (kV k) u):(aS P w).is k u=M:=by
 cases k with
 |inl i=>obtain⟨t,e⟩:=(r);subst e;exact uL P w i t
 |inr x=>obtain⟨t,e⟩:=(r);subst e;exact uv P w x t
def Hm(e:kV a=kV b):a=b:=by
 cases a with
 |inl i=>cases b with
  |inl j=>have d:=e;injection d with d;rw[d]
  |inr y=>exact nomatch (e)
 |inr x=>cases b with
  |inl j=>exact nomatch (e)
  |inr y=>have d:=e;injection d with d;rw[d]
theorem rX:∀{a b:List Key},a.map kV=b.map kV->a=b
 |[],[],_=>rfl
 |[],_ :: _,e=>by simp at e
 |_ :: _,[],e=>by simp at e
 |x :: f,y :: d,e=>by
  rw[Zm,Zm]at e;injection e with e1 e2
  rw[Hm e1,rX e2]
theorem lZ:∀{a:List Key}{b:Vz},aP (a.map kV) b->ItemsAre (aS P w) a b
 |[],_,r=>by rw[List.map_nil]at r;cases r;exact .nil
 |k :: a,_,r=>by
  rw[Zm]at r;cases r with
  |cons h t=>exact .cons (mL h) (lZ t)
abbrev KT(H:Hp):List (List Key×V)->List (List Key×On×PP)->Prop:=Paired λp q=>p.1=q.1/\H q.2.1=Y (.tup (p.1.map kV))/\RelV p.2 q.2.2
def KT.val(r:KT H g d)(k:List Key):iZ (eW g k) ((atKey d k).map (·.2)):=by
 induction r with
 |nil=>exact True.intro
 |@cons p q ps a h t i =>
  obtain⟨f,_,j⟩:=h;by_cases e:p.1=k
  ·have b:atKey (q :: a) k=Y q.2:=by simp[atKey,Yh,(f.symm.trans e)]
   rw[jh e,b];exact j
  ·have l:¬q.1=k:=λz=>e (f.trans z);have b:atKey (q :: a) k=atKey a k:=by simp[atKey,Yh,l]
   rw[n8 e,b];exact i
def KT.Rq(r:KT H g d)(k:List Key)(i:RelV y u) :
  KT H (g.map λb=>if b.1=k then (b.1,y) else b) (d.map (putAt k u)):=by
 induction r with
 |nil=>exact .nil
 |@cons p q ps m h t j =>
  rw[Zm,Zm];refine .cons ?_ j;obtain⟨a,f,l⟩:=h;unfold putAt;by_cases e:p.1=k
  ·rw[Zp e,Zp (a.symm.trans e)];exact⟨a,f,i⟩
  ·rw[Zo e,Zo (λz=>e (a.trans z))];exact⟨a,f,l⟩
def KT.put(r:KT H d a)(k:List Key)(h:H b=Y (.tup (k.map kV)))(f:RelV y u) :
  KT H (putK d k y) (storedH a k b u):=by
 have e:(d.any λg=>decide (g.1=k))=(atKey a k).isSome:=by
  rw[tU,(r.val k).K8,Xj]
 unfold putK storedH;rw[e];by_cases q:(atKey a k).isSome=M
 ·rw[Zp q,Zp q];exact r.Rq k f
 ·rw[Zo q,Zo q];exact Paired.snoc r ⟨rfl,h,f⟩
def KT.keeps(r:KT H e d)(g:∀b a,H b=Y (.tup a)->f b=Y (.tup a)):KT f e d :=
 Paired.PK r λ_ _ z=>⟨z.1,g _ _ z.2.1,z.2.2⟩
section
variable{H:Hp}
def EC(b:LA P w H h)(e:Rd H a u):du P w H h a u:=e.ok b
def mN(f:LA P w H h)(e:Rd H a (.dK b)):b.length<=KM/\(a==sysModules)=B/\∃d,KV b d/\h.DictOf (aS P w) a d :=
 EC f e
def uu(f:LA P w H h)(e:H a=Y (.dK b)):b.length<=KM/\(a==sysModules)=B/\∃d,KV b d/\h.DictOf (aS P w) a d:=mN f (.inl e)
def dg{b:List Key}(d:LA P w H h)(e:H a=Y (.tup (b.map kV))):(tupleKind (aS P w)).is h b a:=by
 obtain⟨_,f,r,_,o,j,i,n,g⟩:=(d a _ e)
 exact⟨o,f.toArray,n,j,i,g,by simpa using lZ r⟩
def oM(g:LA P w H h)(e:Rd H a (.dT f)):f.length<=KM/\(a==sysModules)=B ∧
  ∃d,KT H f d/\h.DictOfH (tupleKind (aS P w)) a d:=by
 refine L2.ai λG j=>?_;obtain⟨z,y,d,r,o,D,E,C,A,v,u,s⟩:=(EC g e)
 refine j ?_;refine⟨z,y,d,r,o,D,E,C,A,v,u,λx b=>?_,s⟩;have all:∀{l:List (List Key×V)}{m:List (List Key×On×PP)},KT H l m->∀x∈m,(tupleKind (aS P w)).is h x.1 x.2.1:=by
  intro l m q
  induction q with
  |nil=>intro x b;exact nomatch b
  |@cons p q ps F i t n =>
   intro x b;rcases Zi.mp b with e | b
   ·subst e;exact dg g (by rw[← i.1];exact i.2.1)
   ·exact n x b
 exact all r x b
def Jz(f:LA P w H h)(e:H a=Y (.dT b)):b.length<=KM/\(a==sysModules)=B ∧
  ∃d,KT H b d/\h.DictOfH (tupleKind (aS P w)) a d:=oM f (.inl e)
end
def fK(H:Hp)(a:On)(y:V)(r:Option V):Prop :=
 (∃d k,Rd H a (.dK d)/\y=kV k/\r=eW d k)\/∃d k b,Rd H a (.dT d)/\y=.ref b/\H b=Y (.tup (k.map kV))/\r=eW d k
def vv(H:Hp)(a:On)(y v:V)(e:Hp):Prop :=
 (∃d k,H a=Y (.dK d)/\y=kV k/\d.length<KM/\e=upd H a (.dK (putK d k v))) ∨
 ∃d k b,H a=Y (.dT d)/\y=.ref b/\H b=Y (.tup (k.map kV))/\d.length<KM/\e=upd H a (.dT (putK d k v))
theorem fK.k{a:On}{b:List (Key×V)}{k:Key}(e:H a=Y (.dK b)):fK H a (kV k) (eW b k):=.inl ⟨b,k,.inl e,rfl,rfl⟩
def fK.t{k:List Key}(e:H a=Y (.dT d))(f:H b=Y (.tup (k.map kV))):fK H a (.ref b) (eW d k):=.inr ⟨d,k,b,.inl e,rfl,f,rfl⟩
theorem vv.k{a:On}{b:List (Key×V)}{k:Key}{v:V}(e:H a=Y (.dK b))(d:b.length<KM):vv H a (kV k) v (upd H a (.dK (putK b k v))):=.inl ⟨b,k,e,rfl,d,rfl⟩
section
variable{H:Hp}
def Inv.big(I:Inv X pins O H s):sysModules<s.heap.objs.size:=by
 exact X4 (by decide) ((I.mod.glob.keeps I.bk).lt)
def yz{A:SC}(q:A.units+1<cLine)(I:Inv X pins O H s)(g:fK H a y (Y v))(n:RelV y u)(h:∀d m,Inv X pins O H m->RelV v d->Q d m) :
  Pi (KF X.prog X.w) A (getItem (.ref a) u) Q E s:=by
 rcases g with⟨D,k,e,f,l⟩ | ⟨D,k,b,e,f,C,l⟩
 ·subst f;obtain⟨z,hd,L,rel,i⟩:=mN I.Kd e;obtain⟨d,hw,j⟩:=iZ.some_of (v:=v) (by rw[l];exact rel.val k);exact wpAny_getItem_of (mL n) i.mapOf hw (h d _ (I.tok _) j)
 ·subst f;cases (n);obtain⟨z,hd,G,rel,i⟩:=oM I.Kd e;obtain⟨d,hw,j⟩:=iZ.some_of (v:=v) (by rw[l];exact rel.val k);obtain⟨p,x,F⟩:=Zy.mp hw;refine wpAny_getItem_heap (XD q) (dg I.Kd C) i x ?_;rw[F];exact h d _ (I.tok _) j
def J8{A:SC}(m:A.units+1<cLine)(I:Inv X pins O H s)(g:fK H a y o)(j:RelV y u)(h:∀i,Inv X pins O H i->Q (.bool o.isSome) i) :
  Pi (KF X.prog X.w) A (UV .In u (.ref a)) Q E s:=by
 rcases g with⟨p,k,e,d,l⟩ | ⟨p,k,b,e,d,n,l⟩
 ·subst d;obtain⟨z,hd,C,rel,f⟩:=mN I.Kd e;refine wpAny_in_of (mL j) hd f.mapOf ?_;rw[← (rel.val k).K8,← l];exact h _ (I.tok _)
 ·subst d;cases (j);obtain⟨z,hd,x,rel,f⟩:=oM I.Kd e;refine wpAny_in_heap (XD m) (dg I.Kd n) hd f ?_;have q:=(rel.val k).K8;rw[Xj]at q;rw[← q,← l];exact h _ (I.tok _)
def DB{A:SC}(m:A.units+1<cLine)(I:Inv X pins O H s)(g:fK H a y o)(j:RelV y u)(h:∀i,Inv X pins O H i->Q (.bool (!o.isSome)) i) :
  Pi (KF X.prog X.w) A (UV .NotIn u (.ref a)) Q E s:=by
 rcases g with⟨p,k,e,d,l⟩ | ⟨p,k,b,e,d,n,l⟩
 ·subst d;obtain⟨z,hd,C,rel,f⟩:=mN I.Kd e;refine wpAny_notIn_of (mL j) hd f.mapOf ?_;rw[← (rel.val k).K8,← l];exact h _ (I.tok _)
 ·subst d;cases (j);obtain⟨z,hd,x,rel,f⟩:=oM I.Kd e;refine wpAny_notIn_heap (XD m) (dg I.Kd n) hd f ?_;have q:=(rel.val k).K8;rw[Xj]at q;rw[← q,← l];exact h _ (I.tok _)
def nL(I:Inv X pins O H s)(i:Kn (H a))(j:Heap.SameBut a s.heap d)(he:∃q,d.get? a=Y q)(g:du X.prog X.w (upd H a f) d a f) :
  Inv X pins O (upd H a f) { s with heap:=d,toks:=h } :=
 I.write (x:=a) (e:=a) i (.inl L) (λb q hb z=>(j.2 b hb).trans z) he g
def qW{f:XAA}{e:List (Key×V)}(z:e.length<=KM)(g:(a==sysModules)=B)(d:KV e b)(h:f.DictOf (aS P w) a b) :
  du P w i f a (.dK e):=⟨z,g,b,d,h⟩
def yo{A:SC}{L:Hp}(P:A.units+1<cLine)(I:Inv X pins O H s)(g:vv H a y v L)(C:RelV y u)(D:RelV v r)(h:∀x,Inv X pins O L x->Q () x) :
  Pi (KF X.prog X.w) A (setItem (.ref a) u r) Q E s:=by
 rcases g with⟨p,k,e,j,l,m⟩ | ⟨p,k,b,e,j,G,l,m⟩
 ·subst j m;obtain⟨z,hd,vs,rel,n⟩:=uu I.Kd e;refine wpAny_setItem_pairs (hsz:=(by rw[← rel.length];exact z)) (mL C) n λh' f i=>h _ ?_;exact nL I (by rw[e];exact True.intro) i (let ⟨q,_,_,d,_⟩:=f;⟨q,d⟩) (qW (by have:=gQ p k v;lia) hd (rel.put k D) f)
 ·subst j m;cases (C);obtain⟨z,hd,xs,rel,n⟩:=Jz I.Kd e;refine wpAny_setItem_heap (hsz:=(by rw[← Wp rel];exact z)) (XD P) (dg I.Kd G) n λh' f i=>h _ ?_;refine L2.ai λP_ N=>?_;obtain⟨q,es,ep,d,Z,U,S,_,R⟩:=f;refine N ?_;refine nL I (by rw[e];exact True.intro) i ⟨q,d⟩ ⟨(by have:=gQ p k v;lia),hd,_,(rel.put k G D).keeps λc ys F=>?_,q,es,ep,d,Z,U,S,R⟩;rw[aD (IX F e (λz=>nomatch z))];exact F
end
section
variable{H:Hp}
def IZ(I:Inv X pins O H s)(e:Rd H a (.dK cp))(h:∀t b,Inv X pins O H b->Q (.int cp.length t) b):Pi (KF X.prog X.w) A (call (.builtin "len") [.ref a]) Q E s:=by
 obtain⟨z,hd,f,rel,d⟩:=mN I.Kd e;refine call_len_dict hd d (by rw[← rel.length];rw[Xb]at z;lia) ?_;rw[← rel.length];exact h _ _ (I.tok _)
end
def tV(I:Inv X d O H s)(g:fK H a y o):s.TypeIs (.ref a) "dict" := by
 rcases g with⟨h,k,e,_,_⟩ | ⟨h,k,b,e,_,_,_⟩
 ·obtain⟨_,_,j,_,f⟩:=mN I.Kd e;exact f.typeIs
 ·obtain⟨_,_,i,_,f⟩:=oM I.Kd e;exact f.typeIs
def vb{w:XAB}(h:XAA)(a:sysModules<h.objs.size):du P w H (h.push { cls:=.type "dict",data:=.dict #[] }) h.objs.size (.dK []) :=
 ⟨ZA _,beq_eq_false_iff_ne.mpr (Y4 (Za a)),[],.nil,Heap.DictOf.new h⟩
def FH:TE:=λ_ H Q=>∀p,H p=J->Q (.ref p) (upd H p (.dK []))
section
def BY:PE X (.Dict [] [] pos) FH:=λa s O H Q I h =>
 wpAny_Dict_empty ⟨.ref s.heap.objs.size,_,I.laid (λ_ _ q=>Zj _ q) (Zn _) (vb s.heap I.big),rfl,h _ (I.Kd.fresh (Zn _))⟩
end
noncomputable def vp:List (TE×TE)->St->Hp->(List (V×V)->Hp->Prop)->Prop
 |[],_,H,Q=>Q [] H
 | (b,a) :: r,O,H,Q=>b O H λx f=>a O f λy e=>vp r O e λps d=>Q ((x,y) :: ps) d
abbrev VV:List (V×V)->List (PP×PP)->Prop:=Paired λp q=>RelV p.1 q.1/\RelV p.2 q.2
def PPs(X:Cx)(e:Pos)(d:List (Option Expr))(a:List Expr)(i:List (TE×TE)):Prop :=
 ∀(b:Km)(s:KB)(O:St)(H:Hp)(Q:List (V×V)->Hp->Prop),Inv X b O H s->vp i O H Q →
  Pi (KF X.prog X.w) X.A (evalPairs (pairTrees d a X.env e)) (λg h=>∃ps f,Inv X b O f h/\VV ps g/\Q ps f) X.xe s
def Cy:PPs X a [] [] []:=λb s O H Q I h=>pairTrees_nil_walk ⟨[],H,I,.nil,h⟩
def zq(w:PE X k f)(q:PE X v e)(r:PPs X b g d i) :
  PPs X b (Y k :: g) (v :: d) ((f,e) :: i):=λa s O H Q I h =>
 pairTrees_cons_walk (thn (w a s O H _ I h) λu s1 ⟨x,F,C,m,p⟩=>thn (q a s1 O F _ C p) λL j ⟨y,E,A,l,o⟩ =>
  thn (r a j O E _ A o) λG N ⟨ps,D,z,rel,n⟩=>⟨(x,y) :: ps,D,z,.cons ⟨m,l⟩ rel,n⟩)
def qP(d a:List (Key×V)):List (Key×V):=a.foldl (λacc b=>putK acc b.1 b.2) d
def KV.merge:∀{more:List (Key×V)}{rs:List (Key×PP)}{b:List (Key×V)}{a:List (Key×PP)},KV more rs->KV b a->KV (qP b more) (merged a rs):=by
 intro more rs b a r
 induction r generalizing b a with
 |nil=>intro q;exact q
 |@cons p q ps g h t f =>
  intro d;have e:KV (putK b p.1 p.2) (stored a q.1 q.2):=by
   have:=d.put p.1 h.2;rw[← h.1];exact this
  exact f e
theorem jR:∀(more a:List (Key×V)),(qP a more).length<=a.length+more.length
 |[],a=>by exact Zd _ _
 |p :: r,a=>by
  have d:=jR r (putK a p.1 p.2);have b:=gQ a p.1 p.2;show (qP (putK a p.1 p.2) r).length<=_;rw[Zf];lia
theorem oj{P:SB}{w:XAB}:∀{d:List (Key×V)}{e:List (PP×PP)},VV (d.map λf=>(kV f.1,f.2)) e->∃rs,Carries (aS P w) e rs/\KV d rs
 |[],_,r=>by rw[List.map_nil]at r;cases r;exact⟨[],True.intro,.nil⟩
 |p :: d,_,r=>by
  rw[Zm]at r;cases r with
  |@cons a b j bs h t =>
   obtain⟨rs,c,q⟩:=oj (P:=P) (w:=w) t;obtain⟨i,g⟩:=b;exact⟨(p.1,g) :: rs,⟨mL h.1,rfl,c⟩,.cons ⟨rfl,h.2⟩ q⟩
def IP(e:List (TE×TE)):TE:=λO H Q=>∀p,H p=J->vp e O (upd H p (.dK [])) λps d=>d p=Y (.dK [])/\∃a:List (Key×V),ps=a.map (λb=>(kV b.1,b.2))/\a.length<=15/\Q (.ref p) (upd d p (.dK (qP [] a)))
def CL(h:PPs X d a b i)(G:a.all (·.isSome)=M)(x:a.length=b.length)(C:a≠[])(g:a.length<=15):PE X (.Dict a b d) (IP i):=by
 intro f s O H Q I q;have L:=I.laid (t':=s.toks) (λ_ _ q=>Zj _ q) (Zn _) (vb s.heap I.big);refine wpAny_Dict_walk (knd:=aS X.prog X.w) G x C g (thn (h f _ O _ _ L (q _ (I.Kd.fresh (Zn s.heap.objs.size)))) λN P y=>?_);obtain⟨ps,U,l,rel,e,F,D,lk,p⟩:=y;refine L2.ai λS r=>?_;subst D;obtain⟨rs,c,n⟩:=oj (w:=X.w) rel;obtain⟨z,hd,m,o,E⟩:=uu l.Kd e;cases o;refine r ?_;refine⟨rs,c,E,λR j u=>⟨.ref s.heap.objs.size,_,?_,rfl,p⟩⟩;exact nL l (by rw[e];exact True.intro) u (let ⟨q,_,_,v,_⟩:=j;⟨q,v⟩) (qW (by
  have A:=jR F [];rw[List.length_nil]at A;rw[Xb];lia) hd (n.merge .nil) j)
structure M1(X:Cx)(o:Expr)(m:Str)(apos:Pos)(e:Expr)(oe:Pos):Prop where
 base:XAC o m X.env (eval o X.env)=eval o X.env
 MG:((backTo oe (P3 [e] X.env)).all (λx=>!x.1)&&(backToKw oe (SZ [] X.env)).all (λx=>x.1.isSome)
  && decide (([e]:List Expr).length+([]:List Keyword).length+(if ([]:List Keyword).isEmpty then 0 else 1)<30))=true
 line:(apos.endLine==oe.line)=true
 trees:backTo oe (P3 [e] X.env)=[(false,eval e X.env)]
def IsD(H:Hp)(a:On):Prop:=(∃b,Rd H a (.dK b))\/∃b,Rd H a (.dT b)
def Hf(I:Inv X g O H s)(d:IsD H a) :
  s.TypeIs (.ref a) "dict" ∧ (∀b,Value.ref a=.ref b->∃f,s.heap.get? b=Y f/\f.dict=J)/\(a==sysModules)=B:=by
 rcases d with⟨l,e⟩ | ⟨l,e⟩
 ·obtain⟨_,hd,n,_,h⟩:=mN I.Kd e;refine⟨h.typeIs,λb q=>?_,hd⟩;cases q;obtain⟨f,_,_,j,i,_⟩:=h;exact⟨f,j,i.2.1⟩
 ·obtain⟨_,hd,m,_,h⟩:=oM I.Kd e;refine⟨h.typeIs,λb q=>?_,hd⟩;cases q;obtain⟨f,_,_,j,i,_⟩:=h;exact⟨f,j,i.2.1⟩
section
variable{H:Hp}
def GP{A:SC}(q:A.units+1<cLine)(I:Inv X pins O H s)(g:fK H a y o)(n:RelV y u)(h:∀j m,Inv X pins O H m->RelV (o.getD .non) j->Q j m) :
  Pi (KF X.prog X.w) A (call (.builtin "dict.get") [.ref a,u]) Q E s:=by
 rcases g with⟨x,k,e,i,l⟩ | ⟨x,k,b,e,i,v,l⟩
 ·subst i;obtain⟨z,hd,C,rel,f⟩:=mN I.Kd e;refine call_meetsIn Vj f.typeIs PySem.F.entry_dict_get (PySem.F.args_dict_get_2 _ _) (meets_dict_get (aS X.prog X.w) a (mL n) hd) ⟨_,f.mapOf,h _ _ (I.tok _) ?_⟩;rw[l];exact(rel.val k).getD L
 ·subst i;cases (n);obtain⟨z,hd,p,rel,f⟩:=oM I.Kd e;refine call_meetsIn Vj f.typeIs PySem.F.entry_dict_get (PySem.F.args_dict_get_2 _ _) (meetsH_dict_get (tupleKind (aS X.prog X.w)) a b hd) ⟨XD q,k,p,dg I.Kd v,f,h _ _ (I.tok _) ?_⟩;rw[l];exact(rel.val k).getD L
end
def FR(f e:TE):TE:=λO H Q=>f O H λx d=>∃a,x=.ref a/\IsD d a/\e O d λy b=>∃o,fK b a y o/\Q (o.getD .non) b
section
def zH{X:Cx}(r:X.A.units+1<cLine)(v:PE X o td)(he:PE X e ty)(m:M1 X o "get" apos e oe):PE X (.Call (.Attribute o "get" apos) [e] [] oe) (FR td ty):=by
 intro b s O H Q I h;refine wpAny_Call_method m.base m.MG m.line PySem.F.plainAttrs_dict Vj PySem.F.type_dict_get (thn (v b s O H _ I h) λu s1 w=>?_);obtain⟨x,G,i,n,a,ex,d,q⟩:=w;subst ex;obtain rfl:u=Value.ref a:=n;obtain⟨j,t2,_⟩:=Hf i d;refine⟨j,t2,?_⟩;rw[m.trees];refine Calls.callWith_builtin L (Calls.evalArgs_plain (Calls.spliced_cons (thn (he b s1 O G _ i q) λiv R ⟨y,E,D,l,S,g,p⟩=>Calls.spliced_nil ?_)));exact GP r D g l λN P C z=>⟨_,E,C,z,p⟩
end
end L2
namespace Att
open PySem PySem.W PySem.Calls PyProof.Rows
def mR:∀(ns:Uy)(d:Vz),WellAll P h d (ns.map WData.int)->IntsAre d ns:=by
 intro ns
 induction ns with
 |nil =>
  intro d w;rw[List.map_nil]at w;cases w;exact .nil
 |cons n ns e =>
  intro d w;rw[Zm]at w;cases w with
  |cons a b =>
   cases a;exact .cons _ _ (e _ b)
def yF{l:OpenLaw}(u:l.most=Y n)(f:l.row.toRowW.claim.pre b=M)(g:WellAll P h e b) :
  ∃a j ns,e=[Value.ref a]/\b=[WData.list (ns.map WData.int)]/\h.get? a=Y { cls:=.type "list",data:=.seq j.toArray }/\IntsAre j ns/\ns.length<=n:=by
 have v:l.pre.holds [] { args:=b }=M:=(pre_splitW f).2;obtain⟨d,r,rfl,y,x⟩:=hasAllW_cons ((pre_splitW f).1);obtain rfl:=hasAllW_nil x;obtain⟨A,rfl,w⟩:=hasW_list y;obtain⟨ns,rfl⟩:=items_int w;have hlen:ns.length<=n:=by
  have i:=condW_of (by
   have m:=(holds_andW v).1;rw[u]at m;exact m) (w_not (w_lt w_lit (w_len_list (w_arg L))))
  rw[Zw]at i;refine ZD λq=>?_
  first
   | (rw[decide_eq_true (by omega)]at i;exact absurd i (by decide))
   | (omega)
 cases g with
 |cons p o =>
  cases o;cases p with
  |list s z=>exact⟨_,_,ns,rfl,rfl,s,mR ns _ z,hlen⟩
def yi(l:OpenLaw)(a:List WData):l.row.toRowW.claim.post a (.bool M) a=M :=
 postW_of
  (by first | rfl | decide | simp[WShape.has,WShape.arms,WShape.armsAll])
  (w_eq_bool (w_res L) w_lit) L
def uW{l:OpenLaw}{d:DefRec}(H:l.most=some n)(U:d.params.defaults=[])(j:∀(w:XAB)(p b:KB)(mg s:Wv)(i:On)(o:Obj)(pm cd doc:PP)(a:On)(g:Vz)(ns:Uy),
   Ground q e [] C w p mg s b.heap->A w b.heap →
   b.heap.get? i=some o->o.data=.func (docDef d.name d.params d.body d.scope pm cd doc)->b.heap.CodeRec cd d.name->mg d.name=some (.ref i) →
   b.heap.get? a=some { cls:=.type "list",data:=.seq g.toArray }->IntsAre g ns->ns.length<=n->b.gens=#[] →
   codeAny (KF l.prog w) callerA (.call (.ref i) ⟨[.ref a],[]⟩) (λr m=>r=.ok (.ret (.bool M))/\OldK b.heap m.heap/\m.os=b.os/\AllBare m.gens) b) :
  WalkO q e C A l.row.toRowW d [] (λf g=>PySem.call f g):=by
 intro w p b mg s G Y i o pm cd doc R kV F hd x z v hg args vals X h y D u N;obtain rfl:R=.none:=Dflts.none z U;obtain rfl:kV=.none:=Dflts.noKw z;obtain⟨a,g,ns,rfl,rfl,S,hints,hlen⟩:=yF H h u;refine enter_call (W7 (j w p b mg s i o pm cd doc a g ns G Y F (fd_plain hd) x v S hints hlen hg) λr m E=>?_);obtain⟨rfl,Q,P,O⟩:=E;exact⟨.inl ⟨.bool M,.bool M,[],rfl,λ_=>rfl,.bool M,yi l _,λ_=>⟨List.Pairwise.nil,λ_ L=>(nomatch L)⟩⟩,Q,P,O⟩
end Att
namespace L2
open PySem PySem.Spec PyProof.Rows
theorem pV:∀{a:Vz}{ns:Uy},IntsAre a ns->aP (ns.map V.int) a
 |_,_,.nil=>.nil
 |_,_,.cons n t h=>.cons ⟨t,rfl⟩ (pV h)
noncomputable def zJ(H:Hp):Prop:=∀b,H b=J\/∃o a,H b=Y (.frz o (.lst a))
def zt{K:X2}{f:KB}{j:Vz}(KX:K.In f.heap)(QN:f.heap.Ns mainGlobals C)(g:f.heap.Ns builtinsNs O)(R:∀x:Str,x ≠ "__name__" → O x=bootBuiltins x)(y:f.heap.NoLimit)(hg:f.gens=#[])(D:f.heap.get? a=Y { cls:=.type "list",data:=.seq j.toArray })(hi:IntsAre j l)(hl:l.length<=KM)(hr:p0 k callerA)(F:∀base:XAA,K.In base->base.Ns mainGlobals C->FnOk P w K C base CX k U fd [x] Z)(TU:∀(s:KB)(u:PP),BindsTo s fd ⟨[u],[]⟩ [(x,u)])(Pk:∀H:Hp,zJ H->Kt K H a (l.map V.int)->Z [.ref a] H (λv _=>v=.bl M) λ_ _ _=>False)(S:∀H e i,CX [] H f (λ_ _ _=>False) e i->False) :
  codeAny (KF P w) callerA (.call (.ref U) ⟨[.ref a],[]⟩) (λr i=>r=.ok (.ret (.bool M))/\OldK f.heap i.heap/\i.os=f.os/\AllBare i.gens) f:=by
 have rv:=pV hi;have core:∀H:Hp,zJ H->Kt K H a (l.map V.int)->LA P w H f.heap->(∀b,H b≠J->b=a)->(H a≠J->K.lookup a=J) →
   codeAny (KF P w) callerA (.call (.ref U) ⟨[.ref a],[]⟩) (λr i=>r=.ok (.ret (.bool M))/\OldK f.heap i.heap/\i.os=f.os/\AllBare i.gens) f:=by
  intro H hO hS Kd hA hK;have N4:∀{b:On}{o:Obj},f.heap.get? b=Y o->H b=J->(um f.heap H).get? b=Y o:=λe n=>Bc e n;have To:∀{b:On}{o:Obj}{E:Array DictEntry}{G:Nat},f.heap.get? b=Y o->o.data=.dict E G->H b=J:=λ{b o E G} e d=>by
   cases q:H b with
   |none=>rfl
   |some u =>
    have X:b=a:=hA b (by rw[q];simp);subst X;rw[D]at e;cases e;cases d
  have N:∀{b:On}{m:Wv},f.heap.Ns b m->(um f.heap H).Ns b m:=λ{b m} ⟨o,E,G,e,d,r⟩=>⟨o,E,G,N4 e (To e d),d,r⟩
  have A:=λb o e=>N4 (KX b o e) (by
   cases q:H b with
   |none=>rfl
   |some u =>
    have X:b=a:=hA b (by rw[q];simp);subst X;rw[hK (by rw[q];simp)]at e;cases e)
  have hM:Mod K C (um f.heap H):=⟨A,N QN,⟨O,N g,R⟩,let ⟨mc,h1,h2⟩:=y;⟨mc,N h1,h2⟩⟩
  refine W7 ((F _ A (N QN)).run callerA [] f H ⟨[.ref a],[]⟩ [.ref a] [.ref a] _ _ hr (⟨rfl,hM,λb q e=>(DU.mp e).1,λb o e=>C6 e,X5 (zc _ _),trivial,λb g=>absurd (show b∈([]:W9) from g) (by simp),Kd,.of_eq hg⟩) (TU f (.ref a)) (.cons L .nil) (Pk H hO hS)) λr i h=>?_;cases r with
  |error e=>exact(S H e i h).elim
  |ok fl =>
   cases fl with
   |next=>exact False.elim h
   |brk=>exact False.elim h
   |cont=>exact False.elim h
   |ret u =>
    obtain⟨v,H',os,bare,un,p,r',q⟩:=h;subst q;obtain rfl:u=Value.bool M:=r';refine⟨rfl,OldK.of_keep λb o e=>?_,os,bare⟩;cases q:H b with
    |none=>exact un.keep b o e q (by intro z;exact absurd (show b∈([]) from z) (by simp)) (by simp)
    |some u =>
     rcases hO b with z | ⟨ob,xs,z⟩
     ·rw[q]at z;cases z
     ·obtain⟨e1,_⟩:=Kd b _ z;obtain⟨e2,_⟩:=p b _ (un.MV b ob _ z);rw[e]at e1;cases e1;exact e2
 cases Q:K.lookup a with
 |some o =>
  have e:=KX a o Q;rw[D]at e;cases e;refine core (λ_=>J) (λ_=>.inl L) (.inr ⟨_,j.toArray,_,Q,rfl,rfl,rfl,by rw[ZE,hi.length];exact hl,by simpa using rv⟩) (λb u z=>by cases z) (λb z=>absurd L z) λz=>absurd L z
 |none =>
  refine core (λb=>if b=a then Y (.frz { cls:=.type "list",data:=.seq j.toArray } (.lst (l.map V.int))) else J) (λb=>?_) (.inl (.inr ⟨{ cls:=.type "list",data:=.seq j.toArray },Zp L⟩)) (λb u z=>?_) (λb z=>?_) λ_=>Q
  ·by_cases g:b=a
   ·exact .inr ⟨_,_,Zp g⟩
   ·exact .inl (Zo g)
  ·by_cases g:b=a
   ·cases ((Zp g).symm.trans z);subst g;exact⟨D,by rw[Zw];exact hl,j,_,rv,D⟩
   ·cases ((Zo g).symm.trans z)
  ·by_cases g:b=a
   ·exact g
   ·exact absurd (Zo g) z
def CQ{l:PySem.W.OpenLaw}{n k:Nat}{q:SB}{i:List Str}{U:(Wv)->XAA->Prop}{A:XAB->XAA->Prop}{d:DefRec}{K:Params->X2}{D:XAB->Oz}{z:XAB->Sp}{x:Str}(N:l.most=some n)(X:n<=KM)(QT:d.params.defaults=[])(L:p0 k callerA)(P:∀(w:XAB)(h:XAA),A w h->(K w.params).In h)(F:∀(w:XAB)(mg:Wv)(j:On)(h:XAA),(K w.params).In h->h.Ns mainGlobals mg->mg d.name=some (.ref j) →
   ∃fd:Re,(∀(s:KB)(u:PP),BindsTo s fd ⟨[u],[]⟩ [(x,u)]) ∧
    ∀base:XAA,(K w.params).In base->base.Ns mainGlobals mg->FnOk l.prog w (K w.params) mg base (D w) k j fd [x] (z w))(Pk:∀(w:XAB)(H:Hp)(a:On)(ns:Uy),ns.length<=n->zJ H->Kt (K w.params) H a (ns.map V.int)->z w [.ref a] H (λv _=>v=.bl M) λ_ _ _=>False)(r:∀(w:XAB)(H:Hp)(s:KB)(e:PP)(m:KB),D w [] H s (λ_ _ _=>False) e m->False) :
  PySem.W.WalkO q i U A l.row.toRowW d [] (λf y=>PySem.call f y):=by
 refine Att.uW N QT λw s₀ E mg mb j o pm cd doc a y ns G Y ho hd O p Z hints hlen hg=>?_;have C:=P w _ Y;obtain⟨fd,hb,S⟩:=F w mg j _ C G.T.g p;exact zt C G.T.g G.T.b G.T.builtins G.T.nolimit hg Z hints (ZR hlen X) L S hb (λH R Q=>Pk w H a ns hlen R Q) λH e m=>r w H E e m
noncomputable def inClass(s:Stmt)(j:Nat):Stmt:=match s with
 |.ClassDef _ _ _ body _ _ _ _ _ _ _=>body.getD j (.Pass ⟨0,0,0,0⟩)
 |_=>.Pass ⟨0,0,0,0⟩
noncomputable def cM(s:Stmt):Arguments:=match s with
 |.FunctionDef _ a _ _ _ _ _ _ _ _=>a
 |_=>{ posonlyargs:=[],args:=[],vararg:=J,kwonlyargs:=[],kw_defaults:=[],kwarg:=J,defaults:=[] }
noncomputable def aX(s:Stmt):List Stmt:=match s with
 |.FunctionDef _ _ b _ _ _ _ _ _ _=>b
 |_=>[]
def ag(s:Stmt):Scope:=match s with
 |.FunctionDef _ _ _ _ _ _ sc _ _ _=>sc
 |_=>{ kind:=.function,names:=[],isGenerator:=B,isCoroutine:=B }
noncomputable abbrev La:Oz:=λ_ _ _ _ _ _=>False
noncomputable abbrev E0:XK:=λ_ _ _=>False
def jT{X:Cx}:ja La X E0:=λ_ _ _ _ _ _ _ h=>h.elim
structure Kp(K:X2)(x qual:Str)(st:Stmt)(f:On)(fd:Re):Prop where
 ex:∃(oc:PP)(od:Option On)(kV doc pm:PP)(an:Option On)(Kj ct:PP)(Nt:Array (V9)),
  fd=PySem.W.fnOf x qual (cM st) (aX st) (ag st) .none kV doc pm an Kj ct/\K.lookup f=some ⟨oc,od,.func fd,Nt⟩/\PySem.W.codeIn K Kj qual=true
 kp:PySem.W.keepIn K (.ref f)=true
section
variable{K:X2}
def Kp.ok(F:Kp K x a d f m)(S:gV N i (ag d))(j:∀b H Q E,g b H Q E->b.length=i.length)(p:∀(e:PP)(A:SC)(outer:List Env)(s:KB)(H:Hp)(b:List V)(Q:VK)(E:XK),p0 k (A.deeper (envOfC a (ag d) s.heap.objs.size f e))->g b H Q E →
   ∃t,Mr (jr La P w K mg base N a (ag d) f e A outer s H E).Nf (aX d) t/\t { nx:=λ_ r=>Q .non r,rt:=Q } (start N b) H):FnOk P w K mg base La (k+1) f m i g:=by
 obtain⟨oc,u,kV,doc,pm,an,e,ct,v,rfl,lk,l⟩:=F.ex;refine Fc lk l S j λA outer s H b Q E n o=>?_;obtain⟨t,h,q⟩:=p e A outer s H b Q E n o;exact⟨t,h.Nf,q⟩
def Kp.binds{e:List Str}(F:Kp K x a b f i)(h:∀(kV doc pm:PP)(an:Option On)(g ct:PP)(d:Vz),d.length=e.length->bindArgs (PySem.W.fnOf x a (cM b) (aX b) (ag b) .none kV doc pm an g ct) ⟨d,[]⟩=pure (e.zip d)):Binds K i e []:=by
 obtain⟨oc,l,kV,doc,pm,an,g,ct,m,rfl,lk,j⟩:=F.ex;exact .all (h kV doc pm an g ct)
def zB{st:Stmt}(l:K.lookup f=Y ⟨m,j,.func (PySem.W.fnOf x a (cM st) (aX st) (ag st) .none g b e i d h),n⟩)(c:PySem.W.codeIn K d a=M)(k:PySem.W.keepIn K (.ref f)=M):Kp K x a st f (PySem.W.fnOf x a (cM st) (aX st) (ag st) .none g b e i d h):=⟨⟨m,j,g,b,e,i,d,h,n,rfl,l,c⟩,k⟩
end
def jL(a:p0 k A):A.units+1<cLine:=ZL (Xd (by decide:1<=64) _) a.units
section
def pv{X:Cx}(i:Nat)(f:{`q3,X.N[i]?=Y x})(d:{`q5,M7 X.env.scope x})(e:{`q1,K3 x})(b:{`q1,K4 x}):PE X (.Name x a) (Jm i):=fh f d e b
end
def yT{A B:Prop}(h:B):if false=M then A else B:=by
 rw[Zo Zh];exact h
def yI{A B:Prop}(h:A):if M=M then A else B:=by
 rw[Zp L];exact h
noncomputable def aO(H a:Hp):Prop:=∀b o,H b=Y o->a b=Y o
def aO.refl(H:Hp):aO H H:=λ_ _ h=>h
def aO.trans{e:Hp}(a:aO H e)(b:aO e d):aO H d:=λc o h=>b c o (a c o h)
def aO.free(e:aO H a)(h:a l=J):H l=J:=by
 cases q:H l with
 |none=>rfl
 |some o =>
  rw[e l o q]at h;cases h
end L2
end
section
namespace L2
open PySem PySem.Spec PyProof.Rows
abbrev pN:=List (List Key)
def hN(w:XAB)(k:pN):Int:=reduceHash (Builtin.Tuple.tupleHashOf (k.map λx=>reduceHash (Builtin.Tuple.tupleHashOf (x.map (Ii w)))))
def JN(w:XAB)(x:pN×On×PP):DictEntry:=⟨hN w x.1,.ref x.2.1,x.2.2⟩
abbrev KN:List (pN×On×V)->List (pN×On×PP)->Prop:=Paired λp q=>p.1=q.1/\p.2.1=q.2.1/\RelV p.2.2 q.2.2
def DN(a:On)(e:List (pN×On×V)):HO:=.ext λw h=>e.length<=KM/\(a==sysModules)=B/\∃b:List (pN×On×PP),KN e b ∧
 ∃o d f,h.get? a=Y o/\o.ExactDict/\o.data=.dict d f/\d.toList=b.map (JN w)/\(b.map (·.1)).Nodup
def NAt(H:Hp)(k:pN)(b:On):Prop:=∃a:W9,H b=Y (.tup (a.map V.ref))/\Paired (λ(x:List Key) (c:On)=>H c=Y (.tup (x.map kV))) k a
def NAt.mono{k:pN}(x:NAt H k b)(t:∀a d,H a=Y (.tup d)->e a=Y (.tup d)):NAt e k b:=by
 obtain⟨f,h,r⟩:=x;exact⟨f,t _ _ h,Paired.PK r λ_ _ z=>t _ _ z⟩
end L2
end
section
namespace VS
open PySem PySem.Spec PyProof.Rows L2
noncomputable def sx(s:Tx):Str:=⟨s.toArray⟩
def kb(s:Tx):Prop:=s.length<=fI/\∀c∈s,c<1114112
noncomputable abbrev Me:=Nat->Option V
structure Gx where
 K:X2
 ct:Nat->On×(Nat->Str)
 me:Me:=λ_=>none
def Gx.at(G:Gx)(m:Me):Gx:=⟨G.K,G.ct,m⟩
noncomputable def aK:Key->T
 |.inl i=>.int i
 |.inr x=>.str x.cps.toList
def nkT(k:pN):T:=.tup (k.map λx=>T.tup (x.map aK))
def lj(K:X2)(H:Hp)(a:On)(d:Uy):Prop :=
 (∃o,H a=Y (.frz o (.lst (d.map V.int)))) ∨
  ∃(o:Obj)(b:Array PP)(n:Nat),K.lookup a=Y o/\o.cls=.type "list" ∧ o.dict=J/\o.data=.seq b n/\b.size<=KM/\aP (d.map V.int) b.toList
mutual
inductive Rp(G:Gx)(H:Hp):V->T->W9->Prop
 |non:Rp G H .non .non []
 |bl (b:Bool):Rp G H (.bl b) (.bl b) []
 |int (i:Int):Rp G H (.int i) (.int i) []
 |str (s:Tx):kb s->Rp G H (.str (sx s)) (.str s) []
 |scr {a:On} {ns:Uy}:lj G.K H a ns->Rp G H (.ref a) (.scr ns) []
 |tup {a:On} {vs:List V} {ts:Ut} {Fs:Yx}:H a=some (.tup vs)->RpL G H vs ts Fs->Rp G H (.ref a) (.tup ts) Fs.flatten
 |lst {a:On} {vs:List V} {ts:Ut} {Fs:Yx}:H a=some (.lst vs)->RpL G H vs ts Fs->Rp G H (.ref a) (.lst ts) (a :: Fs.flatten)
 |dct {a:On} {ks:List Key} {vs:List V} {ts:Ut} {Fs:Yx}:H a=some (.dK (ks.zip vs))->ks.length=vs.length->RpL G H vs ts Fs->Rp G H (.ref a) (.dct 0 ((ks.map aK).zip ts)) (a :: Fs.flatten)
 |dctT {a:On} {ks:List (List Key)} {vs:List V} {ts:Ut} {Fs:Yx}:H a=some (.dT (ks.zip vs))->ks.length=vs.length->RpL G H vs ts Fs->Rp G H (.ref a) (.dct 1 ((ks.map λk=>T.tup (k.map aK)).zip ts)) (a :: Fs.flatten)
 |dctN {a:On} {ks:List (pN×On)} {vs:List V} {ts:Ut} {Fs:Yx}:H a=some (DN a ((ks.zip vs).map λp=>(p.1.1,p.1.2,p.2)))->ks.length=vs.length->(∀p∈ks,NAt H p.1 p.2)->RpL G H vs ts Fs->Rp G H (.ref a) (.dct 2 ((ks.map λp=>nkT p.1).zip ts)) (a :: Fs.flatten)
 |dctZ {a:On} {o:Obj} {ks:List Key} {vs:List V} {ts:Ut} {Fs:Yx}:H a=some (.frz o (.dK (ks.zip vs)))->ks.length=vs.length->RpL G H vs ts Fs->Rp G H (.ref a) (.dct 3 ((ks.map aK).zip ts)) Fs.flatten
 |exc {c:Nat} {a:On} {o:Obj}:H a=some (.frz o (.own a))->(o.cls=.ref (G.ct c).1/\o.dict=none/\∃vs,o.data=.fields vs)->Rp G H (.ref a) (.obj c []) []
 |ins {c:Nat} {a dx:On} {b:Bool} {ks:Uz} {vs:List V} {ts:Ut} {Fs:Yx}:H a=some (.ins (G.ct (c+1)).1 dx ((ks.map (G.ct (c+1)).2).zip vs))->ks.length=vs.length->(b=true->G.me 0=some (.ref a))->RpL G H vs ts Fs->Rp G H (.ref a) (.obj (c+1) ((0,.bl b) :: ks.zip ts)) (a :: Fs.flatten)
 |mk {m:Nat} {a:On} {t:T} {F:W9}:G.me m=some (.ref a)->Rp G H (.ref a) t F->Rp G H (.ref a) (.obj 0 [(0,.bl true),(m,t)]) F
inductive RpL(G:Gx)(H:Hp):List V->Ut->Yx->Prop
 |nil:RpL G H [] [] []
 |cons {v:V} {t:T} {F:W9} {vs:List V} {ts:Ut} {Fs:Yx}:Rp G H v t F->RpL G H vs ts Fs->RpL G H (v :: vs) (t :: ts) (F :: Fs)
end
def RpI(G:Gx)(H:Hp)(v:V)(F:W9):T->Prop
 |.non=>v=.non
 |.bl b=>v=.bl b
 |.int b=>v=.int b
 |.str b=>v=.str (sx b)/\kb b
 |.scr l=>∃a,v=.ref a/\F=[]/\lj G.K H a l
 |.tup l=>∃a e f,v=.ref a/\F=f.flatten/\H a=Y (.tup e)/\RpL G H e l f
 |.lst l=>∃a e f,v=.ref a/\F=a :: f.flatten/\H a=Y (.lst e)/\RpL G H e l f
 |.dct d l=>match d with
  |0=>∃(a:On)(g:List Key)(e:List V)(h:Ut)(f:Yx),v=.ref a/\F=a :: f.flatten/\H a=Y (.dK (g.zip e))/\g.length=e.length/\l=(g.map aK).zip h/\RpL G H e h f
  |3=>∃(a:On)(o:Obj)(g:List Key)(e:List V)(h:Ut)(f:Yx),v=.ref a/\F=f.flatten/\H a=Y (.frz o (.dK (g.zip e)))/\g.length=e.length/\l=(g.map aK).zip h/\RpL G H e h f
  |_=>True
 |.obj c fs=>match c,fs with
  |c+1,j :: fs=>∃(i:Nat)(a n:On)(b:Bool)(g:Uz)(e:List V)(h:Ut)(f:Yx),c+1=i+1/\v=.ref a/\j=(0,.bl b)/\fs=g.zip h/\F=a :: f.flatten/\H a=Y (.ins (G.ct (i+1)).1 n ((g.map (G.ct (i+1)).2).zip e))/\g.length=e.length/\(b=M->G.me 0=Y (.ref a))/\RpL G H e h f
  |0,fs=>∀m t,fs=[(0,.bl M),(m,t)]->∃a,v=.ref a/\G.me m=Y (.ref a)/\Rp G H (.ref a) t F
  |_,_=>True
def Rp.inv(r:Rp G H v t F):RpI G H v F t:=by
 cases r with
 |str s h=>exact⟨rfl,h⟩
 |scr h=>exact⟨_,rfl,rfl,h⟩
 |tup h q=>exact⟨_,_,_,rfl,rfl,h,q⟩
 |lst h q=>exact⟨_,_,_,rfl,rfl,h,q⟩
 |dct h a q=>exact⟨_,_,_,_,_,rfl,rfl,h,a,rfl,q⟩
 |dctZ h a q=>exact⟨_,_,_,_,_,_,rfl,rfl,h,a,rfl,q⟩
 |@exc c=>exact Nat.casesOn (motive:=λc=>RpI G H _ [] (.obj c [])) c (λ_ _ e=>nomatch e) λ_=>trivial
 |ins h l m q=>exact⟨_,_,_,_,_,_,_,_,rfl,rfl,rfl,rfl,rfl,h,l,m,q⟩
 |mk h q=>exact λ_ _ e=>by cases e;exact⟨_,rfl,h,q⟩
 |dctT _ _ _=>trivial
 |dctN _ _ _ _=>trivial
 |_=>rfl
structure Kept(H H':Hp):Prop where
 tup:∀a xs,H a=some (.tup xs)->H' a=some (.tup xs)
 frz:∀a o u,H a=some (.frz o u)->H' a=some (.frz o u)
def Kept.refl(H:Hp):Kept H H:=⟨λ_ _ h=>h,λ_ _ _ h=>h⟩
def Kept.trans{e:Hp}(a:Kept H e)(b:Kept e d):Kept H d:=⟨λc x h=>b.tup c x (a.tup c x h),λc o u h=>b.frz c o u (a.frz c o u h)⟩
def Kept.of(e:aO H b):Kept H b:=⟨λa _ h=>e a _ h,λa _ _ h=>e a _ h⟩
theorem Kept.upd{H:Hp}(d:Kn (H a)\/H a=J):Kept H (upd H a o):=by
 have ne:∀b u,H b=Y u->¬Kn (Y u)->b≠a:=λb u h nm e=>by
  subst e;rcases d with m | m
  ·rw[h]at m;exact nm m
  ·rw[h]at m;cases m
 exact⟨λb f h=>by rw[aD (ne b _ h λz=>z)];exact h,λb o u h=>by rw[aD (ne b _ h λz=>z)];exact h⟩
def lj.kept{K:X2}(h:lj K H a b)(k:Kept H d):lj K d a b:=by
 rcases h with⟨o,e⟩ | h
 ·exact .inl ⟨o,k.frz _ _ _ e⟩
 ·exact .inr h
def lj.seq{K:X2}(h:lj K H a b):Kt K H a (b.map V.int):=by
 rcases h with⟨o,e⟩ | h
 ·exact .inl (.inr ⟨o,e⟩)
 ·exact .inr h
def tY{H d:Hp}{a:On}{F:W9}(f:∀b∈a :: F,∀o,H b=Y o->d b=Y o):∀b∈F,∀o,H b=Y o->d b=Y o:=λb m=>f b (Zx _ m)
def x8{H a:Hp}{F:W9}{d:Yx}(f:∀b∈(F :: d).flatten,∀o,H b=Y o->a b=Y o):(∀b∈F,∀o,H b=Y o->a b=Y o)/\∀b∈d.flatten,∀o,H b=Y o->a b=Y o:=by
 rw[ZG]at f;exact⟨λb m=>f b (Yl _ m),λb m=>f b (ZI _ m)⟩
def Rp.keep(k:Kept H e)(r:Rp G H v t F):(∀a∈F,∀o,H a=Y o->e a=Y o)->Rp G e v t F :=
 Rp.rec (motive_2:=λj q g _=>(∀a∈g.flatten,∀o,H a=Y o->e a=Y o)->RpL G e j q g)
  (λ_=>.non) (λb _=>.bl b) (λi _=>.int i) (λs h _=>.str s h) (λh _=>.scr (h.kept k)) (λh _ d f=>.tup (k.tup _ _ h) (d f)) (λh _ d f=>.lst (f _ Zv _ h) (d (tY f))) (λh l _ d f=>.dct (f _ Zv _ h) l (d (tY f))) (λh l _ d f=>.dctT (f _ Zv _ h) l (d (tY f)))
  (λh l n _ d f=>.dctN (f _ Zv _ h) l (λp m=>(n p m).mono k.tup) (d (tY f))) (λh l _ d f=>.dctZ (k.frz _ _ _ h) l (d f)) (λh x _=>.exc (k.frz _ _ _ h) x) (λh l m _ d f=>.ins (f _ Zv _ h) l m (d (tY f))) (λh _ d f=>.mk h (d f)) (λ_=>.nil) (λ_ _ w u f=>.cons (w (x8 f).1) (u (x8 f).2)) r
theorem RpL.keep(k:Kept H g):∀{e:List V}{b:Ut}{d:Yx},RpL G H e b d->(∀a∈d.flatten,∀o,H a=Y o->g a=Y o)->RpL G g e b d:=by
 intro e b
 induction b generalizing e with
 |nil=>intro d r f;cases r;exact .nil
 |cons t b h =>
  intro d r f;cases r with
  |cons r q=>exact .cons (r.keep k (x8 f).1) (h q (x8 f).2)
def Rp.same{G:Gx}{H:Hp}(e:aO H b)(r:Rp G H v t F):Rp G b v t F:=r.keep (Kept.of e) λa _ o h=>e a o h
def RpL.same{G:Gx}{H:Hp}(e:aO H b)(r:RpL G H v t F):RpL G b v t F:=r.keep (Kept.of e) λa _ o h=>e a o h
def BA{H:Hp}{a:On}{F:W9}(h:Kn (H a))(d:∀b∈F,Kn (H b)):∀b∈a :: F,Kn (H b):=λb m=>(Zi.mp m).elim (λe=>e ▸ h) (d b)
def Bl{H:Hp}{a:On}{o:HO}(h:H a=Y o)(m:Kn (Y o)):Kn (H a):=by rw[h];exact m
def HY{H:Hp}{F:W9}{a:Yx}(e:∀b∈F,Kn (H b))(d:∀b∈a.flatten,Kn (H b)):∀b∈(F :: a).flatten,Kn (H b):=λb m=>by
 rw[ZG]at m;exact(Zc.mp m).elim (e b) (d b)
def Rp.Kw(r:Rp G H v t F):∀a∈F,Kn (H a) :=
 Rp.rec
  (λ_ m=>nomatch m) (λ_ _ m=>nomatch m) (λ_ _ m=>nomatch m) (λ_ _ _ m=>nomatch m) (λ_ _ m=>nomatch m) (λ_ _ b=>b) (λh _ b=>BA (Bl h True.intro) b) (λh _ _ b=>BA (Bl h True.intro) b) (λh _ _ b=>BA (Bl h True.intro) b)
  (λh _ _ _ b=>BA (Bl h True.intro) b) (λ_ _ _ b=>b) (λ_ _ _ m=>nomatch m) (λh _ _ _ b=>BA (Bl h True.intro) b) (λ_ _ b=>b) (λ_ m=>nomatch m) (λ_ _ e d=>HY e d) r
theorem RpL.Kw:∀{e:List V}{b:Ut}{d:Yx},RpL G H e b d->∀a∈d.flatten,Kn (H a):=by
 intro e b
 induction b generalizing e with
 |nil=>intro d r;cases r;exact λ_ m=>nomatch m
 |cons t b f =>
  intro d r;cases r with
  |cons r q=>exact HY r.Kw (f q)
def Kn.pe(m:Kn o):o≠J:=λe=>by subst e;exact m
def II{b:Yx}(e:VS.Kh t=M->F=[])(d:VS.gE a=M->b.flatten=[])(i:VS.gE (t :: a)=M):(F :: b).flatten=[]:=by
 have i:=ZX.mp i;rw[ZG,e i.1,d i.2];rfl
theorem Rp.Kh(r:Rp G H v t F):VS.Kh t=M->F=[] :=
 Rp.rec
  (λ_=>rfl) (λ_ _=>rfl) (λ_ _=>rfl) (λ_ _ _=>rfl) (λ_ _=>rfl) (λ_ _ a i=>a i) (λ_ _ _ i=>absurd (i) Zh) (λ_ _ _ _ i=>absurd (i) Zh) (λ_ _ _ _ i=>absurd (i) Zh)
  (λ_ _ _ _ _ i=>absurd (i) Zh) (λ_ _ _ _ i=>absurd (i) Zh) (λ_ _ _=>rfl) (λ_ _ _ _ _ i=>absurd (i) Zh) (λ_ _ _ i=>absurd (i) Zh) (λ_=>rfl) (λ_ _ d b i=>II d b i) r
theorem RpL.Kh:∀{d:List V}{a:Ut}{b:Yx},RpL G H d a b->VS.gE a=M->b.flatten=[]:=by
 intro d a
 induction a generalizing d with
 |nil=>intro b r i;cases r;exact rfl
 |cons t a e =>
  intro b r i;cases r with
  |cons r q=>exact II r.Kh (e q) i
def RpL.len:∀{b:List V}{a:Ut}{d:Yx},RpL G H b a d->b.length=a.length/\d.length=a.length:=by
 intro b a
 induction a generalizing b with
 |nil=>intro d r;cases r;exact⟨rfl,rfl⟩
 |cons t a e =>
  intro d r;cases r with
  |cons r q=>exact⟨congrArg (·+1) (e q).1,congrArg (·+1) (e q).2⟩
theorem RpL.get{G:Gx}:∀{a:List V}{b:Ut}{d:Yx}(i:Nat){t:T},RpL G H a b d->b[i]?=Y t->∃v F,a[i]?=Y v/\d[i]?=Y F/\Rp G H v t F
 |_,_,_,_,_,.nil,e=>by simp at e
 |_,_,_,0,_,.cons r _,e=>by
  simp at e;subst e;exact⟨_,_,rfl,rfl,r⟩
 |_,_,_,i+1,_,.cons _ q,e=>by
  obtain⟨v,F,h,g,f⟩:=RpL.get i q (by simpa using e);exact⟨v,F,by simpa using h,by simpa using g,f⟩
def RpL.append:∀{b:List V}{a:Ut}{f:Yx}{d:List V}{rs:Ut}{e:Yx},RpL G H b a f->RpL G H d rs e->RpL G H (b++d) (a++rs) (f++e):=by
 intro b a
 induction a generalizing b with
 |nil=>intro f d rs e r s;cases r;exact s
 |cons t a g =>
  intro f d rs e r s;cases r with
  |cons r q=>exact .cons r (g q s)
theorem RpL.take:∀{a:List V}{b:Ut}{d:Yx}(n:Nat),RpL G H a b d->RpL G H (a.take n) (b.take n) (d.take n)
 |_,_,_,0,_=>by simpa using RpL.nil
 |_,_,_,n+1,.nil=>.nil
 |_,_,_,n+1,.cons r q=>.cons r (RpL.take n q)
theorem RpL.drop:∀{a:List V}{b:Ut}{d:Yx}(n:Nat),RpL G H a b d->RpL G H (a.drop n) (b.drop n) (d.drop n)
 |_,_,_,0,q=>q
 |_,_,_,n+1,.nil=>.nil
 |_,_,_,n+1,.cons r q=>RpL.drop n q
noncomputable def jN:Cell->T
 |.pu t=>t
 |.ow t=>t
noncomputable abbrev Kk:=Nat->W9
structure SR(G:Gx)(Z:Kk)(U:VS.Env)(O:L2.St)(H:Hp):Prop where
 len:U.length=O.length
 rp:∀i c,U[i]?=some (some c)->∃v,O[i]?=some (some v)/\Rp G H v (jN c) (Z i)
 nd:∀i t,U[i]?=some (some (.ow t))->(Z i).Nodup
 sep:∀i j t c,U[i]?=some (some (.ow t))->U[j]?=some (some c)->i≠j->∀a∈Z i,a∉Z j
noncomputable def dm(Z:Kk)(U:VS.Env)(a:On):Prop:=∃j t,U[j]?=Y (Y (.pu t))/\a∈Z j
noncomputable def bW(Z:Kk)(U:VS.Env)(a:On):Prop:=∃j t,U[j]?=Y (Y (.ow t))/\a∈Z j
def Fp(Z:Kk)(U:VS.Env)(H:Hp):Md->W9->Prop
 |.fr,F=>F.Nodup/\∀a∈F,H a=J
 |.pu,F=>∀a∈F,H a=J\/dm Z U a
 |.bo,F=>∀a∈F,H a=J\/dm Z U a\/bW Z U a
theorem SR.same{G:Gx}{H:Hp}(s:SR G Z U O H)(e:aO H a):SR G Z U O a :=
 ⟨s.len,λi c h=>let ⟨v,d,b⟩:=s.rp i c h;⟨v,d,b.same e⟩,s.nd,s.sep⟩
def SR.MS(s:SR G Z U O H)(h:dm Z U a):Kn (H a):=by
 obtain⟨j,t,d,b⟩:=h;obtain⟨v,_,r⟩:=s.rp j _ d;exact r.Kw a b
def SR.KJ(s:SR G Z U O H)(h:bW Z U a):Kn (H a):=by
 obtain⟨j,t,d,b⟩:=h;obtain⟨v,_,r⟩:=s.rp j _ d;exact r.Kw a b
def Fp.nil:Fp Z U H m []:=by
 cases m
 ·exact⟨Yn,λa h=>by simp at h⟩
 ·exact λa h=>by simp at h
 ·exact λa h=>by simp at h
theorem Fp.bo{H:Hp}:∀{m:Md},Fp Z U H m F->Fp Z U H .bo F
 |.fr,h=>λa m=>.inl (h.2 a m)
 |.pu,h=>λa m=>(h a m).elim .inl λz=>.inr (.inl z)
 |.bo,h=>h
theorem Fp.pu{U:VS.Env}{H:Hp}:∀{m:Md},m ≠ .bo->Fp Z U H m F->Fp Z U H .pu F
 |.fr,_,h=>λa m=>.inl (h.2 a m)
 |.pu,_,h=>h
 |.bo,n,_=>absurd L n
theorem Fp.back(e:aO H b):∀{m:Md},Fp Z U b m F->Fp Z U H m F
 |.fr,h=>⟨h.1,λa m=>e.free (h.2 a m)⟩
 |.pu,h=>λa m=>(h a m).imp e.free id
 |.bo,h=>λa m=>(h a m).imp e.free id
theorem Fp.up{U:VS.Env}{m:Md}(f:Fp Z U H m F)(r:Rp G a v t F):Fp Z U H (VS.up m t).1 F:=by
 unfold VS.up;by_cases h:VS.Kh t=M
 ·rw[r.Kh h];exact Fp.nil
 ·simp only[h,if_false,Y1];exact f
def tE(G:Gx)(c:Ex):TE:=λO H Q=>∃Z U m r,SR G Z U O H/\c U=Y (m,r)/\∀v a F,aO H a->Rp G a v r F->Fp Z U H m F->Q v a
def PV(G:Gx)(X:Cx)(e:Expr)(c:Ex):Prop:=PE X e (tE G c)
def PE.weak{X:Cx}(h:PE X e t)(w:∀O H Q,b O H Q->t O H Q):PE X e b:=λa s O H Q I q=>h a s O H Q I (w O H Q q)
def PT.weak{X:Cx}(h:PT X e t)(w:∀O H Q,b O H Q->t O H Q):PT X e b:=λa s O H Q I q=>h a s O H Q I (w O H Q q)
def PA.weak{X:Cx}(h:PA X e t)(w:∀O H Q,b O H Q->t O H Q):PA X e b:=λpos a s O H Q I q=>h pos a s O H Q I (w O H Q q)
def tT(G:Gx)(c:Ex):TT:=λO H Q=>∃Z U m r b,SR G Z U O H/\c U=Y (m,r)/\Pe r=Y b/\∀a,aO H a->Q b a
def MA(G:Gx)(X:Cx)(e:Expr)(c:Ex):Prop:=PT X e (tT G c)
noncomputable def LS(l:Uv)(a:Yx):W9:=match l,a with
 |v :: l,F :: a=>match v.1 with
  |.fr=>F++LS l a
  |_=>LS l a
 |_,_=>[]
structure Qx(Z:Kk)(U:VS.Env)(H:Hp)(l:Uv)(Fs:Yx):Prop where
 each:∀(i:Nat) v F,l[i]?=some v->Fs[i]?=some F->Fp Z U H v.1 F
 nd:(LS l Fs).Nodup
def tEs(G:Gx)(c:Kx):TA:=λO H Q=>∃Z U l,SR G Z U O H/\c U=Y l/\∀b a d,aO H a->RpL G a b (trees l) d->Qx Z U H l d->Q b a
def Lv(G:Gx)(X:Cx)(a:List Expr)(c:Kx):Prop:=PA X a (tEs G c)
section
def ak{i j pos}:PV G X (.Constant (.int i) j pos) (Q3 i):=PE.weak qJ λO H Q d=>by
 obtain⟨Z,U,m,r,s,e,k⟩:=d;cases (e);exact k _ _ _ (aO.refl _) (.int i) Fp.nil
def oZ{i j pos}:PV G X (.Constant (.bool i) j pos) (eC (.bl i)):=PE.weak HR λO H Q d=>by
 obtain⟨Z,U,m,r,s,e,k⟩:=d;cases (e);exact k _ _ _ (aO.refl _) (.bl i) Fp.nil
def AE{j pos}:PV G X (.Constant .none j pos) (eC .non):=PE.weak FP λO H Q d=>by
 obtain⟨Z,U,m,r,s,e,k⟩:=d;cases (e);exact k _ _ _ (aO.refl _) .non Fp.nil
def o5{j pos}(h:x=sx t:=by decide +kernel)(f:{`q1,kb t}):PV G X (.Constant (.str x) j pos) (eC (.str t)):=PE.weak GC λO H Q d=>by
 obtain⟨Z,U,m,r,s,e,k⟩:=d;cases (e);subst h;exact k _ _ _ (aO.refl _) (.str t f) Fp.nil
def bx{X:Cx}(i:Nat)(w:{`q3,X.N[i]?=Y x})(p:{`q5,M7 X.env.scope x})(u:{`q1,K3 x})(j:{`q1,K4 x}):PV G X (.Name x g) (aa i):=PE.weak (fh w p u j) λO H Q q=>by
 obtain⟨Z,U,m,r,s,e,k⟩:=q;unfold aa at e;split at e
 ·rename_i t h;obtain⟨v,n,d⟩:=s.rp _ _ h;have o:=Zl e;have y:t=r:=congrArg Prod.snd o;have em:(VS.up .pu t).1=m:=congrArg Prod.fst o;rw[← y,← em]at k;refine⟨v,n,k v H (Z i) (aO.refl _) d ?_⟩;have f:Fp Z U H .pu (Z i):=λa l=>.inr ⟨i,_,h,l⟩;exact f.up d
 ·rename_i t h;obtain⟨v,n,d⟩:=s.rp _ _ h;cases e;exact⟨v,n,k v H (Z i) (aO.refl _) d λa l=>.inr (.inr ⟨i,_,h,l⟩)⟩
 ·cases e
def CN{v:V}(i:Gl X x)(h:X.mg x=Y u)(r:RelV v u)(f:∀H,Rp G H v t [])(j:{`q1,K3 x}):PV G X (.Name x d) (eC t) :=
 PE.weak (Er i h r j) λO H Q g=>by
  obtain⟨Z,U,m,l,s,e,k⟩:=g;cases (e);exact k _ _ _ (aO.refl _) (f H) Fp.nil
structure SK(G:Gx)(Z:Kk)(U:VS.Env)(H0 H:Hp)(x y:Val)(u w:V)(F1 F2:W9):Prop where
 same:aO H0 H
 r1:Rp G H u x.2 F1
 r2:Rp G H w y.2 F2
 f1:Fp Z U H0 x.1 F1
 f2:Fp Z U H0 y.1 F2
 nd:x.1=.fr->y.1=.fr->(F1++F2).Nodup
def eT(G:Gx)(r:R2)(f:Val->Val->Uu):Prop:=∀(Z:Kk)(U:VS.Env)(e H:Hp)(x y:Val)(u w:V)(h g:W9)(m:Md)(t:T)(Q:VK),SK G Z U e H x y u w h g->f x y=Y (m,t) →
 (∀v d F,aO H d->Rp G d v t F->Fp Z U e m F->Q v d)->r u w H Q
def Cb{G:Gx}{ca cb:Ex}{O:L2.St}{H:Hp}{Q:V->V->Hp->Prop}{Z:Kk}{U:VS.Env}{x y:Val}(s:SR G Z U O H)(m:ca U=Y x)(l:cb U=Y y)(k:∀u w d f e,SK G Z U H d x y u w f e->Q u w d):tE G ca O H λu g=>tE G cb O g λw d=>Q u w d:=by
 refine⟨Z,U,x.1,x.2,s,m,λu g f e1 r1 f1=>⟨Z,U,y.1,y.2,s.same e1,l,λw d e e2 r2 f2=>k u w d f e ⟨e1.trans e2,r1.same e2,r2,f1,f2.back e1,λi h=>?_⟩⟩⟩;rw[i]at f1;rw[h]at f2;refine ZF.mpr ⟨f1.1,f2.1,λa j b hb z=>?_⟩;subst z;exact Kn.pe (r1.Kw a j) (f2.2 a hb)
def mw(g:eT G r f)(h:tE G (e2 f ca cb) O H Q):Sl r (tE G ca) (tE G cb) O H Q:=by
 obtain⟨Z,U,m,t,s,e,k⟩:=h;obtain⟨x,j,e⟩:=Zz.mp e;obtain⟨y,i,e⟩:=Zz.mp e;exact Cb s j i λu w l p o d=>g Z U H l x y u w p o m t Q d e λv n F e1 r1 f1=>k v n F (d.same.trans e1) r1 f1
def kH(g:OpR X (binaryOp d) r)(e:eT G r f)(j:PV G X a ca)(i:PV G X b cb):PV G X (.BinOp a d b pos) (e2 f ca cb) :=
 PE.weak (EN g j i) λO H Q h=>mw e h
def Ha(g:OpR X (UV d) r)(e:eT G r f)(l:PV G X a ca)(j:PV G X b cb)(i:behindInMarks d b=B):PV G X (.Compare a [d] [b] pos) (e2 f ca cb) :=
 PE.weak (Em g l j i) λO H Q h=>mw e h
noncomputable def Tells(f:Val->Val->Uu):Prop:=∀x y m t,f x y=Y (m,t)->∃b,t=.bl b
def Rp.Lf{b:Bool}(r:Rp G H v (.bl b) F):v=.bl b:=r.inv
def Rp.int_inv{b:Int}(r:Rp G H v (.int b) F):v=.int b:=r.inv
def Rp.str_inv{b:Tx}(r:Rp G H v (.str b) F):v=.str (sx b)/\kb b:=r.inv
def nV{c:Ex}(h:tT G c O H Q)(f:∀U m r,c U=Y (m,r)->∃b,r=.bl b)(w:∀Q,tE G c O H Q->t O H Q):BO t O H Q:=by
 obtain⟨Z,U,m,r,b,s,e,d,k⟩:=h;refine w _ ⟨Z,U,m,r,s,e,λv i F e1 r1 f1=>?_⟩;obtain⟨j,g⟩:=f U m r e;rw[g]at d r1;cases (d);exact⟨_,r1.Lf,k i e1⟩
def gH(j:OpR X (UV d) r)(g:eT G r f)(i:Tells f)(o:PV G X a ca)(n:PV G X b cb)(l:behindInMarks d b=B):MA G X (.Compare a [d] [b] pos) (e2 f ca cb) :=
 PT.weak (xZ j o n l) λO H Q h=>nV h (λU m r e=>by
  obtain⟨x,_,e⟩:=Zz.mp e;obtain⟨y,_,e⟩:=Zz.mp e;exact i x y m r e) λQ h=>mw g h
def bE{G:Gx}{Z:Kk}{U:VS.Env}{e H:Hp}{m:Md}{t:T}{v:V}{Q:VK}(k:∀v d F,aO H d->Rp G d v t F->Fp Z U e m F->Q v d)(r:Rp G H v t []):Q v H:=k v H [] (aO.refl _) r Fp.nil
def cF(h:H p=J):aO H (upd H p o):=λb d e=>by rw[aD (cL e h)];exact e
theorem Fp.new(d:g p=J)(h:p∉F):∀{m:Md},Fp Z U g m F->Fp Z U g m (p :: F)
 |.fr,f=>⟨ZY.mpr ⟨h,f.1⟩,λa m=>(Zi.mp m).elim (λe=>by rw[e];exact d) (f.2 a)⟩
 |.pu,f=>λa m=>(Zi.mp m).elim (λe=>by rw[e];exact .inl d) (f a)
 |.bo,f=>λa m=>(Zi.mp m).elim (λe=>by rw[e];exact .inl d) (f a)
def rP(e:NC d l=Y (m,t)):t=.lst l/\l.length<=fI/\m=(if gE l then .fr else d):=by
 unfold NC at e;split at e
 ·rename_i h;cases e;exact⟨rfl,h,rfl⟩
 ·cases e
def jI{G:Gx}{Z:Kk}{U:VS.Env}{i H:Hp}{o m:Md}{l:Ut}{t:T}{n:List V}{q:Yx}{Q:VK}(d:aO i H)(e:NC o l=Y (m,t))(r:RpL G H n l q)(f:Fp Z U i o q.flatten)(k:∀v j F,aO H j->Rp G j v t F->Fp Z U i m F->Q v j):∀p,H p=J->Q (.ref p) (upd H p (.lst n)):=by
 intro p g;obtain⟨rfl,s,rfl⟩:=rP e;refine k _ _ _ (cF g) (.lst aw (r.same (cF g))) ?_;have np:=λm=>Kn.pe (r.Kw p m) g;by_cases h:gE l=M
 ·rw[h,Zp L];rw[r.Kh h]at np ⊢;exact Fp.nil.new (d.free g) np
 ·rw[Zo h];exact f.new (d.free g) np
theorem SK.join(i:SK G Z U h H x y u w f e){F:W9}(g:F.Sublist (f++e)):Fp Z U h (x.1.join y.1) F:=by
 obtain⟨same,r1,r2,f1,f2,nd⟩:=i;obtain⟨l,x⟩:=x;obtain⟨j,y⟩:=y;have both:∀{P:On->Prop},(∀a∈f,P a)->(∀a∈e,P a)->∀a∈F,P a:=λn m a d=>((λa d=>Zc.mp (g.subset d)) a d).elim (n a) (m a);cases l<;>cases j
 ·exact⟨(nd L L).sublist g,both f1.2 f2.2⟩
 ·exact both (λa d=>.inl (f1.2 a d)) f2
 ·exact both (λa d=>.inl (f1.2 a d)) f2
 ·exact both f1 (λa d=>.inl (f2.2 a d))
 ·exact both f1 f2
 ·exact both (f1.bo) f2
 ·exact both f1 (λa d=>.inl (f2.2 a d))
 ·exact both f1 (f2.bo)
 ·exact both f1 f2
def fW:fI=sizeLine:=rfl
def dP(s:Tx):(sx s).length=s.length:=rfl
def Hc(s t:Tx):sx s++sx t=sx (s++t):=by
 show Str.append (sx s) (sx t)=_;simp[sx,Str.append]
def Rp.lst_inv(r:Rp G H v (.lst l) F):∃a d e,v=.ref a/\F=a :: e.flatten/\H a=Y (.lst d)/\RpL G H d l e:=r.inv
def Rp.Lr(r:Rp G H v (.tup l) F):∃a d e,v=.ref a/\F=e.flatten/\H a=Y (.tup d)/\RpL G H d l e:=r.inv
def Rp.PH(r:Rp G H v (.scr l) F):∃a,v=.ref a/\F=[]/\lj G.K H a l:=r.inv
end
section
def JG:R2:=λx y H Q=>NS (λi j=>.int (i+j)) x y H Q\/(∃i j,x=.str i/\y=.str j/\i.length+j.length<=KM/\Q (.str (i++j)) H)\/Ih x y H Q
def kN:OpR X (binaryOp .Add) JG:=HB.or (vm.or GL)
def oa:eT G JG cu:=by
 intro Z U E H x y u w A z m t Q f e k;have q:=λ{F:W9} (h:List.Sublist F (A++z))=>f.join h;obtain⟨D,x⟩:=x;obtain⟨C,y⟩:=y;obtain⟨same,r1,r2,f1,f2,nd⟩:=f;unfold cu at e;split at e
 ·rename_i i _ j e1 e2;cases e1;cases e2;cases e;exact .inl ⟨_,_,r1.int_inv,r2.int_inv,bE k (.int _)⟩
 ·rename_i s _ p e1 e2;cases e1;cases e2;split at e
  ·rename_i d;cases e;refine .inr (.inl ⟨_,_,r1.str_inv.1,r2.str_inv.1,by rw[dP,dP,← fW];exact d,?_⟩);rw[Hc];exact bE k (.str _ ⟨by rw[Zs];exact d,λc r=>(Zc.mp r).elim (r1.str_inv.2.2 c) (r2.str_inv.2.2 c)⟩)
  ·cases e
 ·rename_i s _ p e1 e2;cases e1;cases e2;obtain⟨a,n,N,rfl,rfl,v,l⟩:=r1.lst_inv;obtain⟨b,o,L,rfl,rfl,hb,g⟩:=r2.lst_inv;obtain⟨_,d,_⟩:=rP e;refine .inr (.inr ⟨a,b,n,o,rfl,rfl,v,hb,?_,jI same e (l.append g) (q ?_) k⟩)
  ·rw[Zs]at d;rw[l.len.1,g.len.1,← fW];exact d
  ·rw[YX];exact(YT _ _).append (YT _ _)
 ·cases e
def Bv:eT G (NS λi j=>.int (i-j)) vi:=by
 intro Z U f H x y u w h g m t Q a e k;obtain⟨d,x⟩:=x;obtain⟨b,y⟩:=y;obtain⟨same,r1,r2,f1,f2,nd⟩:=a;unfold vi at e;split at e
 ·rename_i e1 e2;cases e1;cases e2;cases e;exact⟨_,_,r1.int_inv,r2.int_inv,bE k (.int _)⟩
 ·cases e
def nr:eT G (rI Il λi j=>.int (i/j)) lM:=by
 intro Z U f H x y u w l g m t Q a e k;obtain⟨d,x⟩:=x;obtain⟨b,y⟩:=y;obtain⟨same,r1,r2,f1,f2,nd⟩:=a;unfold lM at e;split at e
 ·rename_i e1 e2;cases e1;cases e2;split at e
  ·rename_i h;cases e;exact⟨_,_,r1.int_inv,r2.int_inv,h,bE k (.int _)⟩
  ·cases e
 ·cases e
def FM:eT G (rI (λ_ j=>0<j) λi j=>.int (i%j)) oMod:=by
 intro Z U f H x y u w l g m t Q a e k;obtain⟨d,x⟩:=x;obtain⟨b,y⟩:=y;obtain⟨same,r1,r2,f1,f2,nd⟩:=a;unfold oMod at e;split at e
 ·rename_i e1 e2;cases e1;cases e2;split at e
  ·rename_i h;cases e;exact⟨_,_,r1.int_inv,r2.int_inv,h,bE k (.int _)⟩
  ·cases e
 ·cases e
theorem nZ:∀(s t:Tx),Os s t=decide (s<t)
 |[],[]=>by simp[Os]
 |[],_ :: _=>by simp[Os]
 |_ :: _,[]=>by simp[Os]
 |a :: s,b :: t=>by
  unfold Os;rw[nZ s t];by_cases e:a<b
  ·simp[e,Wb]
  ·by_cases d:b<a
   ·have:¬a=b:=by exact Wk d
    simp[e,d,Wb,this]
   ·have:a=b:=by lia
    subst this;simp[Wb]
def rLt:R2:=λx y H Q=>NS (λi j=>.bl (decide (i<j))) x y H Q\/(∃i j,x=.str i/\y=.str j/\Q (.bl (decide (i.cps.toList<j.cps.toList))) H)
def se:OpR X (UV .Lt) rLt:=Ig.or yE
def xw:eT G rLt oLt:=by
 intro Z U g H x y u w i h m t Q b e k;obtain⟨f,x⟩:=x;obtain⟨d,y⟩:=y;obtain⟨same,r1,r2,f1,f2,nd⟩:=b;unfold oLt at e;split at e
 ·rename_i e1 e2;cases e1;cases e2;cases e;exact .inl ⟨_,_,r1.int_inv,r2.int_inv,bE k (.bl _)⟩
 ·rename_i s _ a e1 e2;cases e1;cases e2;cases e;refine .inr ⟨_,_,r1.str_inv.1,r2.str_inv.1,?_⟩;have:decide ((sx s).cps.toList<(sx a).cps.toList)=Os s a:=by rw[nZ];exact decide_eq_decide.mpr (by simp[sx])
  rw[this];exact bE k (.bl _)
 ·cases e
def kW:Tells oLt:=by
 intro x y m t e;unfold oLt at e;split at e<;>first | (cases e;exact⟨_,rfl⟩) | cases e
def Hi:UJ=2 ^ 64:=rfl
def Hw:eT G (rI Ej λi j=>.int (i*j)) ie:=by
 intro Z U f H x y u w l g m t Q a e k;obtain⟨d,x⟩:=x;obtain⟨b,y⟩:=y;obtain⟨same,r1,r2,f1,f2,nd⟩:=a;unfold ie at e;split at e
 ·rename_i e1 e2;cases e1;cases e2;split at e
  ·rename_i h;cases e;refine⟨_,_,r1.int_inv,r2.int_inv,?_,bE k (.int _)⟩;rw[Hi]at h;exact h
  ·cases e
 ·cases e
def yW:OpR X (UV .LtE) (λx y H Q=>∃i j,x=.str i/\y=.str j/\Q (.bl (!decide (j.cps.toList<i.cps.toList))) H):=by
 intro a s O H x y v u Q I d b h;obtain⟨i,j,rfl,rfl,q⟩:=h;obtain⟨t,rfl⟩:=d;obtain⟨e,rfl⟩:=b;exact PySem.P.le_str ⟨.bl _,H,I,rfl,q⟩
def rLe:R2:=λx y H Q=>NS (λi j=>.bl (decide (i<=j))) x y H Q\/(∃i j,x=.str i/\y=.str j/\Q (.bl (!decide (j.cps.toList<i.cps.toList))) H)
def Gz:OpR X (UV .LtE) rLe:=HV.or yW
def JE:eT G rLe oLe:=by
 intro Z U g H x y u w i h m t Q b e k;obtain⟨f,x⟩:=x;obtain⟨d,y⟩:=y;obtain⟨same,r1,r2,f1,f2,nd⟩:=b;unfold oLe at e;split at e
 ·rename_i e1 e2;cases e1;cases e2;cases e;exact .inl ⟨_,_,r1.int_inv,r2.int_inv,bE k (.bl _)⟩
 ·rename_i s _ a e1 e2;cases e1;cases e2;cases e;refine .inr ⟨_,_,r1.str_inv.1,r2.str_inv.1,?_⟩;have:decide ((sx a).cps.toList<(sx s).cps.toList)=Os a s:=by rw[nZ];exact decide_eq_decide.mpr (by simp[sx])
  rw[this];exact bE k (.bl _)
 ·cases e
def zw:Tells oLe:=by
 intro x y m t e;unfold oLe at e;split at e<;>first | (cases e;exact⟨_,rfl⟩) | cases e
def vJ{i:Int}:Ll n i=RA n i:=by
 unfold Ll RA;by_cases h:0<=i
 ·rw[Zp h,Zp h]
 ·rw[Zo h,Zo h];by_cases a:0<=i+n
  ·rw[Zp a,Zp (by lia)]
  ·rw[Zo a,Zo (by lia)]
def jt{α:Type}{l:List α}{i:Int}{k:Nat}{x:α}(b:Ll l.length i=Y k)(a:l[k]?=Y x):Sd l i=Y x:=by
 unfold Sd;rw[← vJ,b];exact a
def b6{a:Yx}{F:W9}{i:Nat}(h:a[i]?=Y F):F.Sublist a.flatten:=by
 obtain⟨b,rfl⟩:=Zb.mp h;exact List.sublist_flatten_of_mem (Yu b)
theorem Fp.sub{F:W9}(h:F.Sublist d):∀{m:Md},Fp Z U H m d->Fp Z U H m F
 |.fr,f=>⟨f.1.sublist h,λa b=>f.2 a (h.subset b)⟩
 |.pu,f=>λa b=>f a (h.subset b)
 |.bo,f=>λa b=>f a (h.subset b)
def vq:eT G (rIx G.K) aE:=by
 intro Z U O H x y u w R P m t Q C e k;obtain⟨N,x⟩:=x;obtain⟨L,y⟩:=y;obtain⟨same,r1,r2,f1,f2,nd⟩:=C;unfold aE at e;split at e
 ·rename_i p l o i e1 e2;cases e1;cases e2;obtain⟨j,d,e⟩:=Zz.mp e;obtain⟨x,b,e⟩:=Zy.mp e;obtain⟨a,n,E,rfl,rfl,q,h⟩:=r1.lst_inv;obtain⟨v,F,s,r,g⟩:=h.get j b;refine .inl ⟨a,n,i,v,rfl,r2.int_inv,Kt.of q,jt (by rw[h.len.1];exact d) s,?_⟩;have f:=((f1.sub (YT _ _)).sub (b6 r)).up g;unfold VS.sub at e;rw[e]at f;have z:x=t:=congrArg Prod.snd e;rw[z]at g;exact k v H F (aO.refl _) g f
 ·rename_i p l o i e1 e2;cases e1;cases e2;obtain⟨j,d,e⟩:=Zz.mp e;obtain⟨x,b,e⟩:=Zy.mp e;obtain⟨a,n,E,rfl,rfl,q,h⟩:=r1.Lr;obtain⟨v,F,s,r,g⟩:=h.get j b;refine .inr (.inl ⟨a,n,i,v,rfl,r2.int_inv,LF.of q,jt (by rw[h.len.1];exact d) s,?_⟩);have f:=(f1.sub (b6 r)).up g;unfold VS.sub at e;rw[e]at f;have z:x=t:=congrArg Prod.snd e;rw[z]at g;exact k v H F (aO.refl _) g f
 ·rename_i p l o i e1 e2;cases e1;cases e2;obtain⟨j,d,e⟩:=Zz.mp e;obtain⟨x,b,e⟩:=Zy.mp e;cases e;obtain⟨a,rfl,rfl,sa⟩:=r1.PH;refine .inl ⟨a,l.map V.int,i,.int x,rfl,r2.int_inv,sa.seq,jt (by rw[Zw];exact d) (by rw[ZP,b];rfl),bE k (.int _)⟩
 ·rename_i p l o i e1 e2;cases e1;cases e2;obtain⟨j,d,e⟩:=Zz.mp e;obtain⟨x,b,e⟩:=Zy.mp e;cases e;obtain⟨rfl,A⟩:=r1.str_inv;refine .inr (.inr ⟨sx l,i,x,rfl,r2.int_inv,by rw[dP,← fW];exact A.1,jt (k:=j) (by simpa[sx] using d) (by simpa[sx] using b),?_⟩);exact bE k (.str [x] ⟨by show 1<=fI;decide,λc D=>by rw[ZZ.mp D];exact A.2 x (Yr b)⟩)
 ·cases e
end
section
theorem wq:∀{l:Uv}{d:Yx},x∈LS l d->∃(i:Nat)(v:Val)(F:W9),l[i]?=Y v/\v.1=.fr/\d[i]?=Y F/\x∈F
 |[],_,h=>by simp[LS]at h
 |_ :: _,[],h=>by simp[LS]at h
 |v :: l,F :: d,h=>by
  have go:x∈LS l d->∃(i:Nat)(u:Val)(f:W9),(v :: l)[i]?=Y u/\u.1=.fr/\(F :: d)[i]?=Y f/\x∈f:=λm=>by
   refine L2.ai λs g=>?_;obtain⟨i,u,f,r,q,o,n⟩:=wq m;refine g ?_;exact⟨i+1,u,f,by simpa using r,q,by simpa using o,n⟩
  unfold LS at h;split at h
  ·rename_i j;rcases Zc.mp h with h | h
   ·exact⟨0,v,F,rfl,j,rfl,h⟩
   ·exact go h
  ·exact go h
def ah:Lv G X [] aj:=PA.weak g8 λO H Q d=>by
 obtain⟨Z,U,l,s,e,k⟩:=d;cases (e);exact k [] H [] (aO.refl _) .nil ⟨λi v F h=>by simp at h,by simp[LS]⟩
def ab(E:PV G X e ca)(C:Lv G X es cs)(A:{`q3,K1 e es X}):Lv G X (e :: es) (ae ca cs):=PA.weak (cZ E C A) λO H Q D=>by
 refine L2.ai λP_ n=>?_;obtain⟨Z,U,l,s,e,k⟩:=D;obtain⟨x,R,e⟩:=Zz.mp e;obtain⟨j,P,e⟩:=Zz.mp e;cases e;refine n ?_;refine⟨Z,U,x.1,x.2,s,R,λv H1 F e1 r1 f1=>⟨Z,U,j,s.same e1,P,λm S Fs e2 r2 f2=>k (v :: m) S (F :: Fs) (e1.trans e2) (.cons (r1.same e2) r2) ⟨λi u h g d=>?_,?_⟩⟩⟩
 ·cases i with
  |zero =>
   cases (g);cases (d);exact f1
  |succ i=>exact(f2.each i u h (by simpa using g) (by simpa using d)).back e1
 ·unfold LS;split
  ·rename_i w;rw[w]at f1;refine ZF.mpr ⟨f1.1,f2.nd,λy r z o q=>?_⟩;subst q;obtain⟨i,u,h,g,d,N,L⟩:=wq o;have f:=f2.each i u h g N;rw[d]at f;exact Kn.pe (r1.Kw y r) (f.2 y L)
  ·exact f2.nd
theorem lq:∀{l:Uv},cH l=.fr->∀v∈l,v.1=.fr
 |[],_,v,h=>by simp at h
 | (m,t) :: r,e,v,h=>by
  have d:m.join (cH r)=.fr:=e;rcases Zi.mp h with rfl | h
  ·exact(by
   revert d;cases m<;>cases cH r<;>simp[Md.join])
  ·exact lq (by
   revert d;cases m<;>cases cH r<;>simp[Md.join]) v h
theorem kS:∀{l:Uv},cH l ≠ .bo->∀v∈l,v.1 ≠ .bo
 |[],_,v,h=>by simp at h
 | (m,t) :: r,e,v,h=>by
  have d:m.join (cH r) ≠ .bo:=e;rcases Zi.mp h with rfl | h
  ·exact(by
   revert d;cases m<;>cases cH r<;>simp[Md.join])
  ·exact kS (by
   revert d;cases m<;>cases cH r<;>simp[Md.join]) v h
theorem xV:∀{l:Uv}{d:Yx},l.length=d.length->(∀v∈l,v.1=.fr)->LS l d=d.flatten
 |[],[],_,_=>rfl
 |[],_ :: _,h,_=>by simp at h
 |_ :: _,[],h,_=>by simp at h
 |v :: l,F :: d,h,q=>by
  unfold LS;rw[q v Zv,xV (by simpa using h) λu f=>q u (Zx _ f)];rfl
def gu{d:Yx}(h:x∈d.flatten):∃(i:Nat)(F:W9),d[i]?=Y F/\x∈F:=by
 obtain⟨F,j,f⟩:=V5.mp h;obtain⟨i,g⟩:=List.mem_iff_getElem?.mp j;exact⟨i,F,g,f⟩
def Qx.join(f:Qx Z U H l j)(n:l.length=j.length):Fp Z U H (cH l) j.flatten:=by
 have at':∀x∈j.flatten,∃v F,v∈l/\x∈F/\Fp Z U H v.1 F:=λx d=>by
  obtain⟨i,F,m,g⟩:=gu d;have:i<l.length:=by
   have:=(Zb.mp m).1;lia
  exact⟨l[i],F,Yu this,g,f.each i _ F (Zq this) m⟩
 cases e:cH l with
 |fr =>
  have al:=lq e;refine⟨by rw[← xV n al];exact f.nd,λx d=>?_⟩;obtain⟨v,F,h,g,q⟩:=at' x d;rw[al v h]at q;exact q.2 x g
 |pu =>
  intro x d;obtain⟨v,F,h,g,q⟩:=at' x d;exact Fp.pu ((kS (l:=l) (by rw[e];decide)) v h) q x g
 |bo =>
  intro x d;obtain⟨v,F,h,g,q⟩:=at' x d;exact q.bo x g
structure Args(G:Gx)(Z:Kk)(U:VS.Env)(H0 H:Hp)(l:Uv)(vs:List V)(Fs:Yx):Prop where
 same:aO H0 H
 rp:RpL G H vs (trees l) Fs
 fp:Qx Z U H0 l Fs
theorem Args.len(A:Args G Z U g H l f d):l.length=d.length:=by
 have:=A.rp.len.2;simp[trees]at this;exact Eq.symm this
def fF(G:Gx)(r:List V->Hp->VK->Prop)(f:Uv->Uu):Prop:=∀(Z:Kk)(U:VS.Env)(h H:Hp)(l:Uv)(g:List V)(i:Yx)(m:Md)(t:T)(Q:VK),Args G Z U h H l g i->f l=Y (m,t) →
 (∀v d F,aO H d->Rp G d v t F->Fp Z U h m F->Q v d)->r g H Q
def E6(h:fF G r f)(s:SR G Z U O H)(i:cs U=Y l)(e:f l=Y (m,t))(k:∀v d F,aO H d->Rp G d v t F->Fp Z U H m F->Q v d):tEs G cs O H λg n=>r g n Q :=
 ⟨Z,U,l,s,i,λg d o e1 r1 f1=>h Z U H d l g o m t Q ⟨e1,r1,f1⟩ e λv j F e2 r2 f2=>k v j F (e1.trans e2) r2 f2⟩
def lE(q:dw X (.builtin d) r)(g:fF G r f)(o:Gl X x)(n:X.mg x=J)(h:bootBuiltins x=Y (.builtin d))(u:Lv G X (e :: es) cs)(j:{`q1,x ≠ "__name__"})(w:{`q1,K3 x})(he:{`q3,K1 e es X})(y:{`q3,K2 pos es X}):PV G X (.Call (.Name x p) (e :: es) [] pos) (eN f cs) :=
 PE.weak (oO q o n h u j w he y) λO H Q i=>by
  obtain⟨Z,U,m,t,s,e,k⟩:=i;obtain⟨l,v,e⟩:=Zz.mp e;exact E6 g s v e k
def jH{G:Gx}{X:Cx}{es:List Expr}{cs:Kx}{pos p:Pos}{r:List V->Hp->VK->Prop}{f:Uv->Uu}{Ty:String}{x:Str}(o:dw X (.type Ty) r)(d:fF G r f)(n:Gl X x)(j:X.mg x=J)(g:bootBuiltins x=Y (.type Ty))(q:Lv G X (e :: es) cs)(i:{`q1,x ≠ "__name__"})(v:{`q1,K3 x})(he:{`q3,K1 e es X})(w:{`q3,K2 pos es X}):PV G X (.Call (.Name x p) (e :: es) [] pos) (eN f cs) :=
 PE.weak (p6 o n j g q i v he w) λO H Q h=>by
  obtain⟨Z,U,m,t,s,e,k⟩:=h;obtain⟨l,u,e⟩:=Zz.mp e;exact E6 d s u e k
def cB(h:Lv G X es cs):PV G X (.List es pos) (dN cs):=PE.weak (Gw h) λO H Q f=>by
 obtain⟨Z,U,m,t,s,e,k⟩:=f;obtain⟨l,i,e⟩:=Zz.mp e;refine⟨Z,U,l,s,i,λd n o e1 r1 f1=>?_⟩;have A:Args G Z U H n l d o:=⟨e1,r1,f1⟩
 obtain⟨_,g,_⟩:=rP e;refine⟨by rw[r1.len.1,← fW];exact g,jI e1 e r1 (f1.join A.len) λv j F e2 r2 f2=>k v j F (e1.trans e2) r2 f2⟩
def jV{x1}(h:Lv G X es cs):PV G X (.Tuple es x1 pos) (kB cs):=PE.weak (Fm h) λO H Q d=>by
 obtain⟨Z,U,m,t,s,e,k⟩:=d;obtain⟨l,n,e⟩:=Zz.mp e;refine⟨Z,U,l,s,n,λf g i e1 r1 f1=>?_⟩;have A:Args G Z U H g l f i:=⟨e1,r1,f1⟩
 unfold qw at e;split at e
 ·rename_i j;cases e;refine⟨by rw[r1.len.1,← fW,trees,Zw];exact j,λq d=>?_⟩;have r2:Rp G (upd g q (.tup f)) (.ref q) (.tup (trees l)) i.flatten:=.tup aw (r1.same (cF d));exact k _ _ _ (e1.trans (cF d)) r2 (Fp.up (f1.join A.len) r2)
 ·cases e
def Dw(r:Rp G H v t F)(h:Pe t=Y k):FX G.K v H k:=by
 cases r with
 |non=>cases h;rfl
 |bl b=>cases h;rfl
 |int i=>cases h;rfl
 |str s j =>
  cases h;refine⟨by rw[dP,← fW];exact j.1,?_⟩;rw[dP];cases s with
  |nil=>rfl
  |cons a r =>
   have:((List.length (a :: r):Int) != 0)=M:=by simp;lia
   rw[this];rfl
 |scr d=>cases h
 |tup d q =>
  cases h;refine .inr (.inl ⟨_,LF.of d,?_⟩);have:=q.len.1;rename_i f g _;cases f<;>cases g<;>simp_all
 |lst d q =>
  cases h;refine .inl ⟨_,Kt.of d,?_⟩;have:=q.len.1;rename_i f g _;cases f<;>cases g<;>simp_all
 |dct d j q =>
  cases h;refine .inr (.inr ⟨_,d,?_⟩);have:=q.len.1;rename_i l f g _;cases l<;>cases f<;>cases g<;>simp_all
 |dctT d j q=>cases h
 |dctN d j n q=>cases h
 |dctZ _ _ _=>cases h
 |exc _ _=>cases h
 |ins _ _ _ _=>cases h
 |mk _ _=>cases h
def v7(h:PV G X a ca)(d:{`q3,X.K=G.K})(he:{`q2,∀whole,isTrue a X.env whole=(do let v ← whole;standAt a.pos;holding [v] (truthy v))}):MA G X a ca :=
 PT.weak (Ad h he) λO H Q ⟨Z,U,m,r,b,s,e,f,k⟩=>⟨Z,U,m,r,s,e,λv g F e1 r1 f1=>⟨b,by rw[d];exact Dw r1 f,k g e1⟩⟩
def Oi(G:Gx)(X:Cx)(e:Expr)(c:Ex):Prop:=PW X e (tT G c)
def PW.weak{X:Cx}{e:Expr}{f:TT}(h:PW X e t)(w:∀O H Q,f O H Q->t O H Q):PW X e f:=λg d s O H Q I q=>h g d s O H Q I (w O H Q q)
def Oi.Rr(h:Oi G X e ca):MA G X e ca:=PW.pt h
def uD(e:l5 ca cb U=Y (m,r)):(∃n,ca U=Y (n,.bl M)/\cb U=Y (m,r))\/(∃n,ca U=Y (n,.bl B)/\m=.fr/\r=.bl B):=by
 obtain⟨⟨n,x⟩,d,e⟩:=Zz.mp e;split at e
 ·rename_i h;cases (h);exact .inl ⟨n,d,e⟩
 ·rename_i h;cases (h);cases e;exact .inr ⟨n,d,rfl,rfl⟩
 ·cases e
def CD(e:P0 ca cb U=Y (m,r)):(∃n,ca U=Y (n,.bl B)/\cb U=Y (m,r))\/(∃n,ca U=Y (n,.bl M)/\m=.fr/\r=.bl M):=by
 obtain⟨⟨n,x⟩,d,e⟩:=Zz.mp e;split at e
 ·rename_i h;cases (h);cases e;exact .inr ⟨n,d,rfl,rfl⟩
 ·rename_i h;cases (h);exact .inl ⟨n,d,e⟩
 ·cases e
def rN{G:Gx}{X:Cx}{a:Expr}{ca cb:Ex}{pos:Pos}{rest:List Expr}(j:MA G X a ca)(i:Oi G X (.BoolOp .And (b :: rest) pos) cb):Oi G X (.BoolOp .And (a :: b :: rest) pos) (l5 ca cb) :=
 PW.weak (Bp j i) λO H Q h=>by
  obtain⟨Z,U,m,r,k,s,e,f,q⟩:=h;rcases uD e with⟨n,d,e2⟩ | ⟨n,d,rfl,rfl⟩
  ·refine⟨Z,U,n,_,M,s,d,rfl,λg e1=>?_⟩;refine yI ?_;exact⟨Z,U,m,r,k,s.same e1,e2,f,λl e2=>q l (e1.trans e2)⟩
  ·refine⟨Z,U,n,_,B,s,d,rfl,λg e1=>?_⟩;refine yT ?_;cases f;exact q g e1
def oB{G:Gx}{X:Cx}{a:Expr}{ca cb:Ex}{pos:Pos}{rest:List Expr}(j:MA G X a ca)(i:Oi G X (.BoolOp .Or (b :: rest) pos) cb):Oi G X (.BoolOp .Or (a :: b :: rest) pos) (P0 ca cb) :=
 PW.weak (IA j i) λO H Q h=>by
  obtain⟨Z,U,m,r,k,s,e,f,q⟩:=h;rcases CD e with⟨n,d,e2⟩ | ⟨n,d,rfl,rfl⟩
  ·refine⟨Z,U,n,_,B,s,d,rfl,λg e1=>?_⟩;refine yT ?_;exact⟨Z,U,m,r,k,s.same e1,e2,f,λl e2=>q l (e1.trans e2)⟩
  ·refine⟨Z,U,n,_,M,s,d,rfl,λg e1=>?_⟩;refine yI ?_;cases f;exact q g e1
def uI(e:rQ ca U=Y (m,r)):∃n b,ca U=Y (n,.bl b)/\m=.fr/\r=.bl (!b):=by
 obtain⟨⟨n,x⟩,d,e⟩:=Zz.mp e;split at e
 ·rename_i b h;cases (h);cases e;exact⟨n,b,d,rfl,rfl⟩
 ·cases e
def nM(f:MA G X a ca):MA G X (.UnaryOp .Not a pos) (rQ ca):=PT.weak (Cj f) λO H Q d=>by
 obtain⟨Z,U,m,r,k,s,e,g,q⟩:=d;obtain⟨n,b,h,rfl,rfl⟩:=uI e;cases g;exact⟨Z,U,n,_,b,s,h,rfl,λi e1=>q i e1⟩
def Hb(f:PV G X a ca):PV G X (.UnaryOp .Not a pos) (rQ ca):=PE.weak (Fl f) λO H Q d=>by
 obtain⟨Z,U,m,r,s,e,q⟩:=d;obtain⟨n,b,g,rfl,rfl⟩:=uI e;exact⟨Z,U,n,_,s,g,λv h F e1 r1 f1=>⟨b,r1.Lf,q _ h _ e1 (.bl _) Fp.nil⟩⟩
def FS{op}(h:PV G X a ca):PV G X (.BoolOp op [a] pos) ca:=GS h
def Gg{G:Gx}{X:Cx}{a:Expr}{ca cb:Ex}{pos:Pos}{rest:List Expr}(i:PV G X a ca)(h:PV G X (.BoolOp .And (b :: rest) pos) cb):PV G X (.BoolOp .And (a :: b :: rest) pos) (l5 ca cb) :=
 PE.weak (FW i h) λO H Q g=>by
  obtain⟨Z,U,m,r,s,e,q⟩:=g;rcases uD e with⟨n,d,e2⟩ | ⟨n,d,rfl,rfl⟩
  ·refine⟨Z,U,n,_,s,d,λv f F e1 r1 f1=>⟨M,r1.Lf,?_⟩⟩;refine yI ?_;exact⟨Z,U,m,r,s.same e1,e2,λv j F e2 r2 f2=>q v j F (e1.trans e2) r2 (f2.back e1)⟩
  ·refine⟨Z,U,n,_,s,d,λv f F e1 r1 f1=>⟨B,r1.Lf,?_⟩⟩;refine yT ?_;exact q _ f _ e1 (.bl _) Fp.nil
def xf(r:Rp G H v t F):decide (v=.non)=Sw t:=by
 cases r<;>simp[Sw]
def Fe{c:Ex}(h:tT G c O H Q)(f:∀U m r,c U=Y (m,r)->∃b,r=.bl b)(w:∀Q,tE G c O H Q->t O H Q):tB t O H Q:=by
 obtain⟨Z,U,m,r,b,s,e,d,k⟩:=h;refine w _ ⟨Z,U,m,r,s,e,λv i F e1 r1 f1=>?_⟩;obtain⟨j,g⟩:=f U m r e;rw[g]at d r1;cases (d);exact⟨_,r1.Lf,k i e1⟩
end
section
def RpL.one(r:RpL G H d [t] f):∃v F,d=[v]/\f=[F]/\Rp G H v t F:=by
 cases r with
 |cons r q=>cases q;exact⟨_,_,rfl,rfl,r⟩
def Ir(K:X2):List V->Hp->VK->Prop:=λd H Q=>(∃x n,d=[x]/\JA K x H n/\Q (.int n) H)\/(∃a f,d=[V.ref a]/\H a=Y (.dK f)/\Q (.int f.length) H)
def vC:dw X (.builtin "len") (λf H Q=>∃a d,f=[V.ref a]/\H a=Y (.dK d)/\Q (.int d.length) H):=by
 intro g s O H f m Q I r h;obtain⟨a,d,rfl,j,q⟩:=h;obtain⟨u,rfl,i⟩:=vals1 r;cases i;exact IZ I (.inl j) λt n l=>⟨.int d.length,H,l,⟨t,rfl⟩,q⟩
def yY:dw X (.builtin "len") (Ir X.K):=AR.or vC
def Hg:fF G (Ir G.K) cq:=by
 intro Z U C H l o D m t Q A e k;refine L2.ai λz f=>?_;unfold cq at e;split at e
 ·rename_i x;obtain⟨w,x⟩:=x;obtain⟨n,d,e⟩:=Zy.mp e;cases e;obtain⟨v,F,rfl,rfl,r⟩:=(A.rp).one;have fin:=bE k (.int _);cases r with
  |non=>cases d
  |bl b=>cases d
  |int i=>cases d
  |str s g =>
   cases d;refine f ?_;exact .inl ⟨_,_,rfl,⟨by rw[dP,← fW];exact g.1,rfl⟩,by rw[dP];exact fin⟩
  |scr h =>
   cases d;refine f ?_;refine .inl ⟨_,_,rfl,.inl ⟨_,h.seq,rfl⟩,?_⟩;rw[Zw];exact fin
  |tup h q =>
   cases d;refine f ?_;refine .inl ⟨_,_,rfl,.inr ⟨_,LF.of h,rfl⟩,?_⟩;rw[q.len.1];exact fin
  |lst h q =>
   cases d;refine f ?_;refine .inl ⟨_,_,rfl,.inl ⟨_,Kt.of h,rfl⟩,?_⟩;rw[q.len.1];exact fin
  |dct h g q =>
   cases d;refine f ?_;refine .inr ⟨_,_,rfl,h,?_⟩;rename_i y j u _;rw[YL,Zw]at fin;rw[YL,q.len.1];exact fin
  |dctT h g q=>cases d
  |dctN h g n q=>cases d
  |dctZ _ _ _=>cases d
  |exc _ _=>cases d
  |ins _ _ _ _=>cases d
  |mk _ _=>cases d
 ·cases e
def E2(K:X2):List V->Hp->VK->Prop:=λf H Q=>∃p d,f=[.ref p]/\(Kt K H p d\/LF K H p d)/\∀l,H l=J->Q (.ref l) (upd H l (.lst d))
def xq:fF G (E2 G.K) EE:=by
 intro Z U o H l n q m t Q A e k;unfold EE at e;split at e
 ·rename_i i x;obtain⟨v,F,rfl,rfl,f⟩:=(A.rp).one;obtain⟨a,d,j,rfl,rfl,h,g⟩:=f.lst_inv;exact⟨a,d,rfl,.inl (Kt.of h),jI A.same e g ((A.fp.each 0 _ _ L L).sub (YT _ _)) k⟩
 ·rename_i i x;obtain⟨v,F,rfl,rfl,f⟩:=(A.rp).one;obtain⟨a,d,j,rfl,rfl,h,g⟩:=f.Lr;exact⟨a,d,rfl,.inr (LF.of h),jI A.same e g (A.fp.each 0 _ _ L L) k⟩
 ·cases e
def tO(G:Gx)(c:Option Ex):TO:=λO H Q=>∃Z U o,SR G Z U O H/\sL c U=Y o/\∀d,aO H d->Q o d
def PVO(G:Gx)(X:Cx)(e:Option Expr)(c:Option Ex):Prop:=PO X e (tO G c)
def PO.weak{X:Cx}{e:Option Expr}{f:TO}(h:PO X e t)(w:∀O H Q,f O H Q->t O H Q):PO X e f:=λd s O H Q I q=>h d s O H Q I (w O H Q q)
def lC:PVO G X J J:=PO.weak xY λO H Q d=>by
 obtain⟨Z,U,o,s,e,k⟩:=d;cases (e);exact k H (aO.refl _)
def lh(h:PV G X a ca):PVO G X (Y a) (Y ca):=PO.weak (yb h) λO H Q f=>by
 obtain⟨Z,U,o,s,e,k⟩:=f;obtain⟨⟨m,y⟩,g,e⟩:=Zz.mp (e);obtain⟨i,d,e⟩:=Zy.mp e;cases e;refine⟨Z,U,m,y,s,g,λv l F e1 r1 f1=>?_⟩;cases y with
 |int j =>
  cases d;exact⟨_,r1.int_inv,k l e1⟩
 |_=>cases d
def lY{α:Type}(l:List α)(d f:Option Int):cut l d f=(l.drop (HT.Lj l.length 0 d)).take (HT.Lj l.length l.length f-HT.Lj l.length 0 d):=by
 cases d<;>cases f<;>rfl
theorem ON(a:Int)(n:Nat):max 0 (min a (n:Int))=((min a.toNat n:Nat):Int):=L2.ON a n
def U8{k:Nat}(h:(k:Nat)<=n):max 0 (min (k:Int) (n:Int))=(k:Int):=by rw[ON,Y7,YV h]
def CF(a:Int)(n:Nat):max 0 (min a (n:Int))=max 0 (min ((min a.toNat n:Nat):Int) (n:Int)):=by
 rw[ON,ON,Y7,Nat.min_assoc,Wj]
def Ak(d f:Option Int)(n:Nat):Builtin.Str.strSliceIndices d f 1 n=Builtin.Str.strSliceIndices (Y ((min (HT.Lj n 0 d) n:Nat):Int)) (Y ((min (HT.Lj n n f) n:Nat):Int)) 1 n:=by
 have nn:∀k:Nat,¬((k:Int)<0):=λk=>by lia
 unfold Builtin.Str.strSliceIndices;simp only[show (1:Int) > 0 by decide,if_true,nn,if_false];congr 1
 ·cases d with
  |none=>simp only[HT.Lj];rw[ON,Y7,Nat.zero_min,Nat.zero_min];rfl
  |some i =>
   simp only[HT.Lj];by_cases h:i<0
   ·simp only[h,if_true];exact CF _ _
   ·simp only[h,if_false];rw[Nat.min_assoc,Wj];exact CF _ _
 ·cases f with
  |none=>simp only[HT.Lj];rw[ON,Y7,Wj,Wj]
  |some i =>
   simp only[HT.Lj];by_cases h:i<0
   ·simp only[h,if_true];exact CF _ _
   ·simp only[h,if_false];rw[Nat.min_assoc,Wj];exact CF _ _
def jQ(s:Tx)(d f:Option Int):PySem.StrLaws.sliceText (sx s) d f=sx (cut s d f):=by
 have key:PySem.StrLaws.sliceText (sx s) d f=PySem.StrLaws.sliceText (sx s) (Y ((min (HT.Lj s.length 0 d) s.length:Nat):Int)) (Y ((min (HT.Lj s.length s.length f) s.length:Nat):Int)):=by
  unfold PySem.StrLaws.sliceText;rw[dP,Ak]
 rw[key];have hd:∀a:Nat,s.drop (min a s.length)=s.drop a:=λa=>by
  by_cases h:a<=s.length
  ·rw[YV h]
  ·rw[Vy (by exact WZ h),XO (Zn _),XO (by exact WZ h)]
 by_cases h:min (HT.Lj s.length 0 d) s.length<=min (HT.Lj s.length s.length f) s.length
 ·rw[PySem.StrLaws.sliceText_nat (sx s) h (by rw[dP];exact Xq _ _),lY];show (⟨_⟩:Str)=⟨_⟩;congr 2;have:(sx s).cps.toList=s:=rfl;rw[this,hd];by_cases i:HT.Lj s.length 0 d<=s.length
  ·rw[YV i];by_cases g:HT.Lj s.length s.length f<=s.length
   ·rw[YV g]
   ·rw[Vy (by exact WZ g),Ys (by rw[Yz];exact Zn _),Ys (by rw[Yz];lia)]
  ·rw[XO (by exact WZ i)];simp
 ·have j:cut s d f=[]:=by
   rw[lY];have:HT.Lj s.length s.length f-HT.Lj s.length 0 d=0:=by omega
   rw[this,List.take_zero]
  rw[j];unfold PySem.StrLaws.sliceText;have e2:Builtin.Str.strSliceIndices (Y ((min (HT.Lj s.length 0 d) s.length:Nat):Int)) (Y ((min (HT.Lj s.length s.length f) s.length:Nat):Int)) 1 (sx s).length=[]:=by
   have e1:∀k:Nat,¬((k:Int)<0):=λk=>by lia
   unfold Builtin.Str.strSliceIndices sliceRange;simp only[show (1:Int) > 0 by decide,if_true,e1,if_false,dP];rw[U8 (Xq _ _),U8 (Xq _ _),Zo λz=>h (ZQ (Int.ofNat_lt.mp z))];rfl
  rw[e2];have:¬((1:Int)==1&&([]:Uz).length==(sx s).length)=M:=by
   rw[dP];simp;lia
  rw[Zo this];rfl
noncomputable def Jh:V->Option Int->Option Int->Hp->VK->Prop:=λx lo d H Q=>∃z,x=.str z/\z.length<=KM/\Q (.str (PySem.StrLaws.sliceText z lo d)) H
def part_of(h:IsPart v o):∃q:Option (Int×Tok),v=partValue q/\o=q.map (·.1):=by
 cases h with
 |none=>exact⟨J,rfl,rfl⟩
 |int i t=>exact⟨Y (i,t),rfl,rfl⟩
def qK{α β:Type}(f:α->Option β)(l:List α):(l.filterMap f).length<=l.length:=List.length_filterMap_le f l
def CV(d f:Option Int)(n:Nat):(Builtin.Str.strSliceIndices d f 1 n).length<=n:=by
 rw[Ak];by_cases h:min (HT.Lj n 0 d) n<=min (HT.Lj n n f) n
 ·rw[PySem.StrLaws.strSliceIndices_plain h (by exact Xq _ _),Zw,MH];lia
 ·have e1:∀k:Nat,¬((k:Int)<0):=λk=>by lia
  unfold Builtin.Str.strSliceIndices sliceRange;simp only[show (1:Int) > 0 by decide,if_true,e1,if_false];rw[U8 (Xq _ _),U8 (Xq _ _),Zo λz=>h (ZQ (Int.ofNat_lt.mp z))];simp
def Ce:QZ X Jh:=by
 intro f s O H x v r o lo y w Q I g n i pu h;refine L2.ai λA j=>?_;obtain⟨z,rfl,m,q⟩:=h;obtain⟨t,rfl⟩:=g;obtain⟨l,rfl,rfl⟩:=part_of i;obtain⟨u,rfl,rfl⟩:=part_of pu;refine j ?_;refine⟨"str",_,F.slot_str_getitem.lookup,typeIs_str s z t,wpAny_getItem_str_slice (l:=l) (u:=u) (st:=J) n L ?_⟩;unfold sliceMade;split
 ·rename_i d;refine⟨.str z,H,I,⟨t,rfl⟩,?_⟩;have e:PySem.StrLaws.sliceText z (l.map (·.1)) (u.map (·.1))=z:=by
   exact Zp d
  rw[e]at q;exact q
 ·rename_i d;refine⟨ZR ?_ m,.str _,H,I.tok _,⟨_,rfl⟩,?_⟩
  ·show (List.filterMap _ _).toArray.size<=_;rw[ZE];exact ZR (qK _ _) (CV _ _ _)
  ·have e:PySem.StrLaws.sliceText z (l.map (·.1)) (u.map (·.1))=⟨((slicePicked z l u J).filterMap (z.cps[·]?)).toArray⟩:=by
    exact Zo d
   rw[e]at q;exact q
def rSl(K:X2):V->Option Int->Option Int->Hp->VK->Prop:=λx lo d H Q=>Jh x lo d H Q\/IV K x lo d H Q
def JX:QZ X (rSl X.K):=Ce.or DO
def xk{α:Type}(l:List α)(d f:Option Int):(cut l d f).length<=l.length:=by
 rw[lY,Yv,Yz];lia
theorem RpL.cut{f:Ut}(r:RpL G H d f g)(lo hi:Option Int):RpL G H (AW d lo hi) (VS.cut f lo hi) (VS.cut g lo hi):=by
 have h:=r.len;rw[lY,lY,h.2];unfold AW;rw[h.1];exact(r.drop _).take _
def rD{α:Type}(l:List α)(d f:Option Int):(VS.cut l d f).Sublist l:=by
 rw[lY];exact(List.take_sublist _ _).trans (List.drop_sublist _ _)
def zT{F G:Yx}(h:F.Sublist G):F.flatten.Sublist G.flatten:=by
 induction h with
 |slnil=>exact Wf _
 |cons a _ d=>rw[ZG];exact d.trans (Xm _ _)
 |cons_cons a _ d=>rw[ZG,ZG];exact(Wf _).append d
def kG(ha:PV G X a ca)(f:PVO G X j r)(R:PVO G X n u)(hK:{`q3,X.K=G.K}):PV G X (.Subscript a (.Slice j n J D) pos) (PZ ca r u) :=
 PE.weak (tQ JX ha f R) λO H Q P=>by
  refine L2.ai λP_ N=>?_;obtain⟨Z,U,m,t,s,e,k⟩:=P;obtain⟨⟨E,x⟩,ea,o⟩:=Zz.mp e;obtain⟨l,el,w⟩:=Zz.mp o;obtain⟨h,eh,g⟩:=Zz.mp w;refine N ?_;clear e o w;refine⟨Z,U,E,x,s,ea,λv H1 F e1 r1 f1=>⟨Z,U,l,s.same e1,el,λH2 e2=>⟨Z,U,h,(s.same e1).same e2,eh,λH3 e3=>?_⟩⟩⟩;have d:=(e1.trans e2).trans e3;have i:=(r1.same e2).same e3;unfold oSl at g;split at g
  ·rename_i L z q;cases q;cases g;obtain⟨rfl,f⟩:=i.str_inv;refine .inl ⟨_,rfl,by rw[dP,← fW];exact f.1,?_⟩;rw[jQ];exact k _ H3 _ d (.str _ ⟨ZR (xk _ _ _) f.1,λc S=>f.2 c ((rD _ _ _).subset S)⟩) Fp.nil
  ·rename_i L z q;cases q;obtain⟨a',y,Fs,rfl,rfl,Kq,A⟩:=i.lst_inv;refine .inr ⟨a',y,rfl,by rw[hK];exact Kt.of Kq,jI d g (A.cut l h) ((f1.sub (YT _ _)).sub (zT (rD _ _ _))) λv H4 F e5 C f4=>k v H4 F (d.trans e5) C f4⟩
  ·cases g
noncomputable def Om:Ty->String
 |.int => "int"
 |.str => "str"
 |.bool => "bool"
 |.list => "list"
 |.tuple => "tuple"
 |.dict => "dict"
def rIs(K:X2):List V->Hp->VK->Prop:=λd H Q=>∃x c t b,d=[x,.ty c]/\LL K H x t/\PySem.W.kitOne K t (.type c)=Y b/\Q (.bl b) H
def Do:dw X (.builtin "isinstance") (rIs X.K):=by
 intro d s O H f i Q I r h;obtain⟨x,c,t,b,rfl,ty,e,q⟩:=h;obtain⟨u,g,rfl,r1,r2⟩:=vals2 r;cases r2;exact y9 I r1 ty e λj=>⟨.bl b,H,I.tok _,rfl,q⟩
def Dp(K:X2)(d:Ty):(PySem.W.kitOne K (.type "NoneType") (.type (Om d))=Y B)/\(PySem.W.kitOne K (.type "bool") (.type (Om d))=Y (tK d (.bl M)))/\(PySem.W.kitOne K (.type "int") (.type (Om d))=Y (tK d (.int 0))) ∧
  (PySem.W.kitOne K (.type "str") (.type (Om d))=Y (tK d (.str [])))/\(PySem.W.kitOne K (.type "list") (.type (Om d))=Y (tK d (.lst [])))/\(PySem.W.kitOne K (.type "tuple") (.type (Om d))=Y (tK d (.tup [])))/\(PySem.W.kitOne K (.type "dict") (.type (Om d))=Y (tK d (.dct 0 []))):=by
 cases d<;>refine⟨?_,?_,?_,?_,?_,?_,?_⟩<;>kernel_rfl
def HP(d:Ty)(r:Rp G H v t F)(h:xm t=M):∃g,LL G.K H v g/\PySem.W.kitOne G.K g (.type (Om d))=Y (tK d t):=by
 obtain⟨y,x,w,u,o,m,j⟩:=Dp G.K d;cases r with
 |non=>exact⟨_,.non,by rw[y];cases d<;>rfl⟩
 |bl b=>exact⟨_,.bl b,by rw[x];cases d<;>rfl⟩
 |int i=>exact⟨_,.int i,by rw[w];cases d<;>rfl⟩
 |str s _=>exact⟨_,.str _,by rw[u];cases d<;>rfl⟩
 |scr _=>cases h
 |tup f q=>exact⟨_,.tup f,by rw[m];cases d<;>rfl⟩
 |lst f q=>exact⟨_,.lst f,by rw[o];cases d<;>rfl⟩
 |dct f l q=>exact⟨_,.dK f,by rw[j];cases d<;>rfl⟩
 |dctT f l q=>exact⟨_,.dT f,by rw[j];cases d<;>rfl⟩
 |dctN f l n q=>simp at h
 |dctZ _ _ _=>cases h
 |exc _ _=>cases h
 |ins _ _ _ _=>cases h
 |mk _ _=>cases h
def Ij(f:Ty)(C:PV G X a ca)(A:Gl X "isinstance")(w:X.mg "isinstance" = J)(P:Gl X x)(R:X.mg x=J)(q:bootBuiltins x=Y (.type (Om f)))(i:{`q3,X.K=G.K})(u:{`q1,x ≠ "__name__"})(Lq:{`q1,K3 x})(h:{`q3,P3 [a,.Name x d] X.env=(B,eval a X.env) :: P3 [.Name x d] X.env})(S:{`q3,P3 [.Name x d] X.env=(B,eval (.Name x d) X.env) :: P3 [] X.env})(KQ:{`q3,(backTo pos (P3 [Expr.Name x d] X.env)).any (·.1)=B}) :
  PV G X (.Call (.Name "isinstance" l) [a,.Name x d] [] pos) (eIs f ca) :=
 PE.weak (oO Do A w boot_isinstance (cZ C (cZ (Cp (v:=.ty (Om f)) P R q L u Lq) g8 S) h) (by decide) L h KQ) λO H Q r=>by
  refine L2.ai λP_ o=>?_;obtain⟨Z,U,m,t,s,e,k⟩:=r;obtain⟨⟨n,y⟩,N,g⟩:=Zz.mp e;refine o ?_;split at g
  ·rename_i z;cases g;refine⟨Z,U,n,y,s,N,λv H' F e1 r1 f1=>?_⟩;obtain⟨j,E,D⟩:=HP f r1 z;exact⟨v,Om f,j,_,rfl,by rw[i];exact E,by rw[i];exact D,k _ H' _ e1 (.bl _) Fp.nil⟩
  ·cases g
end
section
def Ik(G:Gx)(r:V->List V->Hp->VK->Prop)(f:Val->Uv->Uu):Prop:=∀(Z:Kk)(U:VS.Env)(d i H:Hp)(x:Val)(v:V)(F:W9)(l:Uv)(h:List V)(j:Yx)(m:Md)(t:T)(Q:VK),
 aO d i->Rp G H v x.2 F->Fp Z U d x.1 F->Args G Z U i H l h j->f x l=Y (m,t)->(∀v g F,aO H g->Rp G g v t F->Fp Z U d m F->Q v g)->r v h H Q
def IJ{g:Pos}(A:PlainAttrs n)(h:Slot n d j)(RH:typeOf (.builtin j)=pure (.type "method_descriptor"))(P:UH X j r)(C:Ik G r f)(S:∀H v (x:Val) F l z,Rp G H v x.2 F->f x l=Y z->QA G.K n v H)(N:PV G X a ca)(R:Lv G X (e :: es) cs)(hK:{`q3,X.K=G.K})(Kv:{`q3,XAC a d X.env (eval a X.env)=eval a X.env})(K5:{`q3,((backTo i (P3 (e :: es) X.env)).all (λx=>!x.1)&&(backToKw i (SZ [] X.env)).all (λx=>x.1.isSome)
   && decide ((e :: es).length+([]:List Keyword).length+(if ([]:List Keyword).isEmpty then 0 else 1)<30))=M})(Kr:{`q3,(g.endLine==i.line)=M})(E:{`q3,K1 e es X})(Kl:{`q3,K2 i es X}) :
  PV G X (.Call (.Attribute a d g) (e :: es) [] i) (eM f ca cs) :=
 PE.weak (qk A h RH P N R Kv K5 Kr E Kl) λO H Q L=>by
  refine L2.ai λP_ D=>?_;obtain⟨Z,U,m,t,s,e,k⟩:=L;obtain⟨x,ea,e'⟩:=Zz.mp e;obtain⟨l,el,o⟩:=Zz.mp e';refine D ?_;refine⟨Z,U,x.1,x.2,s,ea,λv q F e1 r1 f1=>⟨by rw[hK];exact S q v x F l _ r1 o,Z,U,l,s.same e1,el,λu H2 Fs e2 r2 f2=>?_⟩⟩;exact C Z U H q H2 x v F l u Fs m t Q e1 (r1.same e2) f1 ⟨e2,r2,f2⟩ o λw H3 F' e3 y f3=>k w H3 F' ((e1.trans e2).trans e3) y f3
def Dh:∀(sep:Tx)(d:List Tx),Txt.join (sx sep) (d.map sx)=sx (dy sep d):=by
 intro sep d;have fold:∀(l:List Tx)(acc:Tx),(l.map sx).foldl (λacc p=>acc++(sx sep).cps++p.cps) acc.toArray=(l.foldl (λacc p=>acc++sep++p) acc).toArray:=by
  intro l
  induction l with
  |nil=>intro acc;rfl
  |cons x r f =>
   intro acc;rw[Zm,Y9,Y9,← f];congr 1;simp[sx]
 have g:∀(r:List Tx)(acc:Tx),r.foldl (λacc p=>acc++sep++p) acc=dy sep (acc :: r):=by
  intro r
  induction r with
  |nil=>intro acc;rfl
  |cons x r f =>
   intro acc;rw[Y9,f];cases r with
   |nil=>rfl
   |cons y r=>simp[dy]
 cases d with
 |nil=>rfl
 |cons x r =>
  show (⟨_⟩:Str)=⟨_⟩;congr 1;show ((r.map sx).foldl _ x.toArray)=_;rw[fold,g]
theorem rn:∀{d:List V}{l:Ut}{g:Yx}{f:List Tx},RpL G H d l g->strs? l=Y f->d=f.map λs=>V.str (sx s)
 |_,_,_,_,.nil,e=>by cases e;rfl
 |_,_,_,_,.cons (t:=t) r q,e=>by
  cases t with
  |str s =>
   obtain⟨h,e1,e2⟩:=Zy.mp e;subst e2;rw[rn q e1,r.str_inv.1];rfl
  |_=>cases e
theorem og:∀{d:List Tx}{f:Vz},aP (d.map λs=>V.str (sx s)) f->StrsAre f (d.map sx)
 |[],_,h=>by cases h;exact .nil
 |s :: d,_,h=>by
  cases h with
  |cons r q =>
   obtain⟨t,rfl⟩:=r;exact .cons _ _ (og q)
def rJoin(K:X2):V->List V->Hp->VK->Prop:=λx f H Q=>∃sep p d,x=.str (sx sep)/\f=[.ref p]/\Kt K H p (d.map λs=>V.str (sx s))/\total d+d.length*sep.length<=16777216/\Q (.str (sx (dy sep d))) H
theorem wJ:∀d:List Tx,((d.map sx).map (·.length)).sum=total d
 |[]=>rfl
 |s :: r=>by
  rw[Zm,Zm,Xf,wJ r,dP];rfl
def ya:UH X "str.join" (rJoin X.K):=by
 intro f s O H x o v w Q I g d h;refine L2.ai λD l=>?_;obtain⟨sep,p,z,rfl,rfl,m,n,q⟩:=h;obtain⟨t,rfl⟩:=g;obtain⟨u,rfl,i⟩:=vals1 d;cases i;obtain⟨A,r,j,C⟩:=I.list m;refine l ?_;refine join_list j.isList (by simpa using og r) ?_ λy k=>⟨.str _,H,I.tok _,⟨_,by rw[Dh]⟩,q⟩
 rw[wJ,Zw,dP];exact n
theorem jZ(d:Tx):∀f:List Tx,(dy d f).length<=total f+f.length*d.length
 |[]=>by simp[dy,total]
 |[x]=>by simp[dy,total]
 |x :: y :: r=>by
  have:=jZ d (y :: r);simp only[dy,total,Zs,Zf]at this ⊢;lia
theorem j5(d:Tx):∀(f:List Tx)(c:Nat),c∈dy d f->c∈d\/∃s∈f,c∈s
 |[],c,h=>by simp[dy]at h
 |[x],c,h=>.inr ⟨x,Zv,h⟩
 |x :: y :: r,c,h=>by
  simp only[dy,Zc]at h;rcases h with (h | h) | h
  ·exact .inr ⟨x,Zv,h⟩
  ·exact .inl h
  ·refine(j5 d (y :: r) c h).imp id λj=>?_;obtain⟨s,g,i⟩:=j;exact⟨s,Zx _ g,i⟩
theorem j4:∀{g:List V}{l:Ut}{h:Yx}{f:List Tx},RpL G H g l h->strs? l=Y f->∀s∈f,∀c∈s,c<1114112
 |_,_,_,_,.nil,e,s,d=>by cases e;simp at d
 |_,_,_,_,.cons (t:=t) r q,e,s,d=>by
  cases t with
  |str x =>
   obtain⟨i,e1,e2⟩:=Zy.mp e;subst e2;rcases Zi.mp d with rfl | d
   ·exact r.str_inv.2.2
   ·exact j4 q e1 s d
  |_=>cases e
def D5:Ik G (rJoin G.K) lK:=by
 intro Z U R P H x v F l E Fs m t Q o r f A e k;unfold lK at e;split at e
 ·rename_i L sep N O;obtain⟨d,n,g⟩:=Zz.mp e;split at g
  ·rename_i i;cases g;obtain⟨D,F',rfl,rfl,s⟩:=(A.rp).one;obtain⟨w,C,S,rfl,rfl,j,h⟩:=s.lst_inv;rw[rn h n]at j;refine⟨sep,w,d,r.str_inv.1,rfl,Kt.of j,i,bE k (.str _ ⟨ZR (jZ sep d) i,λc u=>(j5 sep d c u).elim (r.str_inv.2.2 c) λ⟨q,y,z⟩=>j4 h n q y c z⟩)⟩
  ·cases g
 ·cases e
def t7(r:Rp G H v t F)(h:∃s,t=.str s):QA G.K "str" v H:=by
 obtain⟨s,rfl⟩:=h;rw[r.str_inv.1];rfl
def Cs{d:Pos}(i:PV G X a ca)(j:Lv G X [e] cs)(g:{`q3,X.K=G.K})(m:{`q3,XAC a "join" X.env (eval a X.env)=eval a X.env})(q:{`q3,((backTo f (P3 [e] X.env)).all (λx=>!x.1)&&(backToKw f (SZ [] X.env)).all (λx=>x.1.isSome)
   && decide ([e].length+([]:List Keyword).length+(if ([]:List Keyword).isEmpty then 0 else 1)<30))=M})(n:{`q3,(d.endLine==f.line)=M})(h:{`q3,K1 e [] X})(o:{`q3,(backTo f (P3 [] X.env)).any (·.1)=B}) :
  PV G X (.Call (.Attribute a "join" d) [e] [] f) (eM lK ca cs) :=
 IJ PySem.F.plainAttrs_str PySem.F.slot_str_join PySem.F.type_str_join (g ▸ ya) D5 (λH v x F l z r e=>t7 r (by
  unfold lK at e;split at e
  ·exact⟨_,rfl⟩
  ·cases e)) i j g m q n h o
end
end VS
end
section
namespace VS
@[simp] def MD(x y:Val):Uu:=match x.2 with
 |.dct 0 l=>if iu y.2 then (eA l y.2).map (sub x.1) else J
 |_=>aE x y
noncomputable def flat:T->Bool
 |.non=>M
 |.bl _=>M
 |.int _=>M
 |.str _=>M
 |_=>B
@[simp] def mV(x y:Val):Uu:=match y.2 with
 |.dct 0 l=>if iu x.2 then Y (.fr,.bl (eA l x.2).isSome) else J
 |.lst l=>if flat x.2&&l.all flat then Y (.fr,.bl (l.any λy=>eqT y x.2)) else J
 |.tup l=>if flat x.2&&l.all flat then Y (.fr,.bl (l.any λy=>eqT y x.2)) else J
 |_=>J
@[simp] def cN(x y:Val):Uu:=match mV x y with
 |some (_,.bl b)=>Y (.fr,.bl (!b))
 |_=>J
def pm{α:Type}(f:T->Option (T×α)):List Ky->T->Option (T×α)
 |[],t=>f t
 |.fld k :: r,t=>match t with
  |.obj (c+1) (q :: fs)=>(fs.findIdx? λp=>p.1==k).bind λi=>(fs[i]?).bind λp=>(pm f r p.2).map λz=>(.obj (c+1) (q :: fs.set i (p.1,z.1)),z.2)
  |_=>J
 |.un :: r,t=>match t with
  |.obj 0 [(0,.bl true),(m,x)]=>(pm f r x).map λz=>(.obj 0 [(0,.bl M),(m,z.1)],z.2)
  |_=>J
 |.at k :: r,t=>match t with
  |.lst l=>match k with
   |.int i=>(Ll l.length i).bind λj=>(l[j]?).bind λx=>(pm f r x).map λz=>(.lst (l.set j z.1),z.2)
   |_=>J
  |.dct 0 l=>if iu k then (l.findIdx? λp=>eqT p.1 k).bind λi=>(l[i]?).bind λp=>(pm f r p.2).map λz=>(.dct 0 (l.set i (p.1,z.1)),z.2) else J
  |_=>J
end VS
end
section
namespace VS
open PySem PySem.Spec PyProof.Rows L2
section
mutual
def NQ:T->PyData
 |.non=>.none
 |.bl b=>.bool b
 |.int i=>.int i
 |.str s=>.str (sx s)
 |.tup l=>.tuple (pF l)
 |.lst l=>.list (pF l)
 |_=>.none
def pF:Ut->List PyData
 |[]=>[]
 |t :: r=>NQ t :: pF r
end
def IK(h:kb s):PyData.strOk (sx s)=M:=by
 unfold PyData.strOk sx;simp only[Array.all_eq_true,decide_eq_true_eq];intro i a;have:s.toArray[i]∈s:=by simp
 have:=h.2 _ this;simpa using this
def AZ:(sx s==sx t)=(s==t):=by
 rw[Ww,beq_iff_eq,beq_iff_eq];constructor
 ·intro h;have:(sx s).cps=(sx t).cps:=by rw[h]
  simpa[sx] using this
 ·intro h;rw[h]
mutual
theorem sy:∀(n k:Nat)(t u:T),LW n t=M->LW k u=M->PyData.eqv (NQ t) (NQ u)=eqT t u
 |n,k,t,u,b,a=>by
  cases t with
  |scr _=>cases n<;>cases b
  |dct _ _=>cases n<;>cases b
  |obj _ _=>cases n<;>cases b
  |tup l =>
   cases n with
   |zero=>cases b
   |succ n =>
    cases u with
    |tup r =>
     cases k with
     |zero=>cases a
     |succ k =>
      exact oS n k l r (Mz.mp b) (Mz.mp a)
    |scr _=>cases k<;>cases a
    |dct _ _=>cases k<;>cases a
    |obj _ _=>cases k<;>cases a
    |_=>rfl
  |lst l =>
   cases n with
   |zero=>cases b
   |succ n =>
    cases u with
    |lst r =>
     cases k with
     |zero=>cases a
     |succ k =>
      exact oS n k l r (Mz.mp b) (Mz.mp a)
    |scr _=>cases k<;>cases a
    |dct _ _=>cases k<;>cases a
    |obj _ _=>cases k<;>cases a
    |_=>rfl
  |str s =>
   cases u with
   |str r=>exact AZ
   |scr _=>cases k<;>cases a
   |dct _ _=>cases k<;>cases a
   |obj _ _=>cases k<;>cases a
   |_=>rfl
  |_ =>
   cases u with
   |scr _=>cases k<;>cases a
   |dct _ _=>cases k<;>cases a
   |obj _ _=>cases k<;>cases a
   |_=>rfl
theorem oS:∀(n k:Nat)(l r:Ut),(∀t∈l,LW n t=M)->(∀t∈r,LW k t=M)->PyData.eqvAll (pF l) (pF r)=oJ l r
 |_,_,[],[],_,_=>rfl
 |_,_,[],_ :: _,_,_=>rfl
 |_,_,_ :: _,[],_,_=>rfl
 |n,k,t :: l,u :: r,d,b=>by
  show (PyData.eqv (NQ t) (NQ u)&&PyData.eqvAll (pF l) (pF r))=(eqT t u&&oJ l r);rw[sy n k t u (d t Zv) (b u Zv),oS n k l r (λx a=>d x (Zx _ a)) λx a=>b x (Zx _ a)]
end
def Rp.OD(r:Rp G H v (.tup d) F):∃b a e,v=.ref b/\H b=Y (.tup a)/\RpL G H a d e:=by
 cases r with
 |tup h q=>exact⟨_,_,_,rfl,h,q⟩
def Rp.OP(r:Rp G H v (.lst d) F):∃b a e,v=.ref b/\H b=Y (.lst a)/\RpL G H a d e:=by
 cases r with
 |lst h q=>exact⟨_,_,_,rfl,h,q⟩
theorem lR{s:KB}(f:∀{v:V}{t:T}{F:W9}{u:PP},Rp G H v t F->RelV v u->LW n t=M->∃b,Reads s.heap u (NQ t) b/\(NQ t).canLay0=M/\(NQ t).depth<=n):∀{d:List V}{a:Ut}{y:Yx}{e:Vz},RpL G H d a y->aP d e->(∀t∈a,LW n t=M) →
  ∃b,ReadsAll s.heap e (pF a) b/\PyData.canLayAll0 (pF a)=M/\PyData.depthAll (pF a)<=n
 |_,_,_,_,.nil,r,_=>by cases r;exact⟨_,.nil,rfl,ZA _⟩
 |_,_,_,_,.cons p q,r,h=>by
  cases r with
  |cons r1 r2 =>
   refine L2.ai λz g=>?_;obtain⟨b,m,l,j⟩:=f p r1 (h _ Zv);obtain⟨bs,x,w,o⟩:=lR f q r2 λt i=>h t (Zx _ i);refine g ?_;exact⟨_,.cons m x,ZX.mpr ⟨l,w⟩,Nat.max_le.mpr ⟨j,o⟩⟩
def oF(r:Rp G H v t F)(a:RelV v u)(d:flat t=M):∃e,Reads h u (NQ t) e/\(NQ t).canLay0=M/\(NQ t).depth<=n:=by
 cases r with
 |non=>cases a;exact⟨_,.none,rfl,ZA _⟩
 |bl b=>cases a;exact⟨_,.bool b,rfl,ZA _⟩
 |int i=>obtain⟨t,rfl⟩:=a;exact⟨_,.int i t,rfl,ZA _⟩
 |str s h=>obtain⟨t,rfl⟩:=a;exact⟨_,.str _ t,IK h,ZA _⟩
 |_=>cases d
def kU(I:Inv X d O H s)(n:Nat):∀{v:V}{t:T}{F:W9}{u:PP},Rp G H v t F->RelV v u->LW n t=M->∃w,Reads s.heap u (NQ t) w/\(NQ t).canLay0=M/\(NQ t).depth<=n:=by
 induction n with
 |zero =>
  intro v t F u r a h;refine oF r a ?_;cases t<;>first | rfl | exact h
 |succ n x =>
  intro v t F u r a h;cases t with
  |tup l =>
   obtain⟨b,y,N,rfl,e,q⟩:=Rp.OD r;cases a;obtain⟨D,f,z,E⟩:=I.tuple (LF.of e);obtain⟨w,p,m,j⟩:=lR x q f (Mz.mp h);obtain⟨o,g,i,C,hd⟩:=z;exact⟨_,.tuple g i hd (by simpa using p),m,X3 j⟩
  |lst l =>
   obtain⟨b,y,N,rfl,e,q⟩:=Rp.OP r;cases a;obtain⟨D,f,A,E⟩:=I.list (Kt.of e);obtain⟨w,p,m,j⟩:=lR x q f (Mz.mp h);obtain⟨o,g,i,C,hd⟩:=A.isList;exact⟨_,.list g i hd (by simpa using p),m,X3 j⟩
  |scr _=>cases h
  |dct _ _=>cases h
  |obj _ _=>cases h
  |_=>exact oF r a L
def Dd(G:Gx)(a:Bool):R2:=λx y H Q=>∃t u F b,Rp G H x t F/\Rp G H y u b/\LW 60 t=M/\LW 60 u=M/\Q (.bl (if a then !eqT t u else eqT t u)) H
def jF{d:PyData}(h:d.canLay0=M)(a:d.depth<=60):SeqAt.shaped d=M:=by
 unfold SeqAt.shaped;rw[h,VT];exact decide_eq_true (by lia)
def rY(g:X.A.units+64<cLine):OpR X (UV .Eq) (Dd G B):=by
 intro a s O H x y v u Q I f e h;obtain⟨t,w,F,r,r1,r2,d,b,q⟩:=h;obtain⟨p,o,n,m⟩:=kU I 60 r1 f d;obtain⟨bs,l,j,i⟩:=kU I 60 r2 e b;refine eq_dataH o l (jF n m) (jF j i) g ⟨.bl _,H,I,rfl,?_⟩;rw[sy 60 60 t w d b];exact q
def Fh(g:X.A.units+64<cLine):OpR X (UV .NotEq) (Dd G M):=by
 intro a s O H x y v u Q I f e h;obtain⟨t,w,F,r,r1,r2,d,b,q⟩:=h;obtain⟨p,o,n,m⟩:=kU I 60 r1 f d;obtain⟨bs,l,j,i⟩:=kU I 60 r2 e b;refine ne_dataH o l (jF n m) (jF j i) g ⟨.bl _,H,I,rfl,?_⟩;rw[sy 60 60 t w d b];exact q
def xi:eT G (Dd G B) oEq:=by
 intro Z U b H x y u w f d m t Q a e k;unfold oEq at e;split at e
 ·rename_i h;cases e;exact⟨_,_,_,_,a.r1,a.r2,h.1,h.2,bE k (.bl _)⟩
 ·cases e
def Io:eT G (Dd G M) NU:=by
 intro Z U b H x y u w f d m t Q a e k;unfold NU at e;split at e
 ·rename_i h;cases e;exact⟨_,_,_,_,a.r1,a.r2,h.1,h.2,bE k (.bl _)⟩
 ·cases e
def tells_eq:Tells oEq:=by
 intro x y m t e;unfold oEq at e;split at e<;>first | (cases e;exact⟨_,rfl⟩) | cases e
def BG:Tells NU:=by
 intro x y m t e;unfold NU at e;split at e<;>first | (cases e;exact⟨_,rfl⟩) | cases e
end
structure Ku(Z:Kk)(U:VS.Env)(H:Hp)(Z':Kk)(U':VS.Env)(H':Hp):Prop where
 keep:∀a o,H a=some o->¬bW Z U a->H' a=some o/\¬bW Z' U' a
 Kw:∀a,H a≠none->H' a≠none
 ow:∀a,bW Z' U' a->bW Z U a\/H a=none
 pu:∀a,dm Z' U' a->dm Z U a\/bW Z U a\/H a=none
 kept:Kept H H'
theorem Ku.refl(Z:Kk)(U:VS.Env)(H:Hp):Ku Z U H Z U H:=⟨λa o h n=>⟨h,n⟩,λ_ h=>h,λ_ h=>.inl h,λ_ h=>.inl h,Kept.refl H⟩
theorem Ku.none(f:Ku Z U H d g b)(h:b a=J):H a=J:=by
 cases e:H a with
 |none=>rfl
 |some o=>exact absurd h (f.Kw a (by rw[e];exact λz=>nomatch z))
theorem Ku.trans{b:Kk}{U U1 e:VS.Env}{j:Hp}(f:Ku Z U H d U1 j)(g:Ku d U1 j b e i):Ku Z U H b e i where
 keep:=λa o h n=>let ⟨m,l⟩:=f.keep a o h n;g.keep a o m l
 Kw:=λa h=>g.Kw a (f.Kw a h)
 ow:=λa h=>by
  rcases g.ow a h with h | h
  ·exact f.ow a h
  ·exact .inr (f.none h)
 pu:=λa h=>by
  rcases g.pu a h with h | h | h
  ·exact f.pu a h
  ·rcases f.ow a h with h | h
   ·exact .inr (.inl h)
   ·exact .inr (.inr h)
  ·exact .inr (.inr (f.none h))
 kept:=f.kept.trans g.kept
def Ku.same{H:Hp}(e:aO H b):Ku Z U H Z U b :=
 ⟨λa o h n=>⟨e a o h,n⟩,λa h z=>h (e.free z),λ_ h=>.inl h,λ_ h=>.inl h,Kept.of e⟩
def uE(Z:Kk)(U:VS.Env)(H:Hp):Md->W9->Prop
 |.fr,F=>F.Nodup/\∀a∈F,H a=J\/bW Z U a
 |_,F=>∀a∈F,H a=J\/dm Z U a\/bW Z U a
theorem uE.back(f:Ku Z U H d e g):∀{m:Md},uE d e g m F->uE Z U H m F
 |.fr,h=>⟨h.1,λa b=>(h.2 a b).elim (λz=>.inl (f.none z)) λz=>(f.ow a z).elim .inr .inl⟩
 |.pu,h=>λa b=>by
  rcases h a b with z | z | z
  ·exact .inl (f.none z)
  ·rcases f.pu a z with z | z | z
   ·exact .inr (.inl z)
   ·exact .inr (.inr z)
   ·exact .inl z
  ·exact(f.ow a z).elim (λz=>.inr (.inr z)) .inl
 |.bo,h=>λa b=>by
  rcases h a b with z | z | z
  ·exact .inl (f.none z)
  ·rcases f.pu a z with z | z | z
   ·exact .inr (.inl z)
   ·exact .inr (.inr z)
   ·exact .inl z
  ·exact(f.ow a z).elim (λz=>.inr (.inr z)) .inl
noncomputable def Nx(G:Gx)(Z:Kk)(U:VS.Env)(H:Hp)(d:VS.Env)(k:L2.St->Hp->Prop):Prop:=∀b e a,SR G b d e a->Ku Z U H b d a->k e a
def x9(G:Gx)(Z:Kk)(U:VS.Env)(H:Hp)(D:Ends):Out->Prop
 |.nx a=>Nx G Z U H a D.nx
 |.bk a=>Nx G Z U H a D.bk
 |.ct a=>Nx G Z U H a D.ct
 |.rt v a=>∀u b F d e,SR G d a e b->Ku Z U H d a b->Rp G b u v.2 F->uE Z U H v.1 F->D.rt u b
def tS(G:Gx)(c:Sx):TS:=λD O H=>∃Z U o,SR G Z U O H/\c U=Y o/\x9 G Z U H D o
def PSV(G:Gx)(X:Cx)(a:Stmt)(c:Sx):Prop:=PS X a (tS G c)
def hU(G:Gx)(X:Cx)(a:List Stmt)(c:Sx):Prop:=Mr X a (tS G c)
def PS.weak{X:Cx}(h:PS X e t)(w:∀D O H,b D O H->t D O H):PS X e b:=λa s O H D I q=>h a s O H D I (w D O H q)
def Mr.weak{X:Cx}(h:Mr X e t)(w:∀D O H,b D O H->t D O H):Mr X e b:=λa s O H D I q=>h a s O H D I (w D O H q)
theorem x9.back(f:Ku Z U H i j l):∀{o:Out},x9 G Z U H D o->x9 G i j l D o
 |.nx e,h=>λa b d s g=>h a b d s (f.trans g)
 |.bk e,h=>λa b d s g=>h a b d s (f.trans g)
 |.ct e,h=>λa b d s g=>h a b d s (f.trans g)
 |.rt v e,h=>λu d F a b s g r q=>h u d F a b s (f.trans g) r (q.back f)
section
variable{st:Stmt}
def bJ:hU G X [] eI:=Mr.weak DG λD O H a=>by
 obtain⟨Z,U,o,s,e,k⟩:=a;cases (e);exact k Z O H s (Ku.refl _ _ _)
def af(i:PSV G X st c1)(h:hU G X S4 c2):hU G X (st :: S4) (ar c1 c2):=Mr.weak (AI i h) λD O H g=>by
 obtain⟨Z,U,o,s,e,k⟩:=g;obtain⟨b,e1,e2⟩:=Zz.mp e;refine⟨Z,U,b,s,e1,?_⟩;cases b with
 |nx a=>exact λj l m d f=>⟨j,a,o,d,e2,k.back f⟩
 |rt v a=>cases e2;exact k
 |bk a=>cases e2;exact k
 |ct a=>cases e2;exact k
def cV(h:MA G X t d)(j:hU G X a c1)(i:hU G X b c2):PSV G X (.If t a b pos) (LN d c1 c2):=PS.weak (EJ h j i) λD O H g=>by
 obtain⟨Z,U,o,s,e,k⟩:=g;obtain⟨⟨m,x⟩,l,e1⟩:=Zz.mp e;obtain⟨f,n,e2⟩:=Zz.mp e1;refine⟨Z,U,m,x,f,s,l,n,λp e3=>?_⟩;cases f with
 |true =>
  rw[Zp L]at e2;exact yI ⟨Z,U,o,s.same e3,e2,k.back (Ku.same e3)⟩
 |false =>
  rw[Zo Zh]at e2;exact yT ⟨Z,U,o,s.same e3,e2,k.back (Ku.same e3)⟩
theorem Fp.ret:∀{m:Md},Fp Z U H m F->uE Z U H (match m with | .bo=>.pu | m=>m) F
 |.fr,f=>⟨f.1,λa b=>.inl (f.2 a b)⟩
 |.pu,f=>λa b=>(f a b).elim .inl λz=>.inr (.inl z)
 |.bo,f=>f
def bH(he:PV G X e ce):PSV G X (.Return (Y e) pos) (fR ce):=PS.weak (rV he) λD O H a=>by
 obtain⟨Z,U,o,s,e,k⟩:=a;obtain⟨⟨m,x⟩,b,e1⟩:=Zz.mp e;cases e1;exact⟨Z,U,m,x,s,b,λv d F e1 r1 f1=>k v d F Z O (s.same e1) (Ku.same e1) r1 f1.ret⟩
def cP{U:VS.Env}{c:Cell}(h:(U.set i J)[j]?=Y (Y c)):j≠i/\U[j]?=Y (Y c):=by
 rw[VB]at h;split at h
 ·split at h<;>cases h
 ·rename_i n;exact⟨λz=>n z.symm,h⟩
def SR.drop(s:SR G Z U O H)(i:Nat):SR G Z (U.set i J) O H :=
 ⟨by rw[Yi];exact s.len,λj c h=>s.rp j c (cP h).2,λj t h=>s.nd j t (cP h).2,λj k t c b a n=>s.sep j k t c (cP b).2 (cP a).2 n⟩
def Ku.drop(i:Nat):Ku Z U H Z (U.set i J) H :=
 ⟨λa o h n=>⟨h,λ⟨j,t,d,b⟩=>n ⟨j,t,(cP d).2,b⟩⟩,λ_ h=>h,λa ⟨j,t,d,b⟩=>.inl ⟨j,t,(cP d).2,b⟩,λa ⟨j,t,d,b⟩=>.inl ⟨j,t,(cP d).2,b⟩,Kept.refl H⟩
def c7{X:Cx}(i:Nat)(u:{`q3,X.N[i]?=Y x})(l:{`q5,M7 X.env.scope x})(r:{`q1,K3 x})(d:{`q1,K4 x}):PSV G X (.Return (Y (.Name x p)) pos) (fM i):=PS.weak (rV (fh u l r d)) λD O H n=>by
 obtain⟨Z,U,o,s,e,k⟩:=n;unfold fM at e;split at e
 ·rename_i t h;obtain⟨v,j,b⟩:=s.rp _ _ h;cases e;exact⟨v,j,k v H (Z i) Z O (s.drop i) (Ku.drop i) b ⟨s.nd i t h,λa g=>.inr ⟨i,t,h,g⟩⟩⟩
 ·rename_i t h;obtain⟨v,j,b⟩:=s.rp _ _ h;cases e;refine⟨v,j,k v H (Z i) Z O s (Ku.refl _ _ _) b ?_⟩;have f:Fp Z U H .pu (Z i):=λa g=>.inr ⟨i,t,h,g⟩;have f2:=(f.up b).ret;have:(match (VS.up .pu (jN (.pu t))).1 with | .bo=>Md.pu | m=>m)=(VS.up .pu t).1:=by
   show (match (VS.up .pu t).1 with | .bo=>Md.pu | m=>m)=_;unfold VS.up;split<;>(rename_i q;revert q;split<;>simp)
  rw[this]at f2;exact f2
 ·cases e
noncomputable def mP(Z:Kk)(i:Nat)(F:W9):Kk:=λj=>if j=i then F else Z j
def jE:mP Z i F i=F:=Zp L
def fo(h:j≠i):mP Z i F j=Z j:=Zo h
def iG{U:VS.Env}{c:Cell}(h:(U.set i (Y c))[j]?=Y (Y a)):(j=i/\a=c)\/(j≠i/\U[j]?=Y (Y a)):=by
 rw[VB]at h;split at h
 ·rename_i e;split at h
  ·exact .inl ⟨e.symm,(Zl (Zl h)).symm⟩
  ·cases h
 ·rename_i n;exact .inr ⟨λz=>n z.symm,h⟩
def SR.put{v:V}{c:Cell}(s:SR G Z U O H)(z:i<U.length)(r:Rp G u v (jN c) F)(y:∀j b,j≠i->U[j]?=Y (Y b)->∀w,Rp G H w (jN b) (Z j)->Rp G u w (jN b) (Z j))(o:∀t,c=.ow t->F.Nodup)(d:∀t,c=.ow t->∀j b,j≠i->U[j]?=Y (Y b)->∀a∈F,a∉Z j)(m:∀j t,j≠i->U[j]?=Y (Y (.ow t))->∀a∈Z j,a∉F) :
  SR G (mP Z i F) (U.set i (Y c)) (O.set i (Y v)) u where
 len:=by rw[Yi,Yi];exact s.len
 rp:=λj b h=>by
  rcases iG h with⟨rfl,rfl⟩ | ⟨n,h⟩
  ·exact⟨v,by rw[XQ (by rw[← s.len];exact z)],by rw[jE];exact r⟩
  ·obtain⟨w,p,g⟩:=s.rp j b h;exact⟨w,by rw[YU (Y4 n)];exact p,by rw[fo n];exact y j b n h w g⟩
 nd:=λj t h=>by
  rcases iG h with⟨rfl,e⟩ | ⟨n,h⟩
  ·rw[jE];exact o t e.symm
  ·rw[fo n];exact s.nd j t h
 sep:=λj k t b p g n=>by
  rcases iG p with⟨rfl,e⟩ | ⟨l,x⟩
  ·rcases iG g with⟨rfl,e2⟩ | ⟨f,q⟩
   ·exact absurd L n
   ·rw[jE,fo f];exact d t e.symm k b f q
  ·rcases iG g with⟨rfl,e2⟩ | ⟨f,q⟩
   ·rw[jE,fo l];exact m j t l x
   ·rw[fo l,fo f];exact s.sep j k t b x q n
def kf{U:VS.Env}{c:Cell}(h:bW (mP Z i F) (U.set i (Y c)) a):(∃t,c=.ow t/\a∈F)\/bW Z U a:=by
 obtain⟨j,t,d,b⟩:=h;rcases iG d with⟨rfl,e⟩ | ⟨n,d⟩
 ·rw[jE]at b;exact .inl ⟨t,e.symm,b⟩
 ·rw[fo n]at b;exact .inr ⟨j,t,d,b⟩
def qD{U:VS.Env}{c:Cell}(h:dm (mP Z i F) (U.set i (Y c)) a):(∃t,c=.pu t/\a∈F)\/dm Z U a:=by
 obtain⟨j,t,d,b⟩:=h;rcases iG d with⟨rfl,e⟩ | ⟨n,d⟩
 ·rw[jE]at b;exact .inl ⟨t,e.symm,b⟩
 ·rw[fo n]at b;exact .inr ⟨j,t,d,b⟩
def SR.OI(s:SR G Z U O H)(h:bW Z U a)(g:dm Z U a):False:=by
 obtain⟨j,t,d,f⟩:=h;obtain⟨k,u,b,i⟩:=g;exact s.sep j k t _ d b (λe=>by subst e;rw[d]at b;cases b) a f i
def SR.val{m:Md}{c:Cell}(s:SR G Z U O H)(C:i<U.length)(e:aO H A)(r:Rp G A v t F)(f:Fp Z U H m F)(p:(c=.pu t/\m ≠ .bo)\/(c=.ow t/\m=.fr)):SR G (mP Z i F) (U.set i (Y c)) (O.set i (Y v)) A/\Ku Z U H (mP Z i F) (U.set i (Y c)) A:=by
 have Kw:∀{a},H a=J->∀j x,U[j]?=Y (Y x)->a∉Z j:=λ{a} h j x g b=>by
  obtain⟨w,_,q⟩:=s.rp j x g;exact Kn.pe (q.Kw a b) h
 have ct:jN c=t:=by rcases p with⟨rfl,_⟩ | ⟨rfl,_⟩<;>rfl
 have y:∀a∈F,H a=J\/dm Z U a:=λa b=>by
  rcases p with⟨_,n⟩ | ⟨_,n⟩
  ·exact f.pu n a b
  ·rw[n]at f;exact .inl (f.2 a b)
 constructor
 ·refine s.put C (by rw[ct];exact r) (λj x n g w q=>q.same e) (λu d=>?_) (λu d j x n g a b=>?_) λj u n g a b D=>?_
  ·rcases p with⟨h,_⟩ | ⟨_,h⟩
   ·rw[h]at d;cases d
   ·rw[h]at f;exact f.1
  ·rcases p with⟨h,_⟩ | ⟨_,h⟩
   ·rw[h]at d;cases d
   ·rw[h]at f;exact Kw (f.2 a b) j x g
  ·rcases y a D with z | z
   ·exact Kw z j _ g b
   ·exact s.OI ⟨j,u,g,b⟩ z
 ·refine⟨λa o h n=>⟨e a o h,λz=>?_⟩,λa h z=>h (e.free z),λa h=>?_,λa h=>?_,Kept.of e⟩
  ·rcases kf z with⟨u,d,b⟩ | z
   ·rcases p with⟨l,_⟩ | ⟨_,l⟩
    ·rw[l]at d;cases d
    ·rw[l]at f;rw[f.2 a b]at h;cases h
   ·exact n z
  ·rcases kf h with⟨u,d,b⟩ | z
   ·rcases p with⟨l,_⟩ | ⟨_,l⟩
    ·rw[l]at d;cases d
    ·rw[l]at f;exact .inr (f.2 a b)
   ·exact .inl z
  ·rcases qD h with⟨u,d,b⟩ | z
   ·exact(y a b).elim (λz=>.inr (.inr z)) .inl
   ·exact .inl z
def gR{pos:Pos}(he:PV G X e ce)(q:X.N.Nodup)(n:{`q3,X.N[i]?=Y x})(g:{`q6,Loc X.env.scope x})(h:{`q3,swapsWith e (Y (.Name x a)) pos.line X.env=pure B})(p:{`q7,X.fn x=M\/X.env.scope.names.lookup x=Y .local}) :
  PSV G X (.Assign [.Name x a] e pos) (kc i ce):=PS.weak (rB q n g he h p) λD O H j=>by
 obtain⟨Z,U,o,s,e,k⟩:=j;obtain⟨⟨m,t⟩,u,e1⟩:=Zz.mp e;obtain⟨c,eC,e2⟩:=Zz.mp e1;split at e2
 ·rename_i l;cases e2;refine⟨Z,U,m,t,s,u,λv w F e3 b r=>?_⟩;obtain⟨f,d⟩:=s.val (c:=c) l e3 b r (by
   unfold cellOf at eC;cases m with
   |fr =>
    simp only[Option.some.injEq]at eC;split at eC
    ·exact .inr ⟨eC.symm,rfl⟩
    ·exact .inl ⟨eC.symm,by decide⟩
   |pu=>cases eC;exact .inl ⟨rfl,by decide⟩
   |bo=>cases eC)
  exact k _ _ w f d
 ·cases e2
def aG{pos:Pos}(he:PV G X e ce)(r:X.N.Nodup)(p:{`q3,X.N[i]?=Y x})(g:{`q6,Loc X.env.scope x})(h:{`q3,swapsWith e (Y (.Name x a)) pos.line X.env=pure B})(q:{`q7,X.fn x=M\/X.env.scope.names.lookup x=Y .local}) :
  PSV G X (.Assign [.Name x a] e pos) (bg i ce):=PS.weak (rB r p g he h q) λD O H j=>by
 obtain⟨Z,U,o,s,e,k⟩:=j;obtain⟨⟨m,t⟩,w,e1⟩:=Zz.mp e;split at e1
 ·cases e1
 ·rename_i l;split at e1
  ·rename_i n;cases e1;refine⟨Z,U,m,t,s,w,λv y F e3 b u=>?_⟩;obtain⟨f,d⟩:=s.val n e3 b u (.inl ⟨rfl,l⟩);exact k _ _ y f d
  ·cases e1
def SR.frz(s:SR G Z U O H)(h:U[i]?=Y (Y (.ow t))):SR G Z (U.set i (Y (.pu t))) O H/\Ku Z U H Z (U.set i (Y (.pu t))) H:=by
 have back:∀{j c},(U.set i (Y (.pu t)))[j]?=Y (Y c)->∃l,U[j]?=Y (Y l)/\jN l=jN c/\∀u,c=.ow u->l=.ow u:=λ{j c} g=>by
  rcases iG g with⟨rfl,rfl⟩ | ⟨n,g⟩
  ·exact⟨.ow t,h,rfl,λu p=>nomatch p⟩
  ·exact⟨c,g,rfl,λu p=>p⟩
 refine⟨⟨by rw[Yi];exact s.len,λj c g=>?_,λj u g=>?_,λj k u c b d n=>?_⟩,⟨λa o r n=>⟨r,λ⟨j,u,b,d⟩=>?_⟩,λ_ h=>h,λa ⟨j,u,b,d⟩=>?_,λa ⟨j,u,b,d⟩=>?_,Kept.refl H⟩⟩
 ·obtain⟨l,b,d,_⟩:=back g;obtain⟨v,f,x⟩:=s.rp j l b;exact⟨v,f,by rw[← d];exact x⟩
 ·obtain⟨l,b,_,w⟩:=back g;rw[w u L]at b;exact s.nd j u b
 ·obtain⟨c1,f,_,m⟩:=back b;obtain⟨c2,q,_,_⟩:=back d;rw[m u L]at f;exact s.sep j k u c2 f q n
 ·obtain⟨c1,f,_,m⟩:=back b;rw[m u L]at f;exact n ⟨j,u,f,d⟩
 ·obtain⟨c1,f,_,m⟩:=back b;rw[m u L]at f;exact .inl ⟨j,u,f,d⟩
 ·rcases iG b with⟨rfl,_⟩ | ⟨n,b⟩
  ·exact .inr (.inl ⟨j,t,h,d⟩)
  ·exact .inl ⟨j,u,b,d⟩
def m7(i:Nat)(h:hU G X S4 c):hU G X S4 (ar (yA i) c):=Mr.weak h λD O H f=>by
 obtain⟨Z,U,o,s,e,k⟩:=f;obtain⟨g,e1,e2⟩:=Zz.mp e;unfold yA at e1;split at e1
 ·rename_i t d;cases e1;obtain⟨b,a⟩:=s.frz d;exact⟨Z,_,o,b,e2,k.back a⟩
 ·cases e1;exact⟨Z,U,o,s,e2,k⟩
 ·cases e1
end
section
variable{st:Stmt}
structure Chg(G:Gx)(H:Hp)(v:V)(F:W9)(t':T)(H2:Hp)(F':W9):Prop where
 kept:Kept H H2
 keep:∀b o,b∉F->H b=some o->H2 b=some o
 Kw:∀b,H b≠none->H2 b≠none
 rp:Rp G H2 v t' F'
 nd:F'.Nodup
 sub:∀a∈F',a∈F\/H a=none
def SR.mut(s:SR G Z U O H)(m:U[i]?=Y (Y (.ow t)))(A:O[i]?=Y (Y v))(g:Chg G H v (Z i) p x r) :
  SR G (mP Z i r) (U.set i (Y (.ow p))) O x/\Ku Z U H (mP Z i r) (U.set i (Y (.ow p))) x:=by
 have off:=λj f n d a b l=>s.sep i j t f m d (Y4 n) a l b;have es:O.set i (Y v)=O:=by
  obtain⟨h,e⟩:=Zb.mp A;rw[← e];exact Vi h
 have new:∀a∈r,∀j f,j≠i->U[j]?=Y (Y f)->a∉Z j:=λa b j f n d l=>by
  rcases g.sub a b with z | z
  ·exact off j f n d a l z
  ·obtain⟨w,_,q⟩:=s.rp j f d;exact Kn.pe (q.Kw a l) z
 constructor
 ·have:=s.put (c:=.ow p) (v:=v) ((Zb.mp m).1) g.rp (λj f n d w q=>q.keep g.kept λa b o C=>g.keep a o (off j f n d a b) C) (λ_ _=>g.nd) (λu y j f n d a b=>new a b j f n d) λj u n d a b l=>new a l j _ n d b;rw[es]at this;exact this
 ·refine⟨λa o h n=>⟨g.keep a o (λz=>n ⟨i,t,m,z⟩) h,λz=>?_⟩,g.Kw,λa h=>?_,λa h=>?_,g.kept⟩
  ·rcases kf z with⟨u,_,b⟩ | z
   ·rcases g.sub a b with z | z
    ·exact n ⟨i,t,m,z⟩
    ·rw[z]at h;cases h
   ·exact n z
  ·rcases kf h with⟨u,_,b⟩ | z
   ·rcases g.sub a b with z | z
    ·exact .inl ⟨i,t,m,z⟩
    ·exact .inr z
   ·exact .inl z
  ·rcases qD h with⟨u,y,b⟩ | z
   ·cases y
   ·exact .inl z
def Br(G:Gx)(r:V->List V->Hp->VK->Prop)(f:T->Uv->Option (T×Val)):Prop:=∀(Z:Kk)(U:VS.Env)(H g:Hp)(v:V)(t b:T)(F:W9)(l:Uv)(a:List V)(h:Yx)(x:Val)(Q:VK),
 Rp G H v t F->F.Nodup->Args G Z U H g l a h->f t l=Y (b,x)->(∀u d i,Chg G H v F b d i->Q u d)->r v a g Q
def zv{pos:Pos}{b:Pos}(i:Nat)(pa:PlainAttrs w)(h:Slot w a n)(RH:typeOf (.builtin n)=pure (.type "method_descriptor"))(hm:UH X n r)(ok:Br G r f)(hT:∀H v t F l z,Rp G H v t F->f t l=Y z->QA G.K w v H)(ha:Lv G X (e :: es) cs)(hK:{`q3,X.K=G.K})(hN:{`q3,X.N[i]?=Y x})(hv:{`q5,M7 X.env.scope x})(hd:{`q1,K3 x})(q:{`q1,K4 x})(Kv:{`q3,XAC (.Name x j) a X.env (eval (.Name x j) X.env)=eval (.Name x j) X.env})(K5:{`q3,((backTo d (P3 (e :: es) X.env)).all (λx=>!x.1)&&(backToKw d (SZ [] X.env)).all (λx=>x.1.isSome)
   && decide ((e :: es).length+([]:List Keyword).length+(if ([]:List Keyword).isEmpty then 0 else 1)<30))=M})(Kr:{`q3,(b.endLine==d.line)=M})(hs:{`q3,K1 e es X})(Kl:{`q3,K2 d es X})(MU:{`q3,swapsWith (.Call (.Attribute (.Name x j) a b) (e :: es) [] d) J pos.line X.env=pure B}) :
  PSV G X (.Expr (.Call (.Attribute (.Name x j) a b) (e :: es) [] d) pos) (sX (pK i [] f cs)) :=
 PS.weak (jz (qk pa h RH hm (fh hN hv hd q) ha Kv K5 Kr hs Kl) MU) λD O H hq=>by
  refine L2.ai λP_ m=>?_;obtain⟨Z,U,o,s,e,k⟩:=hq;unfold sX pK at e;obtain⟨⟨E,U'⟩,e1,e2⟩:=Zy.mp e;refine m ?_;split at e1
  ·rename_i t p;refine L2.ai λP_ m=>?_;obtain⟨ks,ek,e3⟩:=Zz.mp e1;cases (ek);obtain⟨l,el,e4⟩:=Zz.mp e3;obtain⟨⟨S,x2⟩,e5,e6⟩:=Zy.mp e4;cases e6;cases e2;obtain⟨v,A,y⟩:=s.rp _ _ p;refine m ?_;have C:=e5;refine⟨v,A,by rw[hK];exact hT H v t _ l _ y C,Z,U,l,s,el,λR H' Fs q1 q2 q3=>?_⟩;refine ok Z U H H' v t S (Z i) l R Fs E _ y (s.nd i t p) ⟨q1,q2,q3⟩ C λu H2 F' g=>?_;obtain⟨Q,P⟩:=s.mut p A g;exact k _ O H2 Q P
  ·cases e1
theorem Chg.upd{H:Hp}(e:aO H d)(n:a∈F)(m:Kn (d a))(r:Rp G (upd d a o) v i f)(l:f.Nodup)(g:∀a∈f,a∈F\/H a=J):Chg G H v F i (upd d a o) f :=
 ⟨(Kept.of e).trans (Kept.upd (.inl m)),λb j hb h=>by rw[aD (λz=>hb (by rw[z];exact n))];exact e b j h,
  λb h z=>by
   by_cases q:b=a
   ·subst q;rw[aw]at z;cases z
   ·rw[aD q]at z;exact h (e.free z),r,l,g⟩
def RpL.off(r:RpL G H f g d)(j:Kn (H a))(h:a∉d.flatten):RpL G (upd H a o) f g d :=
 r.keep (Kept.upd (.inl j)) λb hb l i=>by rw[aD (λz=>h (by rw[← z];exact hb))];exact i
def nj(h:fit v=Y t):v=(.fr,t):=by
 obtain⟨m,x⟩:=v;cases m<;>first | (cases h;rfl) | cases h
def mh:Br G xg aJ:=by
 intro Z U H E v t R F l O S x Q r nd A e k;unfold aJ at e;split at e
 ·rename_i P y;obtain⟨z,u,e1⟩:=Zz.mp e;have C:=nj u;subst C;split at e1
  ·rename_i q;cases e1;obtain⟨a,n,N,rfl,rfl,h,f⟩:=r.lst_inv;obtain⟨w,j,rfl,rfl,D⟩:=(A.rp).one;have d:=A.fp.each 0 _ _ L L;have i:=A.same a _ h;have g:Kn (E a):=by rw[i];exact True.intro
   have na:=(ZY.mp nd).1;have nw:a∉j:=λz=>by rw[d.2 a z]at h;cases h
   refine⟨a,n,w,rfl,rfl,i,by rw[f.len.1];exact q,k _ _ (a :: (N++[j]).flatten) ?_⟩;have off:=λb hb hw=>Kn.pe (f.Kw b hb) (d.2 b hw);refine Chg.upd A.same Zv g (.lst aw (((f.same A.same).off g na).append (.cons (D.keep (Kept.upd (.inl g)) λb hb o p=>by rw[aD (λz=>nw (by rw[← z];exact hb))];exact p) .nil))) ?_ ?_
   ·rw[YX];refine ZY.mpr ⟨λm=>?_,ZF.mpr ⟨(ZY.mp nd).2,by simpa using d.1,λb hb c s z=>?_⟩⟩
    ·rcases Zc.mp m with m | m
     ·exact na m
     ·exact nw (by simpa using m)
    ·subst z;exact off b hb (by simpa using s)
   ·intro b hb;rcases Zi.mp hb with rfl | hb
    ·exact .inl Zv
    ·rw[YX]at hb;rcases Zc.mp hb with hb | hb
     ·exact .inl (Zx _ hb)
     ·exact .inr (d.2 b (by simpa using hb))
  ·cases e1
 ·cases e
def BC(r:Rp G H v (.lst b) F):QA G.K "list" v H:=by
 obtain⟨a,f,h,rfl,rfl,d,g⟩:=r.lst_inv;exact .inl ⟨rfl,_,Kt.of d⟩
def je(r:Rp G H v t F)(h:aJ t l=Y z):QA G.K "list" v H:=by
 unfold aJ at h;split at h
 ·exact BC r
 ·cases h
end
structure Oj(G:Gx)(J:It)(l:Ut)(C:W9)(H:Hp):Prop where
 run:∀H2,Kept H H2->(∀a∈C,∀o,H a=some o->H2 a=some o) →
  (∀(i:Nat)(t:T),l[i]?=some t->J.go i H2/\∀x H3,J.UK i H2 x H3->aO H2 H3/\∃F,Rp G H3 x t F/\∀a∈F,a∈C\/H2 a=none)/\∀(i:Nat),l.length<=i->J.stop i H2
 Kw:∀a∈C,H a≠none
def FpC(Z:Kk)(U:VS.Env)(H:Hp)(m:Md)(C:W9):Prop:=∀a∈C,H a=J\/dm Z U a\/(m=.bo/\bW Z U a)
theorem Fp.c{U:VS.Env}:∀{m:Md},Fp Z U H m F->FpC Z U H m F
 |.fr,f=>λa b=>.inl (f.2 a b)
 |.pu,f=>λa b=>(f a b).imp id .inl
 |.bo,f=>λa b=>(f a b).imp id λz=>z.imp id λz=>⟨rfl,z⟩
def tI(G:Gx)(c:Nr):TI:=λO H R=>∃Z U m l,SR G Z U O H/\c U=Y (m,l)/\∀J a C,aO H a->Oj G J l C a->FpC Z U H m C->R J a
def PVI(G:Gx)(X:Cx)(b a:Expr)(c:Nr):Prop:=PI X b a (tI G c)
def PI.weak{X:Cx}(h:PI X b e t)(w:∀O H Q,d O H Q->t O H Q):PI X b e d:=λa s O H Q I q=>h a s O H Q I (w O H Q q)
section
def Av(H:Hp)(d:Int)(n:Nat):Oj G (Itr d n) (rng d n) [] H:=by
 refine⟨λq _ _=>⟨λi t h=>?_,λi h=>(by simpa[rng] using h:n<=i)⟩,λa h=>by simp at h⟩;unfold rng at h;rw[ZP]at h;obtain⟨k,g,e⟩:=Zy.mp h;obtain⟨f,e2⟩:=Zb.mp g;rw[MH]at f;have l:i=k:=by simpa using e2
 subst l;refine⟨f,λx o j=>?_⟩;obtain⟨e3,m⟩:=j;subst e3;subst m;rw[← e];exact⟨aO.refl _,[],.int _,λa h=>by simp at h⟩
def eK(w:PV G X a ca)(u:Gl X "range")(r:X.mg "range" = J)(o:{`q3,K1 a [] X})(z:{`q3,P3 [a] X.env=[(B,eval a X.env)]}):PVI G X tg (.Call (.Name "range" p) [a] [] pos) (eu ca) :=
 PI.weak (pT u r (cZ w g8 o) z) λO H R q=>by
  obtain⟨Z,U,m,l,s,e,k⟩:=q;obtain⟨⟨n,x⟩,y,e1⟩:=Zz.mp e;obtain⟨j,f,e2⟩:=Zz.mp e1;split at e2
  ·rename_i d;cases e2;refine⟨Z,U,n,x,s,y,λv g F e3 i C=>?_⟩;cases x with
   |int A =>
    cases f;refine⟨j,by rw[i.int_inv],?_,?_,k _ g [] e3 (Av g 0 j.toNat) λa h=>by simp at h⟩
    ·have:=d.1;unfold Sh at this;lia
    ·have:=d.2;unfold Sh at this;lia
   |_=>cases f
  ·cases e2
def de{d:Yx}{i:Nat}{F:W9}(h:d[i]?=Y F){a:On}(f:a∈F):a∈d.flatten:=(b6 h).subset f
def DM{a:On}(K:X2)(j:H a=Y (.lst d))(r:RpL G H d g m):Oj G (Itl K a) g (a :: m.flatten) H:=by
 refine⟨λy k c=>?_,λb hb=>?_⟩
 ·have f:=c a Zv _ j;refine⟨λi t h=>?_,λi h=>⟨d,Kt.of f,by rw[r.len.1];exact h⟩⟩;obtain⟨v,F,l,u,s⟩:=(r.keep k λb hb o n=>c b (Zx _ hb) o n).get i h;refine⟨⟨d,v,Kt.of f,l⟩,λx w q=>?_⟩;obtain⟨e1,e2⟩:=q;subst e1;have ex:=e2 d (Kt.of f);rw[l]at ex;cases ex;exact⟨aO.refl _,F,s,λb hb=>.inl (Zx _ (de u hb))⟩
 ·rcases Zi.mp hb with rfl | hb
  ·rw[j];exact λz=>nomatch z
  ·exact Kn.pe (r.Kw b hb)
def Gy{a:On}(K:X2)(n:H a=Y (.tup d))(r:RpL G H d g l):Oj G (Itt K a) g l.flatten H:=by
 refine⟨λy k c=>?_,λb hb=>Kn.pe (r.Kw b hb)⟩;have f:=k.tup a _ n;refine⟨λi t h=>?_,λi h=>⟨d,LF.of f,by rw[r.len.1];exact h⟩⟩;obtain⟨v,F,j,u,s⟩:=(r.keep k λb hb o m=>c b hb o m).get i h;refine⟨⟨d,v,LF.of f,j⟩,λx w q=>?_⟩;obtain⟨e1,e2⟩:=q;subst e1;have ex:=e2 d (LF.of f);rw[j]at ex;cases ex;exact⟨aO.refl _,F,s,λb hb=>.inl (de u hb)⟩
def tG(G:Gx)(g:Tg):TG:=λv O H Q=>∃Z U t F d,SR G Z U O H/\Rp G H v t F/\(∀a∈F,¬bW Z U a)/\g t U=Y d ∧
 ∀f h,SR G f d h H->(∀a,bW f d a->bW Z U a)->(∀a,dm f d a->dm Z U a\/a∈F)->Q h H
def tGs(G:Gx)(l:List Tg):P8:=λj O H Q=>∃Z U h g d,SR G Z U O H/\RpL G H j h g/\(∀a∈g.flatten,¬bW Z U a)/\Bx l h U=Y d ∧
 ∀f i,SR G f d i H->(∀a,bW f d a->bW Z U a)->(∀a,dm f d a->dm Z U a\/a∈g.flatten)->Q i H
def Ra(G:Gx)(X:Cx)(e:Expr)(g:Tg):Prop:=PG X e (tG G g)
def DY(G:Gx)(X:Cx)(e:List Expr)(g:List Tg):Prop:=Pw X e (tGs G g)
def PG.weak{X:Cx}{e:Expr}{f:TG}(h:PG X e t)(w:∀v O H Q,f v O H Q->t v O H Q):PG X e f:=λd s O H v u Q I r q=>h d s O H v u Q I r (w v O H Q q)
def Pw.weak{X:Cx}{e:List Expr}{f:P8}(h:Pw X e t)(w:∀v O H Q,f v O H Q->t v O H Q):Pw X e f:=λd s O H v u Q I r q=>h d s O H v u Q I r (w v O H Q q)
def aF{X:Cx}(i:Nat)(C:X.N.Nodup)(y:{`q3,X.N[i]?=Y x})(l:{`q6,Loc X.env.scope x})(A:X.fn x=M\/X.env.scope.names.lookup x=Y .local:=by first | exact .inl L | exact .inr rfl):Ra G X (.Name x pos) (bB i):=PG.weak (wI C y l A) λv O H Q m=>by
 obtain⟨Z,U,t,F,P,s,r,no,e,k⟩:=m;unfold bB at e;split at e
 ·rename_i o;cases e;refine k (mP Z i F) (O.set i (Y v)) (s.put o r (λj E n g w q=>q) (λu d=>nomatch d) (λu d=>nomatch d) λj u n g a f D=>no a D ⟨j,u,g,f⟩) (λa h=>?_) λa h=>?_
  ·rcases kf h with⟨u,d,_⟩ | z
   ·cases d
   ·exact z
  ·rcases qD h with⟨u,d,f⟩ | z
   ·exact .inr f
   ·exact .inl z
 ·cases e
def gD:DY G X [] []:=Pw.weak DR λv O H Q d=>by
 obtain⟨Z,U,f,i,g,s,r,no,e,k⟩:=d;cases r with
 |nil =>
  cases (e);exact⟨rfl,k Z O s (λ_ h=>h) λ_ h=>.inl h⟩
 |cons r q=>cases (e)
def bK(y:Ra G X e g)(x:DY G X es i)(u:{`q3,(assignEach (e :: es) X.env).map (·.2)=assign e X.env :: (assignEach es X.env).map (·.2)}):DY G X (e :: es) (g :: i) :=
 Pw.weak (A7 y x u) λv O H Q w=>by
  obtain⟨Z,U,L,Fs,D,s,r,no,e,k⟩:=w;cases r with
  |nil=>cases (e)
  |cons r q =>
   rename_i F N F' R LC S;obtain⟨j,e1,e2⟩:=Zz.mp e;refine⟨_,_,rfl,Z,U,_,_,j,s,r,λa d=>no a (by rw[ZG];exact Yl _ d),e1,λC P s1 f n=>?_⟩;refine⟨C,j,_,_,D,s1,q,λa d z=>no a (by rw[ZG];exact ZI _ d) (f a z),e2,λA E l o m=>k A E l (λa h=>f a (o a h)) λa h=>?_⟩;rcases m a h with h | h
   ·rcases n a h with h | h
    ·exact .inl h
    ·exact .inr (by rw[ZG];exact Yl _ h)
   ·exact .inr (by rw[ZG];exact ZI _ h)
theorem uZ:∀{f:List Tg}{d:Ut}{U i:VS.Env},Bx f d U=Y i->d.length=f.length
 |[],[],_,_,_=>rfl
 |[],_ :: _,_,_,h=>nomatch h
 |_ :: _,[],_,_,h=>nomatch h
 |g :: f,t :: d,U,i,h=>by
  obtain⟨j,_,e2⟩:=Zz.mp (h);simp[uZ e2]
def iL{X:Cx}(m:X.calm=M)(h:DY G X es d)(j:{`q3,(assignEach es X.env).length=d.length})(u:{`q3,(assignEach es X.env).findIdx? (·.1)=J})(y:{`q3,X.K=G.K}):Ra G X (.Tuple es k pos) (jJ d) :=
 PG.weak (Hk m h j u) λv O H Q i=>by
  obtain⟨Z,U,t,F,o,s,r,no,e,q⟩:=i;unfold jJ at e;split at e
  ·rename_i l;obtain⟨n,g,x,rfl,rfl,w,f⟩:=r.Lr;exact⟨n,g,rfl,LF.of w,by rw[f.len.1];exact uZ e,Z,U,l,x,o,s,f,no,e,q⟩
  ·cases e
def qu{tgt:Tg}{body:Sx}{l:Ut}{U:VS.Env}(h:l[i]?=Y t):l.drop i=t :: l.drop (i+1):=by
 obtain⟨d,e⟩:=Zb.mp h;rw[← e];exact YF d
def Fg{cb:Sx}(hq:tS G (iV g ci cb) D O H):IM (tI G ci) (tG G g) (tS G cb) D O H:=by
 refine L2.ai λP_ k_=>?_;obtain⟨Z,U,o,s,e,k⟩:=hq;obtain⟨⟨m,l⟩,el,e1⟩:=Zz.mp e;refine k_ ?_;dsimp only at e1;split at e1
 ·rename_i hm;refine⟨Z,U,m,l,s,el,λJ Q C e2 ok fc=>?_⟩;have cno:∀a∈C,¬bW Z U a:=λa y z=>by
   rcases fc a y with q | q | q
   ·exact Kn.pe (s.KJ z) q
   ·exact s.OI z q
   ·exact(λz=>by rw[z]at hm;cases hm) q.1
  refine⟨λi n O2 P=>n=l.length-i/\∃S N,SR G S N O2 P/\Ku Z U H S N P/\Kept Q P/\(∀a∈C,∀o,Q a=Y o->P a=Y o/\¬bW S N a)/\forL g cb (l.drop i) N=Y o,
   ⟨l.length-0,rfl,Z,U,s.same e2,Ku.same e2,Kept.refl _,λa y w A=>⟨A,cno a y⟩,by rw[Wg];exact e1⟩,?_⟩
  rintro i n O2 P ⟨rfl,S,N,s2,f2,kp,con,e3⟩;obtain⟨go,stop⟩:=ok.run P kp λa y w A=>(con a y w A).1;cases hit:l[i]? with
  |none =>
   have hl:=YG.mp hit;left;rw[XO hl]at e3;cases (e3);exact⟨stop i hl,k S O2 P s2 f2⟩
  |some t =>
   have hl:=(Zb.mp hit).1;right;obtain⟨g1,y1⟩:=go i t hit;rw[qu (tgt:=g) (body:=cb) (U:=N) hit]at e3;obtain⟨U3,e4,e5⟩:=Zz.mp (e3);obtain⟨w,e6,e7⟩:=Zz.mp e5;refine⟨g1,λE j=>∃d f,SR G d f E j/\Ku Z U H d f j/\Kept Q j/\(∀a∈C,∀o,Q a=Y o->j a=Y o/\¬bW d f a)/\forL g cb (l.drop (i+1)) f=Y o,λE j ⟨d,f,q⟩=>⟨l.length-(i+1),by omega,rfl,d,f,q⟩,λx H3 yl=>?_⟩;obtain⟨R,F,rF,hF⟩:=y1 x H3 yl;refine⟨S,N,t,F,U3,(s2.same R),rF,(λa y z=>by
    rcases hF a y with q | q
    ·have Mu:=ok.Kw a q;cases A:Q a with
     |none=>exact Mu A
     |some o''=>exact(con a q o'' A).2 z
    ·exact Kn.pe (s2.KJ z) q),e4,λZ3 O3 s4 o3 p3=>?_⟩
   have f3:Ku Z U H Z3 U3 H3:=⟨λa w h n=>let ⟨h1,n1⟩:=f2.keep a w h n;⟨R a w h1,λz=>n1 (o3 a z)⟩,λa h z=>f2.Kw a h (R.free z),λa h=>f2.ow a (o3 a h),λa h=>by
    rcases p3 a h with h | h
    ·exact f2.pu a h
    ·rcases hF a h with q | q
     ·rcases fc a q with q | q | q
      ·exact .inr (.inr q)
      ·exact .inl q
      ·exact .inr (.inl q.2)
     ·exact .inr (.inr (f2.none q)),f2.kept.trans (Kept.of R)⟩
   have next:∀{d f j},Ku Z3 U3 H3 d f j->Kept Q j/\∀a∈C,∀o,Q a=Y o->j a=Y o/\¬bW d f a:=λr =>
    ⟨(kp.trans (Kept.of R)).trans r.kept,λa y w A=>by
     obtain⟨h1,n1⟩:=con a y w A;exact r.keep a w (R a w h1) λz=>n1 (o3 a z)⟩
   refine⟨Z3,U3,w,s4,e6,?_⟩;cases w with
   |nx f=>exact λd E j L r=>⟨d,f,L,f3.trans r,(next r).1,(next r).2,e7⟩
   |ct f=>exact λd E j L r=>⟨d,f,L,f3.trans r,(next r).1,(next r).2,e7⟩
   |bk f =>
    cases (e7);exact λd E j L r=>k d E j L (f3.trans r)
   |rt v f =>
    cases (e7);exact λu j F4 d E L r r5 q5=>k u j F4 d E L (f3.trans r) r5 (q5.back f3)
 ·cases e1
def dH{X:Cx}(m:PassesOwn (KF X.prog X.w) X.A X.env X.xe)(q:X.calm=M)(n:PVI G X tg d h)(o:Ra G X tg g)(r:hU G X f i)(j:{`q2,∀x,XAD d X.env x=pure x}):PSV G X (.For tg d f [] pos) (iV g h i):=PS.weak (Fq m q n o r j) λD O H l=>Fg l
end
noncomputable def JK(H:Hp)(b:Yx):Md->W9->Prop
 |.fr,F=>F.Nodup/\∀a∈F,H a=J
 |_,F=>∀a∈F,H a=J\/a∈b.flatten
def M3(G:Gx)(g:Fn):Sp:=λe H Q _=>∃b d m r,RpL G H e b d/\g b=Y (m,r)/\∀v a F,aO H a->Rp G a v r F->JK H d m F->Q v a
section
def call_of(h:tE G (b7 g cs) O H Q):EM (M3 G g) [] E (tEs G cs) O H Q:=by
 refine L2.ai λP_ R=>?_;obtain⟨Z,U,m,t,s,e,u⟩:=h;obtain⟨l,el,e1⟩:=Zz.mp e;obtain⟨⟨n,r⟩,S,e2⟩:=Zz.mp e1;refine R ?_;refine⟨Z,U,l,s,el,λL y D b P N=>?_⟩;have A:Args G Z U H y l L D:=⟨b,P,N⟩
 have i:=N.join A.len;show M3 G g (L++[]) y Q E;rw[ZM];refine⟨trees l,D,n,r,P,S,λv C F q o j=>?_⟩;have wide:(∀a∈F,y a=J\/a∈D.flatten)->Fp Z U H ((Md.pu).join (cH l)) F:=λh=>by
  cases w:cH l with
  |fr =>
   rw[w]at i;exact λa d=>.inl ((h a d).elim b.free (i.2 a))
  |pu =>
   rw[w]at i;exact λa d=>(h a d).elim (λz=>.inl (b.free z)) (i a)
  |bo =>
   rw[w]at i;exact λa d=>(h a d).elim (λz=>.inl (b.free z)) (i a)
 cases n with
 |fr =>
  cases e2;exact u v C F (b.trans q) o ⟨j.1,λa d=>b.free (j.2 a d)⟩
 |pu =>
  cases e2;exact u v C F (b.trans q) o (wide j)
 |bo =>
  cases e2;exact u v C F (b.trans q) o (wide j)
def Di{X:Cx}(F:FnOk X.prog X.w X.K X.mg X.base La k f fd ps (M3 G g))(a:p0 k X.A)(i:Gl X x)(b:X.mg x=Y (.ref f))(d:PySem.W.keepIn X.K (.ref f)=M)(j:Binds X.K fd ps [])(l:Lv G X (e :: es) cs)(m:{`q1,K3 x})(he:{`q3,K1 e es X})(n:{`q3,K2 pos es X}) :
  PV G X (.Call (.Name x p) (e :: es) [] pos) (b7 g cs) :=
 PE.weak (r9 F a i b d j .nil jT l m he n) λO H Q h=>call_of h
def AF(r:RpL G H d a s)(n m:Nat)(w:m=d.length):SR G (λi=>s.getD i []) (a.map (λt=>Y (.pu t))++List.replicate (n-a.length) J) (d.map Y++List.replicate (n-m) J) H:=by
 subst w;have A:=r.len;have back:∀{i:Nat}{c:Cell},(a.map (λt=>Y (Cell.pu t))++List.replicate (n-a.length) J)[i]?=Y (Y c)->∃t,a[i]?=Y t/\c=.pu t:=λ{i c} h=>by
  by_cases o:i<a.length
  ·rw[Yt (by rw[Zw];exact o),ZP]at h;obtain⟨t,l,b⟩:=Zy.mp h;exact⟨t,l,(Zl b).symm⟩
  ·rw[Yq (by rw[Zw];exact ZD o),Y3]at h;split at h<;>cases h
 refine⟨by simp;lia,λi c h=>?_,λi t h=>?_,λi j t c h=>?_⟩
 ·obtain⟨t,l,rfl⟩:=back h;obtain⟨v,F,q,z,y⟩:=r.get i l;refine⟨v,?_,?_⟩
  ·have:=(Zb.mp q).1;rw[Yt (by rw[Zw];exact this),ZP,q];rfl
  ·rw[Zt,z];exact y
 ·obtain⟨u,_,b⟩:=back h;cases b
 ·obtain⟨u,_,b⟩:=back h;cases b
def i6{b:Ut}:¬bW Z (b.map (λt=>Y (Cell.pu t))++List.replicate n J) a:=by
 rintro⟨i,t,h,_⟩;by_cases d:i<b.length
 ·rw[Yt (by rw[Zw];exact d),ZP]at h;obtain⟨l,_,j⟩:=Zy.mp h;cases j
 ·rw[Yq (by rw[Zw];exact ZD d),Y3]at h;split at h<;>cases h
def uN{H:Hp}{vs:List V}{j:Ut}{d:Yx}(h:dm (λi=>d.getD i []) (j.map (λt=>Y (Cell.pu t))++List.replicate n J) a):a∈d.flatten:=by
 obtain⟨i,t,_,b⟩:=h;simp only[Zt]at b;cases e:d[i]? with
 |none=>rw[e]at b;simp at b
 |some F=>rw[e]at b;exact de e b
end
section
variable{K:X2}
def GK{d:List Str}(g:d.length=e)(h:M3 G (fn e f c) b H Q E):b.length=d.length:=by
 obtain⟨l,n,m,r,j,a,_⟩:=h;unfold fn at a;split at a
 ·rename_i i;rw[j.len.1,i,g]
 ·cases a
def GR{N:List Str}(s:N.length=f)(h:M3 G (fn p f c) vs H Q E):tS G c { nx:=λ_ d=>Q .non d,rt:=Q } (L2.start N vs) H:=by
 obtain⟨F,O,m,r,y,g,q⟩:=h;unfold fn at g;split at g
 ·rename_i x;obtain⟨o,e1,e2⟩:=Zz.mp g;have j:=AF y f vs.length L;rw[x]at j;have e3:L2.start N vs=vs.map Y++List.replicate (f-vs.length) J:=by
   unfold L2.start;rw[s]
  rw[e3];refine⟨_,_,o,j,e1,?_⟩;cases o with
  |nx i =>
   cases e2;intro A C d l fr;exact q .non d [] (λa o h=>(fr.keep a o h i6).1) .non ⟨Yn,λa h=>by simp at h⟩
  |rt v i =>
   cases e2;intro u d D A C l fr n e;refine q u d D (λa o h=>(fr.keep a o h i6).1) n ?_;cases m with
   |fr=>exact⟨e.1,λa b=>(e.2 a b).elim id λz=>absurd z i6⟩
   |pu=>exact λa b=>(e a b).elim .inl λz=>z.elim (λz=>.inr (uN (H:=H) (vs:=vs) z)) λz=>absurd z i6
   |bo=>exact λa b=>(e a b).elim .inl λz=>z.elim (λz=>.inr (uN (H:=H) (vs:=vs) z)) λz=>absurd z i6
  |bk i=>cases e2
  |ct i=>cases e2
 ·cases g
def fnV(F:Kp K x a b f j)(S:gV N e (ag b))(n:e.length=g)(o:N.length=i)(p:∀(d:PP)(A:SC)(outer:List PySem.Env)(s:KB)(H:Hp)(E:XK),p0 k (A.deeper (envOfC a (ag b) s.heap.objs.size f d))->hU G (jr La P w K mg base N a (ag b) f d A outer s H E).Nf (aX b) c) :
  FnOk P w K mg base La (k+1) f j e (M3 G (fn g i c)) :=
 F.ok S (λl H Q E h=>GK n h) λd A outer s H l Q E m h=>⟨_,p d A outer s H E m,GR o h⟩
end
end VS
end
section
namespace L2
open PySem PySem.Spec PyProof.Rows
theorem l6(b:Env):∀(l:List (Str×NameKind))(acc:List (Str×On)),(∀y∈l,y.2=.free->∃c,b.cells.lookup y.1=Y c)->(∀x c,acc.lookup x=Y c->b.cells.lookup x=Y c) →
  ∃cl,(forIn l acc (λx r=>if (x.snd==NameKind.free)=M then (do let a ← cellOf b x.fst;pure (ForInStep.yield ((x.fst,a) :: r))) else pure (ForInStep.yield r)):Sem (List (Str×On)))=pure cl ∧
   (∀x c,cl.lookup x=Y c->b.cells.lookup x=Y c)/\(∀x c,acc.lookup x=Y c->∃f,cl.lookup x=Y f)/\∀y∈l,y.2=.free->∃c,cl.lookup y.1=Y c
 |[],acc,_,i=>⟨acc,rfl,i,λx c h=>⟨c,h⟩,λy d=>nomatch d⟩
 | (n,k) :: l,acc,o,i=>by
  by_cases m:k=.free
  ·refine L2.ai λz v=>?_;subst m;obtain⟨c,u⟩:=o (n,.free) Zv L;have w:cellOf b n=pure c:=by unfold cellOf;rw[u]
   obtain⟨cl,s,q,e,p⟩:=l6 b l ((n,c) :: acc) (λy d=>o y (Zx _ d)) (λx f h=>by
    rw[YR]at h;split at h
    ·rename_i g;have:x=n:=by simpa using g
     rw[this,← h];exact u
    ·exact i x f h)
   refine v ?_;refine⟨cl,?_,q,λx f h=>?_,λy d j=>?_⟩
   ·rw[List.forIn_cons];rw[Zp (show (NameKind.free==NameKind.free)=M from rfl),w,pure_bind,pure_bind];exact s
   ·by_cases g:x=n
    ·exact e x c (by rw[YR,g];simp)
    ·refine e x f ?_;rw[YR];have:(x==n)=B:=by simpa using g
     rw[this];exact h
   ·rcases Zi.mp d with rfl | d
    ·exact e n c (by rw[YR];simp)
    ·exact p y d j
  ·obtain⟨cl,s,q,e,p⟩:=l6 b l acc (λy d=>o y (Zx _ d)) i;refine⟨cl,?_,q,e,λy d j=>?_⟩
   ·rw[List.forIn_cons];rw[Zo (by simpa using m),pure_bind];exact s
   ·rcases Zi.mp d with rfl | d
    ·exact absurd j m
    ·exact p y d j
def Dx{b:Scope}{a:Env}(d:∀y∈b.names,y.2=.free->∃c,a.cells.lookup y.1=Y c) :
  ∃cl,closureFor b a=pure cl/\(∀x c,cl.lookup x=Y c->a.cells.lookup x=Y c)/\∀y∈b.names,y.2=.free->∃c,cl.lookup y.1=Y c:=by
 obtain⟨cl,g,f,_,e⟩:=l6 a b.names [] d (λx c h=>nomatch h);refine⟨cl,?_,f,e⟩;simp only[closureFor];rw[g];rfl
def gI{l:List (Str×NameKind)}(h:l.lookup x=Y k):(x,k)∈l:=by
 induction l with
 |nil=>cases h
 |cons p l a =>
  rw[YR]at h;split at h
  ·rename_i b;have e:x=p.1:=by simpa using b
   cases h;rw[e];exact Zv
  ·exact Zx _ (a h)
theorem dq{a:Env}:∀{l:List (Str×NameKind)},(l.map λ(n,k)=>if (k==NameKind.free&&a.scope.kind == .function&&a.kindOf n==Y .cell) then (n,NameKind.cell) else (n,k)).lookup x=Y k →
  ∃e,l.lookup x=Y e/\(k=e\/(e=.free/\k=.cell))
 |[],h=>nomatch h
 | (n,d) :: l,h=>by
  rw[Zm,YR]at h;by_cases f:(d==NameKind.free&&a.scope.kind == .function&&a.kindOf n==Y .cell)=M
  ·simp only[f,if_true]at h;rw[YR];cases b:x==n with
   |true =>
    rw[b]at h;have:d=.free:=by
     have:=(ZX.mp (ZX.mp f).1).1;simpa using this
    exact⟨d,rfl,.inr ⟨this,(Zl h).symm⟩⟩
   |false=>rw[b]at h;exact dq h
  ·simp only[f,if_false,Y1]at h;rw[YR];cases b:x==n with
   |true=>rw[b]at h;exact⟨d,rfl,.inl (Zl h).symm⟩
   |false=>rw[b]at h;exact dq h
def bY(X:Cx)(N:List Str)(a:Scope)(d:List (Str×On))(C:On)(s:KB)(H:Hp)(b:W9):Cx :=
 { X with N:=N,s₀:=s,H₀:=H,env:=compEnvC a d C X.env,outer:=X.stack,ex:=b,fn:=λ_=>false,pn:=[],xe:=λ_ _=>False }
def oE(a:Env)(b:Scope):Bool:=b.kind == .function&&b.names.all λy=>match y.2 with
 |.cell=>B
 |.local=>b.names.lookup y.1==Y .local
 |.free=>a.kindOf y.1==Y .cell||a.kindOf y.1==Y .free
 |_=>M
noncomputable def nO(d:Scope):List Str->List Str->Bool
 |[],[]=>M
 |a :: e,b :: bs=>((a==b&&d.names.lookup a==Y .free)||d.names.lookup a==J||d.names.lookup a==Y .globalImplicit)&&nO d e bs
 |_,_=>B
theorem xK:∀{f bs:List Str},nO d f bs=M->f.length=bs.length/\∀(i:Nat)(x:Str),f[i]?=Y x->(bs[i]?=Y x/\d.names.lookup x=Y .free)\/d.names.lookup x=J\/d.names.lookup x=Y .globalImplicit
 |[],[],_=>⟨rfl,λi x h=>by simp at h⟩
 |a :: f,b :: bs,h=>by
  obtain⟨g,n⟩:=ZX.mp (h);obtain⟨l,r⟩:=xK n;refine⟨by simp[l],λi x e=>?_⟩;cases i with
  |zero =>
   have:a=x:=by simpa using e
   subst this;simp only[Bool.or_eq_true,Yj]at g;rcases g with (⟨m,j⟩ | z) | z
   ·exact .inl ⟨by simpa using(by simpa using m:a=b).symm,by simpa using j⟩
   ·exact .inr (.inl (by simpa using z))
   ·exact .inr (.inr (by simpa using z))
  |succ i=>simpa using r i x (by simpa using e)
 |[],_ :: _,h=>nomatch h
 |_ :: _,[],h=>nomatch h
section
variable{H:Hp}
def Inv.block{N:List Str}{cl:List (Str×On)}{k:Nat}{G:XAA}{t:Nat}(I:Inv X pins O H s)(ME:oE X.env g=M)(Ni:nO g (N.drop k) X.N=M)(Nm:k<=N.length)(n:∀x c,cl.lookup x=Y c->X.env.cells.lookup x=Y c)(E:∀y∈g.names,y.2=.free->∃c,cl.lookup y.1=Y c)(P:∀b∈fp,pM X pins H b)(F:s.heap.objs.size<=D)(hC:s.heap.objs.size<=C)(Z:D≠C)(Z9:C∉fp)(a:∀b u,s.heap.get? b=Y u->G.get? b=Y u)(QN:G.Ns C m)(U:G.get? D=Y { cls:=.type "list",data:=.seq ([]:Vz).toArray 0 }) :
  Inv (bY X N g cl C s H fp) [] (List.replicate k J++O) (upd H D (.lst [])) { s with heap:=G,toks:=t }:=by
 unfold oE at ME;rw[Yj,Mz]at ME;obtain⟨hk,Le⟩:=ME;have NZ:g.kind=.function:=by simpa using hk
 obtain⟨hlen,Mp⟩:=xK Ni;have N1:∀y∈g.names,y.2 ≠ .cell:=λy hy e=>by have:=Le y hy;rw[e]at this;cases this
 refine⟨⟨I.mod,NZ,I.ok.glob,I.ok.blt,hC,λx y c e1 e2=>I.ok.inj x y c (n x c e1) (n y c e2),λx hx=>?_,λx c e=>(nomatch e),I.ok.hd,I.ok.frames,.inl L,λb hb=>⟨λ(e:b=C)=>Z9 (e ▸ hb),λx c e=>(P b hb).2.2.2.2.1 x c (n x c e)⟩,
  I.tb,I.bs,ZR I.ok.P4 I.sz,λb o e hb=>?_,λb hb KR=>?_,I.stack,I.NR⟩,rfl,I.bare,Un.laid a F (I.Kd.fresh F),⟨m,QN,λi x v e1 e2 e3=>?_⟩,λx c e=>?_,?_,λx c e=>?_,λp hp=>(nomatch hp),I.Kd.laid a F ?_,?_⟩
 ·have h:∃f,(relabel g X.env).names.lookup x=Y f/\(f=.cell\/f=.free):=by
   rcases hx with e | e
   ·exact⟨_,e,.inl L⟩
   ·exact⟨_,e,.inr L⟩
  obtain⟨f,j,M6⟩:=h;exact E _ (gI ((λx f h Of=>by
  obtain⟨R,d,Z6⟩:=dq h;rcases Z6 with e | ⟨e,_⟩
  ·subst e;rcases Of with e | e
   ·subst e;exact absurd L (N1 _ (gI d))
   ·subst e;exact d
  ·subst e;exact d) x f j M6)) L
 ·rcases (P b hb).2.2.2.1 with z | z
  ·exact I.ok.OM b o e z
  ·exact absurd (Zg (ZO e) (ZR I.ok.P4 z)) (YE _)
 ·rcases Zi.mp (I.MQ b KR) with z | z
  ·exact(P b hb).2.1 z
  ·exact(P b hb).2.2.1 z
 ·
  have QP:k<=i:=by
   rcases Vq i k with z | z
   ·rw[Yt (by simpa using z),Y3]at e2;split at e2<;>cases e2
   ·exact z
  rw[Yq (by simpa using QP),Xy]at e2;have Q:g.names.lookup x=Y .free->∃f,(relabel g X.env).names.lookup x=Y f/\(f=.cell\/f=.free):=λd=>by
   rcases e3 with z | z | z
   ·obtain⟨R,j,M6⟩:=dq z;rw[d]at j;cases j;rcases M6 with q | ⟨_,q⟩<;>cases q
   ·exact⟨_,z,.inl L⟩
   ·exact⟨_,z,.inr L⟩
  rcases Mp _ x (by
   rw[List.getElem?_drop,show k+(i-k)=i by exact VD QP];exact e1) with⟨hX,d⟩ | d | d
  ·obtain⟨f,N0,Mv⟩:=Q d;have A:X.env.kindOf x=Y .cell\/X.env.kindOf x=Y .free:=by
    simpa using(Le _ (gI d))
   obtain⟨mX,hnX,S⟩:=I.loc;obtain⟨u,r,l⟩:=S _ x v hX e2 (A.elim (λz=>.inr (.inl z)) λz=>.inr (.inr z));refine⟨u,r,.inr ⟨?_,?_⟩⟩
   ·rcases Mv with z | z
    ·subst z;exact .inl N0
    ·subst z;exact .inr N0
   ·obtain⟨c,hc⟩:=E _ (gI d) L;refine⟨c,hc,?_⟩;rcases l with⟨z,_⟩ | ⟨_,c',LP,RR⟩
    ·rcases A with q | q<;>(rw[z]at q;cases q)
    ·have:=n x c hc;rw[LP]at this;cases this;exact RR.keeps a
  ·rcases e3 with z | z | z<;>(obtain⟨R,w,_⟩:=dq z;rw[d]at w;cases w)
  ·rcases e3 with z | z | z<;>(obtain⟨R,w,z2⟩:=dq z;rw[d]at w;cases w;rcases z2 with q | ⟨q,_⟩<;>cases q)
 ·obtain⟨v,z⟩:=I.cell x c (n x c e);exact⟨v,z.keeps a⟩
 ·show upd H D (.lst []) C=J;rw[aD (Y4 Z)];exact(I.Kd.fresh hC)
 ·obtain⟨v,z⟩:=I.cell x c (n x c e);rw[aD (Za (Zg z.lt F))];exact I.Lz x c (n x c e)
 ·exact⟨ZA _,[],0,.nil,U⟩
 ·rw[Zs,Xy,I.len,← hlen,Yz];exact VD Nm
def zS(X:Cx)(a:List Expr)(t:TT):Prop :=
 ∀(pins:Km)(s:KB)(O:St)(H:Hp)(Q:Bool->Hp->Prop),Inv X pins O H s->t O H Q →
  Pi (KF X.prog X.w) X.A (forIn a M λc r=>if r=M then (do let ok ← isTrue c X.env (eval c X.env);pure (ForInStep.yield ok)) else pure (ForInStep.yield r)) (TP X pins O Q) X.xe s
def lB:zS X [] (λO H Q=>Q M H):=λpins s O H Q I q=>Zk ⟨H,I,q⟩
def Am(h:PT X c t):zS X [c] t:=λpins s O H Q I q=>by
 rw[List.forIn_cons,Zp L];refine Zr (Zr (thn (h pins s O H Q I q) λb s1 a=>Zk ?_));exact Zk a
section
def sV{s:KB}(I:Nat->KB->Prop)(turn:∀n s,I n s->Pi (KF prog w) A (pyNext q) (λr o=>match r with
   |none=>R (.ok .next) o
   |some v=>Pi (KF prog w) A (letOwnedTupleGo a q v) (λ_ D=>Pi (KF prog w) A (assign a d v) (λ_ C =>
     Pi (KF prog w) A (forIn g M λc r=>if r=M then (do let ok ← isTrue c d (eval c d);pure (ForInStep.yield ok)) else pure (ForInStep.yield r)) (λok l =>
      if ok=M then Pi (KF prog w) A (eval i d) (λx z =>
       Pi (KF prog w) A (call (.builtin "list.append") [j,x]) (λ_ y=>∃m,m<n/\I m y) (λ_ _=>False) z) (λ_ _=>False) l
      else ∃m,m<n/\I m l) (λ_ _=>False) C) (λ_ _=>False) D) (λ_ _=>False) o) (λ_ _=>False) s)(n:Nat)(h:I n s) :
  codeAny (KF prog w) A (.compLoop (.ListComp i [⟨a,f,g,0⟩] e p) 0 q j d) R s:=by
 refine codeAny_loop L I (λn s P=>?_) n h;refine wpAny_noted ?_;rw[compTurn_list];refine Zr (wpAny_standAt (Zr (Xw (turn n s P) (λr o E=>?_) λ_ _ b=>b.elim)));cases r with
 |none=>exact Zk E
 |some v =>
  refine Zr (Xw E (λ_ D h₀=>?_) λ_ _ b=>b.elim);refine Zr (Xw h₀ (λ_ C N=>Zr (Xw N (λok l u=>?_) λ_ _ b=>b.elim)) λ_ _ b=>b.elim);cases ok with
  |false=>exact Zk ⟨rfl,u⟩
  |true =>
   rw[Zp L]at u;exact Zr (Zr (Xw u (λx z G=>Zr (Xw G (λ_ y F=>Zk (Zk ⟨rfl,F⟩)) λ_ _ b=>b.elim)) λ_ _ b=>b.elim))
end
def uK(k:Nat)(p:TI)(g:TG)(r:TT)(q:TE)(O:St)(H:Hp)(Q:VK):Prop:=p O H λJ o=>∀D,o D=none->∃W:Nat->Nat->St->Hp->Prop,
 (∃m,W 0 m (List.replicate k none++O) (upd o D (.lst [])))/\∀i m h d,W i m h d->(J.stop i d/\Q (.ref D) d)\/(J.go i d/\∀x n,J.UK i d x n->g x h n λe u=>r e u λb l =>
  if b=M then q e l λy j=>∃f,j D=Y (.lst f)/\f.length<KM/\∃a,a<m/\W (i+1) a e (upd j D (.lst (f++[y]))) else ∃a,a<m/\W (i+1) a e l)
def qo{X:Cx}{N:List Str}(KH:X.calm=M)(hi:PI X tg a wi)(ME:oE X.env E=M)(Ni:nO E (N.drop k) X.N=M)(Nm:k<=N.length)(L7:∀cl C s H fp,PG (bY X N E cl C s H fp) tg g/\zS (bY X N E cl C s H fp) G tc/\PE (bY X N E cl C s H fp) U te)(hs:∀x,XAD a X.env x=pure x)(I:Inv X pins O H s)(h:uK k wi g tc te O H Q)(hq:∀s' f D C m,Inv X pins O f s'->Q (.ref D) f->s'.heap.Ns C m->pM X pins f C->compPost (KF X.prog X.w) X.A X.xe F QQ (.ref D) C (.ok .next) s') :
  Pi (KF X.prog X.w) X.A (comprehension (.ListComp U [⟨tg,a,G,0⟩] E pos) E X.env pos' (newList []) B (eval a X.env) F) QQ X.xe s:=by
 have RJ:=ME;unfold oE at RJ;rw[Yj,Mz]at RJ;obtain⟨hk,Le⟩:=RJ;have NZ:E.kind=.function:=by simpa using hk
 obtain⟨cl,hcl,Pq,hc2⟩:=Dx λy R e=>I.ok.has y.1 (by
  have:=Le y R;rw[e]at this;simpa using this)
 refine wpAny_comprehension_free L hs hcl NZ (λy R e=>by
  have:=Le y R;rw[e]at this;simpa using this) (thn (hi pins s O H _ I h) λv s1 h1=>thn h1 λitv j h2=>?_)
 refine L2.ai λP_ k_=>?_;obtain⟨it,fp,tn,J,H2,e,I2,T,LV,f2,hW⟩:=h2;subst e;refine k_ ?_;refine Vn (wpAny_newFunctionEnv (λy R e=>by have:=Le y R;rw[e]at this;cases this) (by intro y R;simp at R) (λh₁ OS NG=>?_) NZ);generalize hP:j.heap.push { cls:=.type "list",dict:=none,data:=.seq ([]).toArray }=P at OS NG ⊢;have S:P.objs.size=j.heap.objs.size+1:=by rw[← hP,XJ]
 have old:=λb o e =>
  NG.extBut b o (by rw[S];exact Za (M0 (ZO e))) (Zj _ (hP ▸ Zj _ e))
 have hDC:j.heap.objs.size≠P.objs.size:=by rw[S];exact Za (Yk _)
 have RU:j.heap.objs.size<=P.objs.size:=by rw[S];exact W0 _
 have QK:=λb hb=>let ⟨o,ho,_⟩:=T.obj 0 _ LV b hb;ZO ho
 have Z9:P.objs.size∉fp:=λhb=>absurd (Zg (QK _ hb) RU) (YE _);have IY:=I2.block (N:=N) (k:=k) (t:=j.toks+([]:List (Str×PP)).length) ME Ni Nm Pq hc2 f2 (Zn _) RU hDC Z9 old OS (NG.extBut _ _ hDC (Zj _ (hP ▸ ZK _ L)));obtain⟨hG,hT,hE⟩:=L7 cl P.objs.size j H2 fp;generalize hY:bY X N E cl P.objs.size j H2 fp=Y at IY hG hT hE;have hYm:Y.prog=X.prog/\Y.w=X.w/\Y.K=X.K/\Y.A=X.A/\Y.env=compEnvC E cl P.objs.size X.env/\Y.calm=X.calm/\(Y.xe=λ_ _=>False):=by rw[← hY];exact⟨rfl,rfl,rfl,rfl,rfl,rfl,rfl⟩
 refine L2.ai λP_ k_=>?_;obtain⟨y1,y2,y3,Z,y5,y6,y7⟩:=hYm;have Ny:∀{f:Hp},(∀b∈fp,f b=none)->∀b∈fp,pM Y [] f b:=λ{f} hn b hb=>by
  rw[← hY];refine⟨hn b hb,λ(e:b=P.objs.size)=>Z9 (e ▸ hb),λKR=>?_,.inl hb,λx c e=>(f2 b hb).2.2.2.2.1 x c (Pq x c e),λp hp=>(nomatch hp)⟩;rcases Zi.mp (I2.MQ b KR) with z | z
  ·exact(f2 b hb).2.1 z
  ·exact(f2 b hb).2.2.1 z
 obtain⟨W,⟨m0,w0⟩,turn⟩:=hW j.heap.objs.size (I2.Kd.fresh (Zn _));refine k_ ?_;have NA:=T.keep _ _ _ LV λb _ o e=>old b o e;have loop:codeAny (KF X.prog X.w) X.A (.compLoop (.ListComp U [⟨tg,a,G,0⟩] E pos) 0 (.ref it) (.ref j.heap.objs.size) (compEnvC E cl P.objs.size X.env)) (compPost (KF X.prog X.w) X.A X.xe F QQ (.ref j.heap.objs.size) P.objs.size)
   { j with heap:=h₁,toks:=j.toks+([]:List (Str×PP)).length }:=by
  refine sV (λn s'=>∃i O' f,Inv Y [] O' f s'/\tn i s'.heap/\(∀b∈fp,f b=none)/\W i n O' f) ?_ m0 ⟨0,_,_,IY,NA,(λb hb=>by rw[aD (Za (QK b hb))];exact(f2 b hb).1),w0⟩;rintro n s3 ⟨i,O3,H3,I3,NA,T8,w3⟩;rcases turn i n O3 H3 w3 with⟨stop,qn⟩ | ⟨go,step⟩
  ·have q:=T.done Y y1 y2 y3 (y6.trans KH) i [] s3 O3 H3 (λ_ _=>False) I3 (Ny T8) NA stop;rw[Z]at q;refine thn q λr s4 l=>?_;obtain⟨hr,I4⟩:=l;subst hr;obtain⟨mC,hmC,_⟩:=I4.loc;have f4:=I4.free;rw[y5]at hmC f4;exact hq s4 H3 _ P.objs.size mC (by
    have b4:=I4.base;have o4:=I4.os;have k4:=I4.Kd;rw[← hY]at b4 o4 k4;refine I2.Up (ch:=fp) o4 b4 k4 I4.bare λb hb=>?_;exact⟨(f2 b hb).2.2.2.1,(f2 b hb).2.1,(f2 b hb).2.2.2.2.1,(f2 b hb).2.2.2.2.2⟩) qn hmC (I2.OY RU f4)
  ·have q:=T.item Y y1 y2 y3 (y6.trans KH) i [] s3 O3 H3 (λ_ _=>False) I3 (Ny T8) NA go;rw[Z]at q;refine thn q λr s4 l=>?_;obtain⟨u,hr,h4⟩:=l;subst hr;refine thn h4 λ_ s5 l=>?_;obtain⟨x,H5,I5,r5,yl5,Rn,fr5⟩:=l;have again:∀{O7:St}{H7:Hp}{s7:KB}{m:Nat},Inv Y ([]++pB fp s5.heap) O7 H7 s7->W (i+1) m O7 H7->∃i O' f,Inv Y [] O' f s7/\tn i s7.heap/\(∀b∈fp,f b=none)/\W i m O' f:=λ{O7 H7 s7 m} I7 w7=>by
    refine⟨i+1,O7,H7,I7.LH,T.keep _ _ _ Rn λb hb o e=>(I7.pin (b,o) (ZI _ (ZI _ (iE hb e)))).1,λb hb=>?_,w7⟩;obtain⟨o,e,d⟩:=T.obj _ _ Rn b hb;exact(I7.pin (b,o) (ZI _ (ZI _ (iE hb e)))).2.1
   have qa:=hG _ s5 O3 H5 x u _ (I5.pinned (Ny fr5) (T.obj _ _ Rn)) r5 (step x H5 yl5);rw[y1,y2,Z,y5,y7]at qa;refine thn qa λ_ s6 l=>?_;obtain⟨O6,H6,I6,q6⟩:=l;have qt:=hT _ s6 O6 H6 _ I6 q6;rw[y1,y2,Z,y5,y7]at qt;refine thn qt λb s7 l=>?_;obtain⟨H7,I7,q7⟩:=l;cases b with
   |false =>
    rw[Zo Zh]at q7 ⊢;obtain⟨m',hm,w7⟩:=q7;exact⟨m',hm,again I7 w7⟩
   |true =>
    rw[Zp L]at q7 ⊢;have qe:=hE _ s7 O6 H7 _ I7 q7;rw[y1,y2,Z,y5,y7]at qe;refine thn qe λyv s8 l=>?_;obtain⟨y,H8,I8,r8,ys,hD8,hl8,m',hm,w8⟩:=l;have qp:=iw (X:=Y) _ s8 O6 H8 (.ref j.heap.objs.size) [y] (.ref j.heap.objs.size) [yv] (λ_ H9=>W (i+1) m' O6 H9) I8 L (.cons r8 .nil) ⟨_,ys,y,rfl,rfl,hD8,hl8,w8⟩;rw[y1,y2,Z,y7]at qp;refine thn qp λ_ s9 l=>?_;obtain⟨_,H9,I9,_,w9⟩:=l;exact⟨m',hm,again I9 w9⟩
 exact codeAny_compStart_list loop (T.self _ 0 _ _ _ NA loop)
def nF{X:Cx}{N:List Str}(L:X.calm=M)(y:PI X l a p)(E:oE X.env d=M)(A:nO d (N.drop k) X.N=M)(z:k<=N.length)(G:∀cl C s H fp,PG (bY X N d cl C s H fp) l g/\zS (bY X N d cl C s H fp) i u/\PE (bY X N d cl C s H fp) j r)(v:{`q2,∀x,XAD a X.env x=pure x}):PE X (.ListComp j [⟨l,a,i,0⟩] d n) (uK k p g u r):=by
 intro pins s O H Q I h;rw[eval_ListComp];refine qo L y E A z G v I h λS R D C m P q w f=>⟨m,w,λU F=>?_⟩
 exact⟨.ref D,R,P.turned (λb o hb e=>F.extBut b o hb e) f.1 f.2.1 f.2.2.2.1 f.2.2.2.2.1 f.2.2.2.2.2,rfl,q⟩
def vF{X:Cx}{G:Pos}{N:List Str}(hN:X.N.Nodup)(y:X.N[i]?=Y x)(Q:Loc X.env.scope x)(KH:X.calm=M)(Z:PI X u d A)(ME:oE X.env l=M)(Ni:nO l (N.drop k) X.N=M)(Nm:k<=N.length)(L7:∀cl C s H fp,PG (bY X N l cl C s H fp) u g/\zS (bY X N l cl C s H fp) n F/\PE (bY X N l cl C s H fp) p E)(MU:swapsWith (.ListComp p [⟨u,d,n,0⟩] l r) (Y (.Name x j)) G.line X.env=pure M)(hf:X.fn x=M\/X.env.scope.names.lookup x=Y .local)(R:{`q2,∀x,XAD d X.env x=pure x}) :
  PS X (.Assign [.Name x j] (.ListComp p [⟨u,d,n,0⟩] l r) G) (λD O H=>uK k A g F E O H λv H1=>D.nx (O.set i (Y v)) H1):=by
 intro pins s O H D I h;rw[exec_Assign_Name_used _ _ _ _ MU];refine Zr (wpAny_standAt (Zr ?_));refine Zr (Xw (qo KH Z ME Ni Nm L7 R I h λP H' D' C m I' q U f=>?_) (λ_ P S=>Zk (Zk S)) λ_ _ e=>e);refine wpAny_assign_Name (qf I' hN y Q (v:=.ref D') L (λs2 I2 h_=>?_) hf);obtain⟨a,w,ha⟩:=h_;refine⟨m,U.sameBut w (λe=>by
  rcases ha with z | z
  ·exact f.2.1 (e.trans z)
  ·exact f.2.2.2.2.1 x a z e.symm),λh' Ly=>⟨_,H',?_,q⟩⟩
 exact I2.turned (λb o hb e=>Ly.extBut b o hb e) f.1 f.2.1 f.2.2.2.1 f.2.2.2.2.1 f.2.2.2.2.2
end
end L2
end
section
namespace VS
open PySem PySem.Spec PyProof.Rows L2
noncomputable def pH(k:Nat)(g:Tg):Prop:=∀t U a,g t U=Y a->a.length=U.length/\∀i,k<=i->a[i]?=U[i]?
def cw(h:{`q1,i<k}):pH k (bB i):=λt U b e=>by
 unfold bB at e;split at e
 ·cases e;exact⟨by simp,λj a=>by rw[YU (by lia)]⟩
 ·cases e
theorem wK:∀{d:List Tg},(∀g∈d,pH k g)->∀b U a,Bx d b U=Y a->a.length=U.length/\∀i,k<=i->a[i]?=U[i]?
 |[],_,[],U,a,e=>by cases (e);exact⟨rfl,λ_ _=>rfl⟩
 |[],_,_ :: _,U,a,e=>nomatch e
 |_ :: _,_,[],U,a,e=>nomatch e
 |g :: d,h,t :: b,U,a,e=>by
  obtain⟨j,e1,e2⟩:=Zz.mp (e);obtain⟨p,o⟩:=h g Zv t U j e1;obtain⟨n,m⟩:=wK (λl hg=>h l (Zx _ hg)) b j a e2;exact⟨n.trans p,λi f=>(m i f).trans (o i f)⟩
def km(f:pH k b)(d:pH k a):pH k (jJ [b,a]):=λt U h e=>by
 unfold jJ at e;split at e
 ·refine wK (λg hg=>?_) _ U h e;rcases Zi.mp hg with rfl | hg
  ·exact f
  ·rw[ZZ.mp hg];exact d
 ·cases e
theorem wQ:∀(l:Ut){i:Nat}{t:T},gE l=M->l[i]?=Y t->Kh t=M
 |[],_,_,_,h=>by simp at h
 |x :: l,0,t,h,e=>by
  simp at e;rw[← e];exact(ZX.mp h).1
 |x :: l,i+1,t,h,e=>by
  exact wQ l (ZX.mp h).2 (by simpa using e)
def tC(G:Gx):Option Ex->TT
 |none=>λO H Q=>Q M H
 |some c=>tT G c
section
variable{H:Hp}
def k9:(List.replicate k J++U)[i]?=Y (Y c)↔k<=i/\U[i-k]?=Y (Y c):=by
 rcases Vq i k with h | h
 ·rw[Yt (by simpa using h),Y3];constructor
  ·intro e;split at e<;>cases e
  ·intro ⟨e,_⟩;lia
 ·rw[Yq (by simpa using h),Xy];exact⟨λe=>⟨h,e⟩,λe=>e.2⟩
def zj:bW (λi=>Z (i-k)) (List.replicate k J++U) a↔bW Z U a:=by
 constructor
 ·rintro⟨j,t,d,b⟩;exact⟨j-k,t,(k9.mp d).2,b⟩
 ·rintro⟨j,t,d,b⟩;refine⟨j+k,t,k9.mpr ⟨YB _ _,by rw[XR];exact d⟩,?_⟩;show a∈Z (j+k-k);rw[XR];exact b
def As:dm (λi=>Z (i-k)) (List.replicate k J++U) a↔dm Z U a:=by
 constructor
 ·rintro⟨j,t,d,b⟩;exact⟨j-k,t,(k9.mp d).2,b⟩
 ·rintro⟨j,t,d,b⟩;refine⟨j+k,t,k9.mpr ⟨YB _ _,by rw[XR];exact d⟩,?_⟩;show a∈Z (j+k-k);rw[XR];exact b
def SR.sh(s:SR G Z U O H):SR G (λi=>Z (i-k)) (List.replicate k J++U) (List.replicate k J++O) H:=by
 refine⟨by simp[s.len],λi c h=>?_,λi t h=>?_,λi j t c b a n=>?_⟩
 ·obtain⟨b,a⟩:=k9.mp h;obtain⟨v,e,d⟩:=s.rp _ c a;refine⟨v,?_,d⟩;rw[Yq (by simpa using b),Xy];exact e
 ·exact s.nd _ t (k9.mp h).2
 ·obtain⟨m,g⟩:=k9.mp b;obtain⟨l,f⟩:=k9.mp a;exact s.sep _ _ t c g f (by lia)
def SR.less{U:VS.Env}(s:SR G Z a O H)(b:U.length=a.length)(h:∀(i:Nat) c,U[i]?=Y (Y c)->a[i]?=Y (Y c)):SR G Z U O H :=
 ⟨b.trans s.len,λi c e=>s.rp i c (h i c e),λi t e=>s.nd i t (h i _ e),λi j t c e1 e2 n=>s.sep i j t c (h i _ e1) (h j _ e2) n⟩
def SR.off(s:SR G Z U O H)(m:Kn (H D)\/H D=J)(d:¬dm Z U D)(a:¬bW Z U D):SR G Z U O (upd H D o):=by
 refine⟨s.len,λi c e=>?_,s.nd,s.sep⟩;obtain⟨v,h,g⟩:=s.rp i c e;refine⟨v,h,g.keep (Kept.upd m) λb hb j f=>?_⟩;rw[aD λz=>?_]
 ·exact f
 ·subst z;cases c with
  |pu t=>exact d ⟨i,t,e,hb⟩
  |ow t=>exact a ⟨i,t,e,hb⟩
theorem oz:∀(l:Uv)(v:Val),cH (l++[v])=(cH l).join v.1
 |[],(m,t)=>by cases m<;>rfl
 | (m,t) :: l,v=>by
  show m.join (cH (l++[v]))=(m.join (cH l)).join v.1;rw[oz l v];generalize cH l=q;generalize v.1=r;cases m<;>cases q<;>cases r<;>rfl
def Fp.Tz(f:Fp Z U H m F)(g:Fp Z U H n j)(d:n=.fr->∀a∈F,a∉j):Fp Z U H (m.join n) (F++j):=by
 have both:∀{P:On->Prop},(∀a∈F,P a)->(∀a∈j,P a)->∀a∈F++j,P a:=λp q a h=>(Zc.mp h).elim (p a) (q a);cases m<;>cases n
 ·exact⟨ZF.mpr ⟨f.1,g.1,λa i b hb e=>d L a i (e ▸ hb)⟩,both f.2 g.2⟩
 ·exact both (λa i=>.inl (f.2 a i)) g
 ·exact both (λa i=>.inl (f.2 a i)) g
 ·exact both f λa i=>.inl (g.2 a i)
 ·exact both f g
 ·exact both (λa i=>(f a i).imp id .inl) g
 ·exact both f λa i=>.inl (g.2 a i)
 ·exact both f λa i=>(g a i).imp id .inl
 ·exact both f g
def Fp.Um(f:Fp Z U H m F)(h:H D=J)(d:D∉F):Fp Z U H m (D :: F):=by
 have all:∀{P:On->Prop},P D->(∀a∈F,P a)->∀a∈D :: F,P a:=λp q a b=>(Zi.mp b).elim (λe=>e ▸ p) (q a);cases m
 ·exact⟨ZY.mpr ⟨d,f.1⟩,all h f.2⟩
 ·exact all (.inl h) f
 ·exact all (.inl h) f
end
section
def CI(G:Gx)(Z:Kk)(U b:VS.Env)(H p:Hp)(D:On)(l:Ut)(h:Uv)(q:Tg)(d:Option Ex)(r:Ex)(i n:Nat)(s:L2.St)(f:Hp):Prop:=n=l.length-i/\∃e g j m rest,SR G e b s f/\(∀a,bW e b a->bW Z U a)/\(∀a,dm e b a->H a=J\/dm Z U a)/\¬dm e b D/\¬bW e b D/\Kept p f ∧
     (∀a o,a≠D->p a=Y o->f a=Y o)/\f D=Y (.lst m)/\RpL G f m (trees g) j/\D∉j.flatten/\Fp Z U H (cH g) j.flatten/\jS q d r b (l.drop i)=Y rest/\g++rest=h
def nG{G:Gx}{k:Nat}{tg:Tg}{ci:Nr}{cond:Option Ex}{ce:Ex}{O:L2.St}{H:Hp}{Q:VK}(L7:pH k tg)(h:tE G (dv k tg ci cond ce) O H Q):uK k (tI G ci) (tG G tg) (tC G cond) (tE G ce) O H Q:=by
 refine L2.ai λP_ A=>?_;obtain⟨Z,U,m,r,s,e,kq⟩:=h;obtain⟨⟨mi,l⟩,el,e1⟩:=Zz.mp e;dsimp only at e1;split at e1
 ·rename_i Kd;obtain⟨all,ea,e2⟩:=Zz.mp e1;unfold NC at e2;split at e2
  ·rename_i hlen;cases e2;refine A ?_;refine⟨Z,U,mi,l,s,el,λJ H1 C e3 ok fc D hD=>?_⟩;have QV:=e3.free hD;let P:VS.Env:=List.replicate k none++U
   have good:∀{t:T}{i:Nat}{p H2:Hp}{v:V}{F:W9},l[i]?=Y t->Rp G H2 v t F->(∀a,H1 a≠none->p a≠none)->(∀a∈F,a∈C\/p a=none)->∀a∈F,(H a=none\/dm Z U a)/\¬bW Z U a:=λ{t i p H2 v F} hi rF keep hF a d=>by
    have Kw:∀{b},H b≠none->p b≠none:=λ{b} hb=>keep b λz=>hb (e3.free z);rcases hF a d with z | z
    ·rcases fc a z with q | q | ⟨q,w⟩
     ·exact⟨.inl q,λw=>Kn.pe (s.KJ w) q⟩
     ·exact⟨.inr q,λw=>s.OI w q⟩
     ·subst q;have:Kh t=M:=by
       exact wQ l Kd hi
      rw[rF.Kh this]at d;simp at d
    ·have hz:=X6 λq=>Kw q z;exact⟨.inl hz,λw=>Kn.pe (s.KJ w) hz⟩
   refine⟨CI G Z U P H H1 D l all tg cond ce,?_,?_⟩
   ·refine⟨l.length-0,rfl,λi=>Z (i-k),[],[],[],all,?_,λa h=>zj.mp h,λa h=>.inr (As.mp h),λh=>?_,λh=>?_,Kept.upd (.inr hD),λa o n h=>by rw[aD n];exact h,aw,.nil,by simp,Fp.nil,by rw[Wg];exact ea,rfl⟩
    ·exact((s.same e3).sh).off (.inr hD) (λh=>Kn.pe (s.MS (As.mp h)) QV) λh=>Kn.pe (s.KJ (zj.mp h)) QV
    ·exact Kn.pe (s.MS (As.mp h)) QV
    ·exact Kn.pe (s.KJ (zj.mp h)) QV
   ·intro i n O' p hh_;refine L2.ai λP_ A=>?_;obtain⟨rfl,Z1,X,Fs,xs,rest,s1,So,pu1,np1,no1,kp,old,SF,rp,nD,fp,er,ev⟩:=hh_;refine A ?_;have NY:∀a,H1 a≠none->p a≠none:=λa d z=>by
     by_cases q:a=D
     ·subst q;rw[SF]at z;cases z
     ·cases e:H1 a with
      |none=>exact d e
      |some o=>rw[old a o q e]at z;cases z
    refine L2.ai λP_ A=>?_;obtain⟨go,stop⟩:=ok.run p kp λa d o ho=>old a o (λz=>ok.Kw a d (z ▸ hD)) ho;cases hit:l[i]? with
    |none =>
     have hl:=YG.mp hit;refine A ?_;left;refine⟨stop i hl,?_⟩;rw[XO hl]at er;cases (er);rw[ZM]at ev;subst ev;refine kq (.ref D) p (D :: Fs.flatten) (λa o h=>old a o (λz=>by rw[z,QV]at h;cases h) (e3 a o h)) (.lst SF rp) ?_;by_cases hi:gE (trees X)=M
     ·rw[Zp hi,rp.Kh hi];exact⟨by simp,λa d=>by rw[ZZ.mp d];exact QV⟩
     ·rw[Zo hi];exact fp.Um QV nD
    |some t =>
     have hl:=(Zb.mp hit).1;obtain⟨g1,y1⟩:=go i t hit;refine A ?_;right;refine⟨g1,λx H2 yl=>?_⟩;refine L2.ai λP_ A=>?_;obtain⟨g,F,rF,hF⟩:=y1 x H2 yl;rw[qu (tgt:=tg) (body:=eI) (U:=U) hit]at er;rw[jS]at er;obtain⟨U3,e4,e5⟩:=Zz.mp er;obtain⟨b,eb,e6⟩:=Zz.mp e5;have gd:=good hit rF NY hF;refine A ?_;refine⟨Z1,P,t,F,U3,(s1.same g),rF,λa d z=>(gd a d).2 (So a z),e4,λN O3 s3 o3 p3=>?_⟩;obtain⟨tl,SX⟩:=L7 t P U3 e4;have low:∀j c,P[j]?=Y (Y c)->U3[j]?=Y (Y c):=λj c h=>by rw[SX j (k9.mp h).1];exact h
     have UW:=λa h=>(p3 a h).elim (pu1 a) λh=>(gd a h).1;have ow3:=λa h=>So a (o3 a h);have Tj:=λh=>(p3 D h).elim np1 (λh=>by
      rcases hF D h with z | z
      ·exact ok.Kw D z hD
      ·rw[SF]at z;cases z)
     have U6:=λh=>no1 (o3 D h);have UU:∀a,dm N P a->dm N U3 a:=λa ⟨j,u,h1,h2⟩=>⟨j,u,low j _ h1,h2⟩
     have UX:∀a,bW N P a->bW N U3 a:=λa ⟨j,u,h1,h2⟩=>⟨j,u,low j _ h1,h2⟩
     have QD:∀S,aO H2 S->(if b=M then tE G ce O3 S λy R=>∃ys,R D=Y (.lst ys)/\ys.length<KM/\∃m',m'<l.length-i/\CI G Z U P H H1 D l all tg cond ce (i+1) m' O3 (upd R D (.lst (ys++[y]))) else ∃m',m'<l.length-i/\CI G Z U P H H1 D l all tg cond ce (i+1) m' O3 S):=λS f=>by
      have eo:∀{R},aO S R->∀a o,p a=Y o->R a=Y o:=λ{R} SJ a o h=>SJ a o (f a o (g a o h));cases b with
      |false =>
       rw[Zo Zh]at e6 ⊢;have same:=eo (aO.refl S);exact⟨_,by lia,rfl,N,X,Fs,xs,rest,(s3.same f).less (by rw[tl]) low,λa h=>ow3 a (UX a h),λa h=>UW a (UU a h),λh=>Tj (UU D h),λh=>U6 (UX D h),kp.trans ((Kept.of g).trans (Kept.of f)),λa o n h=>same a o (old a o n h),same D _ SF,rp.same (aO.trans g f),nD,fp,e6,ev⟩
      |true =>
       rw[Zp L]at e6 ⊢;obtain⟨⟨mv,tv⟩,ece,e7⟩:=Zz.mp e6;obtain⟨Ta,er1,e7'⟩:=Zy.mp e7;refine⟨N,U3,mv,tv,s3.same f,ece,λy R Fy SJ ry E=>?_⟩;have same:=eo SJ;have T5:=same D _ SF;have PL:Kn (R D):=by rw[T5];exact True.intro
       have hD4:=f D _ (g D _ SF);have OL:=λa h=>X6 λq=>NY a (λz=>q (e3.free z)) (g.free (f.free h));have DFy:=λh=>by
        cases mv with
        |fr=>have:=E.2 D h;rw[hD4]at this;cases this
        |pu=>exact(E D h).elim (λz=>by rw[hD4]at z;cases z) Tj
        |bo=>exact(E D h).elim (λz=>by rw[hD4]at z;cases z) λz=>z.elim Tj U6
       have lenx:xs.length=X.length:=by rw[rp.len.1];simp
       have lenv:X.length<all.length:=by rw[← ev,← e7'];simp
       refine⟨xs,T5,?_,_,by lia,rfl,N,X++[(mv,tv)],Fs++[Fy],xs++[y],Ta,(((s3.same f).same SJ).off (.inl PL) Tj U6).less (by rw[tl]) low,λa h=>ow3 a (UX a h),λa h=>UW a (UU a h),λh=>Tj (UU D h),λh=>U6 (UX D h),?_,λa o n h=>?_,aw,?_,?_,?_,er1,?_⟩
       ·have TQ:all.length<=fI:=by simpa using hlen
        have:KM=fI:=rfl;lia
       ·exact(kp.trans ((Kept.of g).trans ((Kept.of f).trans (Kept.of SJ)))).trans (Kept.upd (.inl PL))
       ·rw[aD n];exact same a o (old a o n h)
       ·have:trees (X++[(mv,tv)])=trees X++[tv]:=by simp
        rw[this];exact((rp.same ((g.trans f).trans SJ)).off PL nD).append (.cons (ry.keep (Kept.upd (.inl PL)) λb hb o ho=>by rw[aD (λz=>DFy (by rw[← z];exact hb))];exact ho) .nil)
       ·rw[YX];intro h;rcases Zc.mp h with z | z
        ·exact nD z
        ·exact DFy (by simpa using z)
       ·rw[YX,oz];have:([Fy]).flatten=Fy:=by simp
        rw[this];refine fp.Tz (by
        cases mv with
        |fr=>exact⟨E.1,λa d=>OL a (E.2 a d)⟩
        |pu=>exact λa d=>(E a d).elim (λz=>.inl (OL a z)) (UW a)
        |bo=>exact λa d=>(E a d).elim (λz=>.inl (OL a z)) λz=>z.elim (λz=>(UW a z).imp id .inl) λz=>.inr (.inr (ow3 a z))) λhm a d hb=>?_
        subst hm;have:=(rp.same (g.trans f)).Kw a d;rw[(E.2 a hb)]at this;exact this
       ·rw[Ze,← ev,← e7'];rfl
     cases cond with
     |none =>
      cases (eb);exact QD H2 (aO.refl H2)
     |some c =>
      obtain⟨⟨mc,xc⟩,ec1,RY⟩:=Zz.mp eb;exact⟨N,U3,mc,xc,b,s3,ec1,RY,λS f=>QD S f⟩
  ·cases e2
 ·cases e1
end
section
def iz{X:Cx}(k:Nat)(N:List Str)(m:X.calm=M)(b:PVI G X tg iter ci)(l:pH k g)(d:∀cl C s H fp,Ra G (bY X N sc cl C s H fp) tg g)(he:∀cl C s H fp,PV G (bY X N sc cl C s H fp) elt ce)(j:{`q3,oE X.env sc=M})(f:{`q3,nO sc (N.drop k) X.N=M})(e:{`q1,k<=N.length})(a:{`q2,∀x,XAD iter X.env x=pure x}) :
  PV G X (.ListComp elt [⟨tg,iter,[],0⟩] sc pos) (dv k g ci J ce) :=
 PE.weak (nF m b j f e (λcl C s H fp=>⟨d cl C s H fp,lB,he cl C s H fp⟩) a) λO H Q h=>nG l h
def mq{X:Cx}(k:Nat)(N:List Str)(n:X.calm=M)(b:PVI G X tg iter ci)(m:pH k g)(d:∀cl C s H fp,Ra G (bY X N sc cl C s H fp) tg g)(e:∀cl C s H fp,MA G (bY X N sc cl C s H fp) c cc)(he:∀cl C s H fp,PV G (bY X N sc cl C s H fp) elt ce)(l:{`q3,oE X.env sc=M})(j:{`q3,nO sc (N.drop k) X.N=M})(f:{`q1,k<=N.length})(a:{`q2,∀x,XAD iter X.env x=pure x}) :
  PV G X (.ListComp elt [⟨tg,iter,[c],0⟩] sc pos) (dv k g ci (Y cc) ce) :=
 PE.weak (nF n b l j f (λcl C s H fp=>⟨d cl C s H fp,Am (e cl C s H fp),he cl C s H fp⟩) a) λO H Q h=>nG m h
def HF(h:tS G (kc i a) D O H):tE G a O H λv q=>D.nx (O.set i (Y v)) q:=by
 refine L2.ai λu j=>?_;obtain⟨Z,U,o,s,e,k⟩:=h;obtain⟨⟨m,t⟩,p,e1⟩:=Zz.mp e;obtain⟨c,eC,e2⟩:=Zz.mp e1;refine j ?_;split at e2
 ·rename_i l;cases e2;refine⟨Z,U,m,t,s,p,λv r F e3 b n=>?_⟩;obtain⟨f,d⟩:=s.val (c:=c) l e3 b n (by
   unfold cellOf at eC;cases m with
   |fr =>
    simp only[Option.some.injEq]at eC;split at eC
    ·exact .inr ⟨eC.symm,rfl⟩
    ·exact .inl ⟨eC.symm,by decide⟩
   |pu=>cases eC;exact .inl ⟨rfl,by decide⟩
   |bo=>cases eC)
  exact k _ _ r f d
 ·cases e2
def zK{X:Cx}{OF:Pos}(k:Nat)(N:List Str)(m:∀D O H,tS G b D O H->tE G (dv k g ci J ce) O H λv y=>D.nx (O.set i (Y v)) y)(w:X.calm=M)(f:PVI G X tg iter ci)(u:pH k g)(j:∀cl C s H fp,Ra G (bY X N sc cl C s H fp) tg g)(he:∀cl C s H fp,PV G (bY X N sc cl C s H fp) elt ce)(n:X.N.Nodup)(a:{`q3,X.N[i]?=Y x})(d:{`q6,Loc X.env.scope x})(r:{`q3,oE X.env sc=M})(p:{`q3,nO sc (N.drop k) X.N=M})(o:{`q1,k<=N.length})(q:{`q3,swapsWith (.ListComp elt [⟨tg,iter,[],0⟩] sc pos) (Y (.Name x pos')) OF.line X.env=pure M})(l:{`q7,X.fn x=M\/X.env.scope.names.lookup x=Y .local})(e:{`q2,∀x,XAD iter X.env x=pure x}) :
  PSV G X (.Assign [.Name x pos'] (.ListComp elt [⟨tg,iter,[],0⟩] sc pos) OF) b :=
 PS.weak (vF n a d w f r p o (λcl C s H fp=>⟨j cl C s H fp,lB,he cl C s H fp⟩) q l e) λD O H h=>nG u (m D O H h)
end
end VS
end
section
namespace L2
open PySem PySem.Spec PyProof.Rows
def Ite(K:X2)(a:On):It :=
 ⟨λi H=>∃b x,Kt K H a b/\b[i]?=Y x,λi H v d=>∃p x,H p=J/\v=.ref p/\d=upd H p (.tup [.int i,x])/\∀b,Kt K H a b->b[i]?=Y x,λi H=>∃b,Kt K H a b/\b.length<=i⟩
def yk{K:X2}(a e f:On)(Mu:e≠f):Turn P w K (.Tuple R n pos) (Ite K a) [e,f] e (λi h=>(∃old,IsEnum h e f i old)/\h.IsListIter f a i) where
 mem:=by simp
 obj:=λi h st b hb=>by
  obtain⟨⟨old,he⟩,o,ho,c,d⟩:=st;rcases Zi.mp hb with rfl | hb
  ·exact⟨_,he,λv z=>by cases (z)⟩
  ·rw[ZZ.mp hb];exact⟨o,ho,λv z=>by rw[d]at z;cases z⟩
 keep:=λi h h' st k=>⟨let ⟨old,he⟩:=st.1;⟨old,k e (by simp) _ he⟩,st.2.at λo x=>k f (by simp) o x⟩
 item:=by
  intro X hP hw hK hc i g s O H E I l st hg;refine L2.ai λP_ k_=>?_;subst hP hw hK;obtain⟨xs,x,U,hx⟩:=hg;obtain⟨jj,Z,p,hz⟩:=I.list U;obtain⟨u,hu,ru⟩:=Z.get hx;obtain⟨⟨old,he⟩,hit⟩:=st;refine k_ ?_;refine wpAny_pyNext_enum_item he hit p.isList (x:=u) (by simpa using hu) Mu λh1 ho F hT hsz hk=>⟨_,rfl,?_⟩
  refine wpAny_letOwnedTupleGo_enum ho λh2 he2 S=>?_;have S:=S;have C:=ZO he;have N:=I.Kd.fresh (Zn _);have D:∀b o,b∉[e,f]->s.heap.get? b=Y o->h2.get? b=Y o:=λb o hb q=>by
   have Q:b≠e:=λz=>hb (by simp[z]);exact(S.2 b Q).trans (hk b o Q (λz=>hb (by simp[z])) q)
  have G:=(S.2 _ (Wk C)).trans hT;have A:∀b o,H b=Y o->b∉[e,f]:=λb o q hb=>by rw[(l b hb).1]at q;cases q
  have up:∀b o,H b=Y o->upd H s.heap.objs.size (.tup [.int i,x]) b=Y o:=λb o q=>by rw[aD (cL q N)];exact q
  refine⟨.ref s.heap.objs.size,upd H s.heap.objs.size (.tup [.int i,x]),?_,rfl,⟨_,x,N,rfl,rfl,λys hy=>by rw[I.Nh hy U];exact hx⟩,⟨⟨u,by simpa using he2⟩,F.at λo y=>(S.2 f Mu.symm).trans y⟩,λb hb=>?_⟩
  ·show Inv X g O _ { s with heap:=h2,gens:=s.gens,drawn:=s.drawn,toks:=s.toks+1 };refine I.step (λb hb=>?_) (λb o _ _ j q _=>D b o j q) (λb o _ _ j q _=>⟨o.slots,D b o j q⟩) (λb o _ q r=>by rw[aD ((λb o q=>Za (ZO q)) b o q)];exact r) (λb o j q=>⟨o,D b o j q⟩)
    (λb ys q=>up b _ q) (λb o v q=>up b _ q) (λb _ q=>up b _ q) (λm hm=>?_) (λb ob q=>by
   by_cases hb:b=s.heap.objs.size
   ·subst hb;rw[aw]at q;cases q;exact⟨by show 2<=KM;decide,[.int i s.toks,u],.cons ⟨_,rfl⟩ (.cons ru .nil),Qv.of G L,⟨_,G,rfl,_,rfl⟩⟩
   ·rw[aD hb]at q;refine(I.Kd b ob q).N9 (λc v j r=>D c v ?_ r) (λc r=>up c _ r) (λc ys r=>up c _ r) λc _ _ r=>up c _ r;rcases j with z | z
    ·rw[z];exact A b ob q
    ·exact A c _ z) I.bare
   ·obtain⟨f0,f1,f2,f3,f4,f5⟩:=l b hb;exact⟨f3,f1,f4,f5⟩
   ·obtain⟨o,es,ep,NI,r⟩:=hm;refine⟨o,es,ep,D _ o (λz=>?_) NI,r⟩;exact(l _ z).2.1 L
  ·have:b≠s.heap.objs.size:=by
    rcases Zi.mp hb with rfl | hb
    ·exact Za C
    ·rw[ZZ.mp hb];exact Za (let ⟨_,z,_⟩:=hit;ZO z)
   rw[aD this];exact(l b hb).1
 done:=by
  intro X hP hw hK hc i g s O H E I l st hg;subst hP hw hK;obtain⟨xs,U,hx⟩:=hg;obtain⟨jj,Z,p,hz⟩:=I.list U;obtain⟨⟨old,he⟩,hit⟩:=st;obtain⟨f0,f1,f2,f3,f4,f5⟩:=l f (by simp);have hl:=Z.length;exact wpAny_pyNext_enum_end (I.ok.hd hc) he hit p.isList (by simp;lia) λh' eb=>⟨rfl,I.turned (λb o hb q=>eb b o hb q) f0 f1 f3 f4 f5⟩
 self:=λ_ _ _ _ _ st h=>let ⟨_,he⟩:=st.1;wpAny_pyIter_enum he h
section
def JP(K:X2)(ta:TA):TI:=λO H R=>ta O H λe b=>∃l,e=[.ref l]/\(∃d,Kt K b l d)/\R (Ite K l) b
def Dy(z:Gl X "enumerate")(x:X.mg "enumerate" = J)(A:PA X [a] ta)(v:{`q3,P3 [a] X.env=[(B,eval a X.env)]}):PI X (.Tuple f n D) (.Call (.Name "enumerate" p) [a] [] pos) (JP X.K ta):=by
 intro d s O H R I h;refine Call_ (oh I z x boot_enumerate (WM (thn (A pos d s O H _ I h) λN s1 C=>?_) v L));obtain⟨G,E,g,r1,m⟩:=C;obtain⟨l,e,⟨F,w⟩,q⟩:=m;subst e;cases r1 with
 |cons r j =>
  cases j;cases r;obtain⟨Q,P,o,S⟩:=g.list w;refine call_enumerate_list o.isList λU he hit u y=>?_;refine wpAny_pyIter_enum he ?_;refine⟨_,_,_,_,E,rfl,g.kept y,yk l (s1.heap.objs.size+1) s1.heap.objs.size (Nat.succ_ne_self _),⟨⟨_,he⟩,hit⟩,λb hb=>?_,q⟩;have i:s1.heap.objs.size<=b:=by
   rcases Zi.mp hb with rfl | hb
   ·exact Zd _ _
   ·rw[ZZ.mp hb];exact Zn _
  exact g.OY i (g.Kd.fresh i)
end
end L2
namespace VS
open PySem PySem.Spec PyProof.Rows L2
section
theorem uq:∀(l:Ut)(k i:Nat){t:T},(ir k l)[i]?=Y t->∃x,l[i]?=Y x/\t=.tup [.int ((k+i:Nat):Int),x]
 |[],_,_,_,h=>by simp[ir]at h
 |x :: l,k,0,t,h=>by
  simp[ir]at h;exact⟨x,rfl,by rw[← h];rfl⟩
 |x :: l,k,i+1,t,h=>by
  obtain⟨y,d,b⟩:=uq l (k+1) i (by simpa[ir] using h);refine⟨y,by simpa using d,?_⟩;rw[b,show k+1+i=k+(i+1) by lia]
theorem qA:∀(l:Ut)(k:Nat),(ir k l).length=l.length
 |[],_=>rfl
 |x :: l,k=>by simp[ir,qA l (k+1)]
def Ep{a:On}(K:X2)(j:H a=Y (.lst d))(r:RpL G H d e u):Oj G (Ite K a) (ir 0 e) (a :: u.flatten) H:=by
 refine⟨λs k c=>?_,λb hb=>?_⟩
 ·have f:=c a Zv _ j;refine⟨λi t h=>?_,λi h=>⟨d,Kt.of f,by rw[qA]at h;rw[r.len.1];exact h⟩⟩;refine L2.ai λO w=>?_;obtain⟨y,A,m⟩:=uq e 0 i h;rw[YJ]at m;obtain⟨v,F,l,N,L⟩:=(r.keep k λb hb o D=>c b (Zx _ hb) o D).get i A;refine w ?_;refine⟨⟨d,v,Kt.of f,l⟩,λx P E=>?_⟩;obtain⟨p,z,C,e1,e2,e3⟩:=E;subst e1 e2;have ex:=e3 d (Kt.of f);rw[l]at ex;cases ex;have g:aO s (upd s p (.tup [.int i,v])):=λb o q=>by rw[aD (cL q C)];exact q
  refine⟨g,F,?_,λb hb=>.inl (Zx _ (de N hb))⟩;rw[m];have:F=([[],F]).flatten:=by simp
  rw[this];exact .tup aw (.cons (.int _) (.cons (L.same g) .nil))
 ·rcases Zi.mp hb with rfl | hb
  ·rw[j];exact λz=>nomatch z
  ·exact Kn.pe (r.Kw b hb)
def ue(u:PV G X a ca)(r:Gl X "enumerate")(q:X.mg "enumerate" = J)(j:{`q3,K1 a [] X})(A:{`q3,P3 [a] X.env=[(B,eval a X.env)]}) :
  PVI G X (.Tuple elts n PB) (.Call (.Name "enumerate" p) [a] [] pos) (AH ca) :=
 PI.weak (Dy r q (cZ u g8 j) A) λO H R o=>by
  obtain⟨Z,U,m,l,s,e,k⟩:=o;obtain⟨⟨h,x⟩,y,e1⟩:=Zz.mp e;refine⟨Z,U,h,x,s,y,λv C F e3 g w=>?_⟩;cases x with
  |lst D =>
   refine L2.ai λE i=>?_;cases e1;obtain⟨z,d,L,rfl,rfl,b,f⟩:=g.lst_inv;refine i ?_;exact⟨z,rfl,⟨d,Kt.of b⟩,k _ C _ e3 (Ep X.K b f) w.c⟩
  |_=>cases e1
end
noncomputable instance {s:Tx}:Decidable (kb s):=inferInstanceAs (Decidable (_/\_))
section
def w_add(f:PV G X a ca)(d:PV G X b cb):PV G X (.BinOp a .Add b pos) (e2 cu ca cb):=kH kN oa f d
def w_mul(f:PV G X a ca)(d:PV G X b cb):PV G X (.BinOp a .Mult b pos) (e2 ie ca cb):=kH Hr Hw f d
def w_mod(f:PV G X a ca)(d:PV G X b cb):PV G X (.BinOp a .Mod b pos) (e2 oMod ca cb):=kH FC FM f d
def u9{X:Cx}(d:p0 k X.A)(g:PV G X a ca)(f:PV G X b cb):MA G X (.Compare a [.Eq] [b] pos) (e2 oEq ca cb):=gH (rY d.units) xi tells_eq g f (jm _)
def o7{X:Cx}(d:p0 k X.A)(g:PV G X a ca)(f:PV G X b cb):MA G X (.Compare a [.NotEq] [b] pos) (e2 NU ca cb):=gH (Fh d.units) Io BG g f (jm _)
def bq(g:PV G X a ca)(f:PV G X b cb)(d:fX b:=by intro _ _;rfl)(i:{`q3,X.K=G.K}):PV G X (.Subscript a b pos) (e2 aE ca cb) :=
 PE.weak (mO kg g f d) λO H Q h=>by rw[i];exact mw vq h
def dS{X:Cx}(d:X.mg "len" = J)(g:Lv G X [e] cs)(f:{`q3,Gl X "len"})(h:{`q3,X.K=G.K})(he:{`q3,K1 e [] X}):PV G X (.Call (.Name "len" p) [e] [] pos) (eN cq cs) :=
 lE (h ▸ yY) Hg f d PySem.boot_len g (he:=he)
def DI:bootBuiltins ("list" : Str)=Y (.type "list"):=by decide +kernel
noncomputable def Sj:Ty->Str
 |.int => "int" |.str => "str" |.bool => "bool" |.list => "list" |.tuple => "tuple" |.dict => "dict"
def IB(t:Ty):bootBuiltins (Sj t)=Y (.type (Om t)):=by cases t<;>decide +kernel
def w_is{X:Cx}(t:Ty)(f:X.mg "isinstance" = J)(l:X.mg (Sj t)=J)(h:PV G X a ca)(g:{`q3,Gl X "isinstance"})(j:{`q3,Gl X (Sj t)})(i:{`q3,X.K=G.K})(d:{`q3,P3 [a,.Name (Sj t) p2] X.env=(B,eval a X.env) :: P3 [.Name (Sj t) p2] X.env}):PV G X (.Call (.Name "isinstance" p1) [a,.Name (Sj t) p2] [] pos) (eIs t ca) :=
 Ij t h g f j l (IB t) i (by cases t<;>decide) (by cases t<;>decide) d L L
def kZ{apos:Pos}(i:Nat)(m:Lv G X [e] cs)(o:{`q3,X.K=G.K})(n:{`q3,X.N[i]?=Y x})(f:{`q5,M7 X.env.scope x})(j:{`q1,K3 x})(d:{`q1,K4 x})(s:{`q3,((backTo oe (P3 [e] X.env)).all (λx=>!x.1)&&(backToKw oe (SZ [] X.env)).all (λx=>x.1.isSome)
   && decide ([e].length+([]:List Keyword).length+(if ([]:List Keyword).isEmpty then 0 else 1)<30))=M})(q:{`q3,(apos.endLine==oe.line)=M})(g:{`q3,K1 e [] X}) :
  PSV G X (.Expr (.Call (.Attribute (.Name x p1) "append" apos) [e] [] oe) pos) (sX (pK i [] aJ cs)) :=
 zv i Wq Wy Wz iw mh (λH v t F l z r h=>je r h) m o n f j d L s q g L L
end
structure FnAt(P:SB)(w:XAB)(K:X2)(mg:Wv)(base:XAA)(k:Nat)(x:Str)(ps:List Str)(G:Gx)(g:Fn):Prop where
 ex:∃f fd,FnOk P w K mg base La k f fd ps (M3 G g)/\mg x=some (.ref f)/\PySem.W.keepIn K (.ref f)=true/\Binds K fd ps []
section
def c8{X:Cx}(F:FnAt X.prog X.w X.K X.mg X.base k x ps G g)(a:p0 k' X.A)(h:Lv G X (e :: es) cs)(b:{`q1,k<=k'})(d:{`q3,Gl X x})(n:{`q1,K3 x})(he:{`q3,K1 e es X})(o:{`q3,K2 pos es X}) :
  PV G X (.Call (.Name x p) (e :: es) [] pos) (b7 g cs):=by
 obtain⟨f,fd,m,l,j,i⟩:=F.ex;exact Di m (a.mono b) d l j i h n he o
end
section
variable{K:X2}
def i3(F:Kp K x x a f i)(m:mg x=Y (.ref f))(S:gV N b (ag a))(j:b.length=g)(l:N.length=h)(o:∀(kV doc pm:PP)(an:Option On)(d ct:PP)(e:Vz),e.length=b.length->bindArgs (PySem.W.fnOf x x (cM a) (aX a) (ag a) .none kV doc pm an d ct) ⟨e,[]⟩=pure (b.zip e))(n:∀(d:PP)(A:SC)(outer:List PySem.Env)(s:KB)(H:Hp)(E:XK),p0 k (A.deeper (envOfC x (ag a) s.heap.objs.size f d))->hU G (jr La P w K mg base N x (ag a) f d A outer s H E).Nf (aX a) c) :
  FnAt P w K mg base (k+1) x b G (fn g h c) :=
 ⟨f,i,fnV F S j l n,m,F.kp,F.binds o⟩
end
end VS
end
section
namespace L2
open PySem PySem.Spec PyProof.Rows
noncomputable def Nr(x:Str):It:=⟨λi _=>i<x.cps.size,λi H v a=>a=H/\∃c,x.cps[i]?=Y c/\v=.str ⟨#[c]⟩,λi _=>x.cps.size<=i⟩
def ql{K:X2}(x:Str)(t:Tok)(a:On)(f:String)(S:["enumerate", "zip", "dict_itemiterator", "dict_reverseitemiterator", "odict_iterator", "itertools.zip_longest", "itertools.pairwise"].contains f=B)(W:∀A:SC,A.handled=J->Walks P w A a [a] [a] x.cps.size (λi v=>∃c u,x.cps[i]?=Y c/\v=.str ⟨#[c]⟩ u) (λi h=>h.IsStrIter a f x t i))(j:∀(A:SC),A.handled=J->∀(i:Nat)(s:KB)(Q:V9->KB->Prop)(E:Ki),s.heap.IsStrIter a f x t i->x.cps[i]?=J->(∀l,Heap.ExtBut a s.heap l->Q J { s with heap:=l })->Pi (KF P w) A (pyNext (.ref a)) Q E s)(TL:∀(A:SC)(i:Nat)(s:KB)(Q:Ki)(E:Ki),s.heap.IsStrIter a f x t i->Q (.ref a) s->Pi (KF P w) A (pyIter (.ref a)) Q E s) :
  Turn P w K G (Nr x) [a] a (λi h=>h.IsStrIter a f x t i) where
 mem:=by simp
 obj:=λi h st b hb=>by
  rw[ZZ.mp hb];obtain⟨o,e,c,d⟩:=st;exact⟨o,e,λv z=>by rw[d]at z;cases z⟩
 keep:=λi h l st k=>let ⟨o,e,r⟩:=st;⟨o,k a (by simp) o e,r⟩
 item:=by
  intro X p hw q n i g s O H E I m st hg;subst p hw q;obtain⟨D,f1,f2,C,y,f5⟩:=m a (by simp);refine(W X.A (I.ok.hd n)).item i s _ _ hg st λv l tk R F L=>?_;obtain⟨c,u,LP,rfl⟩:=R;obtain⟨o,e,Z,d⟩:=id F;exact⟨_,rfl,uM e Z d S ⟨.str ⟨#[c]⟩,H,(I.turned (λb o hb e=>L b o (by simpa using hb) e) D f1 C y f5),⟨u,rfl⟩,⟨rfl,c,LP,rfl⟩,F,λb hb=>(m b hb).1⟩⟩
 done:=by
  intro X p hw q n i g s O H E I m st hg;subst p hw q;obtain⟨D,f1,f2,C,y,f5⟩:=m a (by simp);have N:x.cps.size<=i:=hg;exact j X.A (I.ok.hd n) i s _ _ st (by simp[N]) λl U=>⟨rfl,I.turned (λb o hb e=>U b o hb e) D f1 C y f5⟩
 self:=λA i s Q E st h=>TL A i s Q E st h
def BM{K:X2}(x:Str)(t:Tok)(a:On):Turn P w K g (Nr x) [a] a (λi h=>h.IsStrIter a (strIterType x) x t i):=by
 cases f:x.cps.all (· < 128)
 ·have e:strIterType x = "str_iterator" := by simp[strIterType,f]
  rw[e];exact ql x t a "str_iterator" rfl (λA b=>Walks.strWide b a x t) (λA b i s Q E st d q=>wpAny_pyNext_wide_end b st d q) λA i s Q E st q=>wpAny_pyIter_striter_wide st q
 ·have e:strIterType x = "str_ascii_iterator" := by simp[strIterType,f]
  rw[e];exact ql x t a "str_ascii_iterator" rfl (λA b=>Walks.strAscii b a x t) (λA b i s Q E st d q=>wpAny_pyNext_ascii_end b st d q) λA i s Q E st q=>wpAny_pyIter_striter_ascii st q
section
def JF(K:X2)(f:TE):TI:=λO H R=>f O H λx d=>(∃a,x=.ref a/\(∃e,Kt K d a e)/\R (Itl K a) d)\/(∃a,x=.ref a/\(∃e,LF K d a e)/\R (Itt K a) d)\/∃z,x=.str z/\R (Nr z) d
def DQ(A:PE X l tl):PI X tg l (JF X.K tl):=by
 intro d s O H R I h;refine thn (A d s O H _ I h) λv s1 C=>?_;obtain⟨x,i,g,r1,r⟩:=C;have f:∀b∈[s1.heap.objs.size],pM X d i b:=λb hb=>by
  rw[ZZ.mp hb];exact g.OY (Zn _) (g.Kd.fresh (Zn _))
 rcases r with⟨a,e,⟨m,j⟩,q⟩ | ⟨a,e,⟨m,j⟩,q⟩ | ⟨z,e,q⟩
 ·subst e;cases r1;obtain⟨w,n,p,y⟩:=g.list j;exact wpAny_pyIter_list p.isList ⟨s1.heap.objs.size,[s1.heap.objs.size],_,_,i,rfl,g.kept λb o e=>Zj _ e,yZ a _,⟨_,ZK _ L,rfl,rfl⟩,f,q⟩
 ·subst e;cases r1;obtain⟨w,n,p,y⟩:=g.tuple j;exact wpAny_pyIter_tuple (p) ⟨s1.heap.objs.size,[s1.heap.objs.size],_,_,i,rfl,g.kept λb o e=>Zj _ e,vB a _,⟨_,ZK _ L,rfl,rfl⟩,f,q⟩
 ·refine L2.ai λD u=>?_;subst e;obtain⟨t,rfl⟩:=r1;refine u ?_;exact wpAny_pyIter_strU ⟨s1.heap.objs.size,[s1.heap.objs.size],_,_,i,rfl,g.kept λb o e=>Zj _ e,BM z t _,⟨_,ZK _ L,rfl,rfl⟩,f,q⟩
def C2{s:KB}{d:XAA}(g:∀b x,b∉[s.heap.objs.size]->(s.heap.push o).get? b=Y x->d.get? b=Y x)(b:On)(x:Obj)(e:s.heap.get? b=Y x):d.get? b=Y x :=
 g b x (λf=>YE _ (by have:=ZO e;rw[ZZ.mp f]at this;exact this)) (Zj _ e)
def AN{X:Cx}(G:X.calm=M):dw X (.builtin "sum") (λr H Q=>∃p,∃ns:Uy,r=[.ref p]/\Kt X.K H p (ns.map V.int)/\Q (.int ns.sum) H):=by
 intro w s O H r P Q I z h;refine L2.ai λZ C=>?_;obtain⟨p,ns,rfl,F,q⟩:=h;obtain⟨u,rfl,j⟩:=z.one;cases j;obtain⟨d,g,m,S⟩:=I.list F;refine C ?_;have x:p<s.heap.objs.size:=by obtain⟨_,e,_⟩:=m.isList;exact ZO e
 refine call_sum_walkG (wpAny_pyIter_list m.isList ⟨s.heap.objs.size,[s.heap.objs.size,p],[s.heap.objs.size],d.toArray.size,_,_,λi=>(ns[i]?).getD 0,rfl,Walks.list (A:=X.A.in1) (I.ok.hd G) _ p (Za x) d.toArray,
  ⟨⟨_,ZK _ L,rfl,rfl⟩,m.isList.push _⟩,λb hb=>?_,λi v N=>?_,λU R y o=>⟨.int ns.sum,H,I.kept (C2 o),⟨y,?_⟩,q⟩⟩)
 ·rw[XJ];rcases Zi.mp hb with rfl | hb
  ·exact Yk _
  ·rw[ZZ.mp hb];exact M0 x
 ·have f:d[i]?=Y v:=by simpa using N
  cases e:ns[i]? with
  |none =>
   have:=g.none_of (i:=i) (by rw[ZP,e];rfl);rw[this]at f;cases f
  |some n =>
   obtain⟨u,E,j⟩:=g.get (i:=i) (by rw[ZP,e];rfl);rw[E]at f;cases f;obtain⟨t,rfl⟩:=j;exact⟨t,by simp[e]⟩
 ·have hlen:d.toArray.size=ns.length:=by have:=g.length;simp at this ⊢;exact Eq.symm this
  have:∀k,k<=ns.length->preSum (λi=>(ns[i]?).getD 0) k=(ns.take k).sum:=λk=>by
   induction k with
   |zero=>intro _;simp[preSum]
   |succ k D =>
    intro o;rw[List.take_succ,List.sum_append,preSum,D (by exact Nat.le_of_succ_le o)];cases e:ns[k]? <;> simp
  rw[hlen,this _ (Zn _),V4]
def yg:OpR X (UV .Gt) (λx y H Q=>∃i j,x=.str i/\y=.str j/\Q (.bl (decide (j.cps.toList<i.cps.toList))) H):=by
 intro d s O H x y v u Q I f e h;obtain⟨i,j,rfl,rfl,q⟩:=h;obtain⟨t,rfl⟩:=f;obtain⟨g,rfl⟩:=e;exact PySem.P.gt_str ⟨.bl _,H,I,rfl,q⟩
def yS:OpR X (UV .GtE) (λx y H Q=>∃i j,x=.str i/\y=.str j/\Q (.bl (!decide (i.cps.toList<j.cps.toList))) H):=by
 intro d s O H x y v u Q I f e h;obtain⟨i,j,rfl,rfl,q⟩:=h;obtain⟨t,rfl⟩:=f;obtain⟨g,rfl⟩:=e;exact PySem.P.ge_str ⟨.bl _,H,I,rfl,q⟩
end
end L2
end
section
namespace VS
open PySem PySem.Spec PyProof.Rows L2
section
def FN(H:Hp)(s:Tx)(l:kb s):Oj G (L2.Nr (sx s)) (s.map λc=>T.str [c]) [] H:=by
 have sz:(sx s).cps.size=s.length:=rfl;refine⟨λo _ _=>⟨λi t h=>?_,λi h=>(by rw[Zw]at h;show (sx s).cps.size<=i;lia)⟩,λa h=>by simp at h⟩;rw[ZP]at h;obtain⟨c,f,rfl⟩:=Zy.mp h;refine⟨(by show i<(sx s).cps.size;have:=(Zb.mp f).1;lia),λx n ⟨e1,g,j,e2⟩=>?_⟩;subst e1;have:g=c:=by
  have m:(sx s).cps[i]?=Y c:=by simp[sx,f]
  rw[m]at j;exact(Zl j).symm
 subst this;rw[e2];exact⟨aO.refl _,[],.str [g] ⟨(by show 1<=fI;decide),λd hd=>by rw[ZZ.mp hd];exact l.2 g (Yr f)⟩,λa h=>by simp at h⟩
def cK(w:PV G X a ca)(C:{`q3,X.K=G.K}):PVI G X tg a (fU ca) :=
 PI.weak (DQ w) λO H R u=>by
  obtain⟨Z,U,m,l,s,e,k⟩:=u;obtain⟨⟨r,x⟩,y,e1⟩:=Zz.mp e;refine⟨Z,U,r,x,s,y,λv f F e3 j o=>?_⟩;cases x with
  |lst q =>
   cases e1;obtain⟨n,g,A,rfl,rfl,d,i⟩:=j.lst_inv;exact .inl ⟨n,rfl,⟨g,Kt.of d⟩,k _ f _ e3 (DM X.K d i) o.c⟩
  |tup q =>
   cases e1;obtain⟨n,g,A,rfl,rfl,d,i⟩:=j.Lr;exact .inr (.inl ⟨n,rfl,⟨g,LF.of d⟩,k _ f _ e3 (Gy X.K d i) o.c⟩)
  |str z =>
   cases e1;obtain⟨rfl,ok⟩:=j.str_inv;exact .inr (.inr ⟨_,rfl,k _ f [] e3 (FN f z ok) λa h=>by simp at h⟩)
  |_=>cases e1
theorem xH:∀{d:List V}{l:Ut}{g:Yx}{f:Uy},RpL G H d l g->sM l=Y f->d=f.map V.int
 |_,_,_,_,.nil,e=>by cases e;rfl
 |_,_,_,_,.cons (t:=t) r q,e=>by
  cases t with
  |int s =>
   obtain⟨h,e1,e2⟩:=Zy.mp e;subst e2;rw[xH q e1,r.int_inv];rfl
  |_=>cases e
def GD:fF G (λd H Q=>∃p,∃ns:Uy,d=[.ref p]/\Kt G.K H p (ns.map V.int)/\Q (.int ns.sum) H) DL:=by
 intro Z U s H l o w m t Q A e k;unfold DL at e;split at e
 ·rename_i q x;refine L2.ai λr h=>?_;obtain⟨i,e1,e2⟩:=Zz.mp e;cases e2;obtain⟨v,F,rfl,rfl,f⟩:=(A.rp).one;obtain⟨a,n,u,rfl,rfl,j,g⟩:=f.lst_inv;refine h ?_;exact⟨a,i,rfl,by rw[← xH g e1];exact Kt.of j,bE k (.int _)⟩
 ·cases e
def Hv:bootBuiltins ("sum" : Str)=Y (.builtin "sum"):=by decide +kernel
def zF:bootBuiltins ("tuple" : Str)=Y (.type "tuple"):=by decide +kernel
def w_sum{X:Cx}(d:X.mg "sum" = J)(h:Lv G X [e] cs)(f:{`q3,Gl X "sum"})(i:{`q3,X.K=G.K})(g:{`q3,X.calm=M})(he:{`q3,K1 e [] X}):PV G X (.Call (.Name "sum" p) [e] [] pos) (eN DL cs) :=
 lE (AN g) (i ▸ GD) f d Hv h (he:=he)
def Bn:fF G (λg H Q=>∃p d,g=[.ref p]/\((Kt G.K H p d/\∀l,H l=J->Q (.ref l) (upd H l (.tup d)))\/(LF G.K H p d/\Q (.ref p) H))) kC:=by
 intro Z U C H l u D m t Q A e k;unfold kC at e;split at e
 ·rename_i w x;split at e
  ·rename_i y;refine L2.ai λz j=>?_;cases e;obtain⟨v,F,rfl,rfl,h⟩:=(A.rp).one;obtain⟨a,d,s,rfl,rfl,o,i⟩:=h.lst_inv;refine j ?_;refine⟨a,d,rfl,.inl ⟨Kt.of o,λq n=>?_⟩⟩;have f:aO H (upd H q (.tup d)):=cF n;have r:Rp G (upd H q (.tup d)) (.ref q) (.tup x) s.flatten:=.tup aw (i.same f);exact k _ _ _ f r (((A.fp.each 0 _ _ L L).sub (YT _ _)).up r)
  ·cases e
 ·cases e
def CW{X:Cx}(d:X.mg "tuple" = J)(g:Lv G X [e] cs)(f:{`q3,Gl X "tuple"})(h:{`q3,X.K=G.K})(he:{`q3,K1 e [] X}):PV G X (.Call (.Name "tuple" p) [e] [] pos) (eN kC cs) :=
 jH pJ (h ▸ Bn) f d zF g (he:=he)
def rGt:R2:=λx y H Q=>NS (λi j=>.bl (decide (j<i))) x y H Q\/(∃i j,x=.str i/\y=.str j/\Q (.bl (decide (j.cps.toList<i.cps.toList))) H)
def rGe:R2:=λx y H Q=>NS (λi j=>.bl (decide (j<=i))) x y H Q\/(∃i j,x=.str i/\y=.str j/\Q (.bl (!decide (i.cps.toList<j.cps.toList))) H)
def AA(s t:Tx):decide ((sx s).cps.toList<(sx t).cps.toList)=Os s t:=by rw[nZ];exact decide_eq_decide.mpr (by simp[sx])
def Ja:eT G rGt OK:=by
 intro Z U i H x y u w l j m t Q d e k;obtain⟨h,x⟩:=x;obtain⟨g,y⟩:=y;obtain⟨same,r1,r2,f1,f2,nd⟩:=d;unfold OK oLt at e;split at e
 ·rename_i e1 e2;cases e1;cases e2;cases e;exact .inl ⟨_,_,r1.int_inv,r2.int_inv,bE k (.bl _)⟩
 ·rename_i s _ f e1 e2;cases e1;cases e2;cases e;refine .inr ⟨_,_,r1.str_inv.1,r2.str_inv.1,?_⟩;rw[AA];exact bE k (.bl _)
 ·cases e
def Jd:eT G rGe Ti:=by
 intro Z U i H x y u w l j m t Q d e k;obtain⟨h,x⟩:=x;obtain⟨g,y⟩:=y;obtain⟨same,r1,r2,f1,f2,nd⟩:=d;unfold Ti oLe at e;split at e
 ·rename_i e1 e2;cases e1;cases e2;cases e;exact .inl ⟨_,_,r1.int_inv,r2.int_inv,bE k (.bl _)⟩
 ·rename_i s _ f e1 e2;cases e1;cases e2;cases e;refine .inr ⟨_,_,r1.str_inv.1,r2.str_inv.1,?_⟩;rw[AA];exact bE k (.bl _)
 ·cases e
def zV:Tells OK:=λx y m t e=>kW y x m t e
def zg:Tells Ti:=λx y m t e=>zw y x m t e
def zk(f:PV G X a ca)(d:PV G X b cb):MA G X (.Compare a [.Gt] [b] pos) (e2 OK ca cb):=gH (Js.or yg) Ja zV f d (jm _)
def ug(R:eT G r f)(n:eT G A g)(h:tE G (iA f g ca cb cc) O H Q):Ca r A (tE G ca) (tE G cb) (tE G cc) O H Q:=by
 refine L2.ai λP_ k_=>?_;obtain⟨Z,U,m,t,s,e,k⟩:=h;obtain⟨x,ea,e⟩:=Zz.mp e;obtain⟨y,eb,e⟩:=Zz.mp e;obtain⟨⟨S,z⟩,ez,e⟩:=Zz.mp e;refine k_ ?_;refine Cb s ea eb λu w H2 F1 C d=>R Z U H H2 x y u w F1 C S z _ d ez λv H3 F e1 r1 f1=>?_;cases z with
 |bl q =>
  refine⟨q,r1.Lf,?_⟩;cases q with
  |false =>
   cases e;rw[Zo Zh];exact k _ H3 [] (d.same.trans e1) (.bl B) Fp.nil
  |true =>
   rw[Zp L];obtain⟨l,ec,e⟩:=Zz.mp (e);have i:=d.same.trans e1;refine⟨Z,U,l.1,l.2,s.same i,ec,λD H4 F4 o P j=>?_⟩;refine n Z U H H4 y l w D C F4 m t Q ⟨i.trans o,(d.r2.same e1).same o,P,d.f2,j.back i,λhx hy=>?_⟩ e λE H5 F5 e5 N f5=>k E H5 F5 ((i.trans o).trans e5) N f5;have f2:=d.f2;rw[hx]at f2;rw[hy]at j;refine ZF.mpr ⟨f2.1,j.1,λa ha b hb z=>?_⟩;subst z;exact Kn.pe ((d.r2.same e1).Kw a ha) (j.2 a hb)
 |_=>cases e
def v8{X:Cx}{i:Int}(h:∃t,X.mg x=Y (.int i t))(f:{`q3,Gl X x})(g:{`q1,K3 x}):PV G X (.Name x pos) (Q3 i):=by
 obtain⟨t,d⟩:=h;exact CN (v:=.int i) f d ⟨t,rfl⟩ (λH=>.int i) g
end
end VS
end
section
namespace L2
open PySem PySem.Spec PyProof.Rows
section
def yf{α:Type}(l:List α)(n:Nat):∀acc:List α,List.foldl (λa x2=>a++x2) acc.toArray (List.replicate n l.toArray)=(acc++(List.replicate n l).flatten).toArray:=by
 induction n with
 |zero=>intro acc;simp
 |succ n b =>
  intro acc;rw[X9,Y9];have e:acc.toArray++l.toArray=(acc++l).toArray:=by simp
  rw[e,b (acc++l),X9,ZG,Ze]
def Dm:OpR X (binaryOp .Mult) (λx y H Q=>∃(l:Uz)(k:Int),x=.str ⟨l.toArray⟩/\y=.int k/\-(2 ^ 62)<=k/\k<2 ^ 62/\l.length*k.toNat<=KM/\Q (.str ⟨(List.replicate k.toNat l).flatten.toArray⟩) H):=by
 intro f s O H x y v u Q I i g h;obtain⟨l,k,rfl,rfl,r,p,b,q⟩:=h;obtain⟨t,rfl⟩:=i;obtain⟨o,rfl⟩:=g;have hlen:(⟨l.toArray⟩:Str).length=l.length:=rfl;refine PySem.P.mul_str ?_ ?_ ?_ ?_
 ·rw[Bool.or_eq_false_iff];exact⟨ZS (by lia),ZS (by lia)⟩
 ·intro d _ m;rw[hlen]at m;have:(l.length:Int)*k<=16777216:=by
   have j:l.length*k.toNat<=16777216:=b;have:((l.length*k.toNat:Nat):Int)<=16777216:=by lia
   rw[Int.natCast_mul]at this
   rwa [Int.toNat_of_nonneg (by lia)]at this
  have n:(l.length:Int)*k<=2 ^ 63-1:=by lia
  have:=(Int.le_ediv_iff_mul_le (by lia)).mpr n;lia
 ·intro _ _;rw[hlen];exact ZS (by exact Nat.not_lt.mpr b)
 ·by_cases d:k<1
  ·rw[Zp d];have e:k.toNat=0:=by lia
   rw[e]at q;exact⟨by decide,⟨.str ⟨#[]⟩,H,I.tok _,⟨_,rfl⟩,q⟩⟩
  ·rw[Zo d];split
   ·rename_i a;have e:(List.replicate k.toNat l).flatten=l:=by
     rw[Bool.or_eq_true]at a;rcases a with a | a
     ·have:k=1:=by simpa using a
      subst this;simp
     ·have:l=[]:=by
       rw[hlen]at a;exact WU (by simpa using a)
      subst this;simp
    rw[e]at q;exact⟨.str ⟨l.toArray⟩,H,I,⟨t,rfl⟩,q⟩
   ·have e:=yf l k.toNat [];rw[Ye]at e;rw[show (⟨l.toArray⟩:Str).cps=l.toArray from rfl,e];refine⟨?_,⟨.str ⟨(List.replicate k.toNat l).flatten.toArray⟩,H,I.tok _,⟨s.toks,rfl⟩,q⟩⟩;show (⟨(List.replicate k.toNat l).flatten.toArray⟩:Str).length<=KM;show ((List.replicate k.toNat l).flatten.toArray).size<=KM;rw[ZE,(len_rep l k.toNat),Nat.mul_comm];exact b
end
end L2
namespace VS
open PySem PySem.Spec PyProof.Rows L2
section
def C5:eT G (λx y H Q=>∃(l:Uz)(k:Int),x=.str ⟨l.toArray⟩/\y=.int k/\-(2 ^ 62)<=k/\k<2 ^ 62/\l.length*k.toNat<=KM/\Q (.str ⟨(List.replicate k.toNat l).flatten.toArray⟩) H) wZ:=by
 intro Z U A H x y u w D C m t Q g e k;obtain⟨v,x⟩:=x;obtain⟨s,y⟩:=y;obtain⟨same,r1,r2,f1,f2,nd⟩:=g;unfold wZ at e;split at e
 ·rename_i _ h _ j e1 e2;refine L2.ai λz i=>?_;cases e1;cases e2;refine i ?_;split at e
  ·rename_i f;cases e;have q:=f.2.1;have o:=f.2.2;unfold Sh at q o;refine⟨h,j,r1.str_inv.1,r2.int_inv,by lia,by lia,f.1,bE k (.str _ ⟨?_,λc r=>?_⟩)⟩
   ·rw[len_rep,Nat.mul_comm];exact f.1
   ·obtain⟨x,n,d⟩:=V5.mp r;rw[(List.mem_replicate.mp n).2]at d;exact r1.str_inv.2.2 c d
  ·cases e
 ·cases e
def Aj:PV G X (.Dict [] [] pos) (vh 0 []):=PE.weak BY λO H Q d=>by
 obtain⟨Z,U,m,t,s,e,k⟩:=d;cases (e);intro q d;have:Rp G (upd H q (.dK [])) (.ref q) (.dct 0 ((([]).map aK).zip [])) (q :: ([]).flatten):=.dct aw L .nil;exact k _ _ [q] (cF d) this ⟨by simp,λb hb=>by rw[ZZ.mp hb];exact d⟩
end
section
def jC{X:Cx}(hp:PassesOwn (KF X.prog X.w) X.A X.env X.xe)(hc:MA G X c cc)(hb:hU G X h E):PSV G X (.While c h [] pos) (mn cc E) :=
 PS.weak (Bo hp hc hb) λD O H hq=>by
  obtain⟨Z,U,o,s,e,k⟩:=hq;refine⟨λn F N=>∃r y,SR G r y F N/\Ku Z U H r y N/\dM cc E n y=Y o,⟨yM,Z,U,s,Ku.refl Z U H,e⟩,?_⟩;rintro n F N ⟨r,y,R,f2,e2⟩;cases n with
  |zero=>cases (e2)
  |succ n =>
   rw[dM]at e2;obtain⟨⟨mx,x⟩,ex,e3⟩:=Zz.mp e2;obtain⟨t,et,C⟩:=Zz.mp e3;refine⟨r,y,mx,x,t,R,ex,et,λH3 P=>?_⟩;have Q:=R.same P;have m:=f2.trans (Ku.same P);cases t with
   |false =>
    rw[Zo Zh]at C;cases C;show if B=M then _ else _
    rw[Zo Zh];exact k r F H3 Q m
   |true =>
    rw[Zp L]at C;show if M=M then _ else _
    rw[Zp L];obtain⟨S,e5,z⟩:=Zz.mp C;refine⟨λi g=>∃d f,SR G d f i g/\Ku Z U H d f g/\dM cc E n f=Y o,λi g q=>⟨n,Yk n,q⟩,r,y,S,Q,e5,?_⟩;cases S with
    |nx f=>exact λd i g j l=>⟨d,f,j,m.trans l,z⟩
    |ct f=>exact λd i g j l=>⟨d,f,j,m.trans l,z⟩
    |bk f =>
     cases (z);exact λd i g j l=>k d i g j (m.trans l)
    |rt v f =>
     cases (z);exact λu g F4 d i j l r5 q5=>k u g F4 d i j (m.trans l) r5 (q5.back m)
noncomputable def S8:Sx:=λ_=>J
def qM:PSV G X f S8:=λd s O H D I ⟨_,_,_,_,e,_⟩=>nomatch (e)
def fj(r:Rp G H v (.dct 0 l) F):∃(a:On)(f:List Key)(d:List V)(g:Ut)(h:Yx),v=.ref a/\F=a :: h.flatten/\H a=Y (.dK (f.zip d))/\f.length=d.length/\l=(f.map aK).zip g/\RpL G H d g h:=r.inv
def dg(r:Rp G H v t F)(h:iu t=M):∃k:Key,v=kV k/\t=aK k:=by
 cases t with
 |int i=>exact⟨.inl i,r.int_inv,rfl⟩
 |str s=>exact⟨.inr (sx s),r.str_inv.1,by simp[aK,sx]⟩
 |_=>cases h
theorem lJ{k:Key}:∀{d:List Key}{f:List V}{ts:Ut}{m:Yx},d.length=f.length->RpL G H f ts m →
  (eA ((d.map aK).zip ts) (aK k)=J/\eW (d.zip f) k=J)\/∃(i:Nat)(v:V)(t:T)(F:W9),eA ((d.map aK).zip ts) (aK k)=Y t/\eW (d.zip f) k=Y v/\f[i]?=Y v/\m[i]?=Y F/\Rp G H v t F
 |[],[],_,_,_,.nil=>.inl ⟨rfl,rfl⟩
 |k' :: d,v :: f,_,_,s,.cons (t:=t) (F:=F) (ts:=ts) r q=>by
  have e:eqT (aK k') (aK k)=decide (k'=k):=by
   rw[Ww,decide_eq_true_eq];cases k with
   |inl i=>cases k'<;>simp[aK]
   |inr x =>
    obtain⟨⟨x⟩⟩:=x;cases k' with
    |inl j=>simp[aK]
    |inr y=>obtain⟨⟨y⟩⟩:=y;simp[aK]
  by_cases g:k'=k
  ·refine .inr ⟨0,v,t,F,?_,jh g,rfl,rfl,r⟩;have l:eqT (aK k') (aK k)=M:=by rw[e];exact decide_eq_true g
   simp only[eA,Zm,ZJ,Yh,l];rfl
  ·have w:eA (((k' :: d).map aK).zip (t :: ts)) (aK k)=eA ((d.map aK).zip ts) (aK k):=by
    have l:eqT (aK k') (aK k)=B:=by rw[e];exact ZS g
    simp only[eA,Zm,ZJ,Yh,l]
   have u:eW ((k' :: d).zip (v :: f)) k=eW (d.zip f) k:=by simp[eW,g]
   rw[w,u];rcases lJ (k:=k) (by simpa using s) q with h | ⟨i,n,o,L,E,D,C,A,z⟩
   ·exact .inl h
   ·exact .inr ⟨i+1,n,o,L,E,D,by simpa using C,by simpa using A,z⟩
def qE{X:Cx}(m:X.A.units+1<cLine):Mf X (λx y H Q=>∃a v,x=.ref a/\fK H a y (Y v)/\Q v H):=by
 intro value slice d s O H x y v u Q I l j h n;obtain⟨a,w,rfl,g,q⟩:=h;cases l;have f:=tV I g;refine Zr ?_;rw[getitemInPython_of_ne f.not_modules];refine Zr (wpAny_specialOf f PySem.F.slot_dict_getitem.lookup ?_);have fin:Pi (KF X.prog X.w) X.A (subscripted slice B (.ref a) u) (λr i=>Pi (KF X.prog X.w) X.A (letTemporaryGo value (.ref a) r >>= λ_=>pure r) (EP X d O Q) X.xe i) X.xe s:=by
  rw[n];exact wpAny_operating (yz m I g j λC D z o=>Zr (wpAny_letTemporaryGo (Zk ⟨w,H,z,o,q⟩)))
 first
  |exact Zk (Zr fin)
  |exact Zr (Zk (Zr fin))
  |exact Zr fin
def Jw(K:X2):R2:=λx y H Q=>rIx K x y H Q\/∃a v,x=.ref a/\fK H a y (Y v)/\Q v H
def IG:eT G (Jw G.K) MD:=by
 intro Z U C H x y u w E D m t Q d e k;obtain⟨g,x⟩:=x;by_cases hd:∃l,x=.dct 0 l
 ·obtain⟨l,rfl⟩:=hd;simp only[MD]at e;split at e
  ·rename_i j;obtain⟨O,e1,e2⟩:=Zy.mp e;obtain⟨a,P,L,N,Fs,rfl,rfl,n,h,rfl,q⟩:=fj d.r1;obtain⟨R,rfl,r⟩:=dg d.r2 j;rw[r]at e1;rcases lJ h q with⟨o,_⟩ | ⟨i,v,t2,F,A,z,a3,s,f⟩
   ·rw[o]at e1;cases e1
   ·rw[A]at e1;cases e1;cases e2;refine .inr ⟨a,v,rfl,by rw[← z];exact fK.k n,?_⟩;exact k v H F (aO.refl _) f (((d.f1.sub (YT _ _)).sub (b6 s)).up f)
  ·cases e
 ·exact .inl (vq Z U C H (g,x) y u w E D m t Q d (by
   simp only[MD]at e;split at e
   ·rename_i l S;exact absurd ⟨_,rfl⟩ hd
   ·exact e) k)
def zb{X:Cx}(f:p0 k X.A)(i:PV G X a ca)(g:PV G X b cb)(d:fX b:=by intro _ _;rfl)(j:{`q3,X.K=G.K}):PV G X (.Subscript a b pos) (e2 MD ca cb) :=
 PE.weak (mO (Mf.or kg (qE (jL f))) i g d) λO H Q h=>by rw[j];exact mw IG h
def fV:T->V
 |.bl b=>.bl b
 |.int i=>.int i
 |.str s=>.str (sx s)
 |_=>.non
def EK(r:Rp G H v t F)(h:flat t=M):v=fV t/\gK v=M:=by
 cases r with
 |non=>exact⟨rfl,rfl⟩
 |bl b=>exact⟨rfl,rfl⟩
 |int i=>exact⟨rfl,rfl⟩
 |str s d=>exact⟨rfl,rfl⟩
 |_=>cases h
theorem IH:∀{t u:T},flat t=M->flat u=M->Pu (fV t) (fV u)=eqT t u
 |.non,.non,_,_=>rfl
 |.non,.bl _,_,_=>rfl
 |.non,.int _,_,_=>rfl
 |.non,.str _,_,_=>rfl
 |.bl _,.non,_,_=>rfl
 |.bl _,.bl _,_,_=>rfl
 |.bl _,.int _,_,_=>rfl
 |.bl _,.str _,_,_=>rfl
 |.int _,.non,_,_=>rfl
 |.int _,.bl _,_,_=>rfl
 |.int _,.int _,_,_=>rfl
 |.int _,.str _,_,_=>rfl
 |.str _,.non,_,_=>rfl
 |.str _,.bl _,_,_=>rfl
 |.str _,.int _,_,_=>rfl
 |.str _,.str _,_,_=>AZ
def Ai(r:Rp G H v t F)(g:Rp G H w u h)(f:flat t=M)(d:flat u=M):Pu v w=eqT t u/\gK v=M/\gK w=M:=by
 obtain⟨e1,f1⟩:=EK r f;obtain⟨e2,f2⟩:=EK g d;refine⟨?_,f1,f2⟩;rw[e1,e2];exact IH f d
theorem rA(r:Rp G H x t F)(g:flat t=M):∀{d:List V}{f:Ut}{m:Yx},RpL G H d f m->f.all flat=M->d.all gK=M/\TH x d=f.any λy=>eqT y t
 |_,_,_,.nil,_=>⟨rfl,rfl⟩
 |_,_,_,.cons j q,h=>by
  rw[Xe,Yj]at h;obtain⟨l,i⟩:=rA r g q h.2;obtain⟨e1,e2,e3⟩:=Ai j r h.1 g;refine⟨by rw[Xe,e2,l];rfl,?_⟩;unfold TH at i ⊢;rw[YK,YK,i,e1]
def JL(K:X2):R2:=λx y H Q=>UT K B x y H Q\/∃a o,y=.ref a/\fK H a x o/\Q (.bl o.isSome) H
def D4(K:X2):R2:=λx y H Q=>UT K M x y H Q\/∃a o,y=.ref a/\fK H a x o/\Q (.bl (!o.isSome)) H
def Dl{X:Cx}(j:X.A.units+1<cLine):OpR X (UV .In) (λx y H Q=>∃a o,y=.ref a/\fK H a x o/\Q (.bl o.isSome) H):=by
 intro d s O H x y v u Q I i f h;obtain⟨a,o,rfl,g,q⟩:=h;cases f;exact J8 j I g i λm l=>⟨.bl o.isSome,H,l,rfl,q⟩
def uf{X:Cx}(j:X.A.units+1<cLine):OpR X (UV .NotIn) (λx y H Q=>∃a o,y=.ref a/\fK H a x o/\Q (.bl (!o.isSome)) H):=by
 intro d s O H x y v u Q I i f h;obtain⟨a,o,rfl,g,q⟩:=h;cases f;exact DB j I g i λm l=>⟨.bl (!o.isSome),H,l,rfl,q⟩
def uC(f:SK G Z U N H x y u w P O)(e:mV x y=Y (m,t)) :
  ∃b,m=.fr/\t=.bl b/\((∃p n,w=.ref p/\(Kt G.K H p n\/LF G.K H p n)/\gK u=M/\n.all gK=M/\TH u n=b)\/∃a o,w=.ref a/\fK H a u o/\o.isSome=b):=by
 obtain⟨R,y⟩:=y;simp only[mV]at e;split at e
 ·split at e
  ·rename_i d;cases e;obtain⟨a,z,g,Q,s,rfl,rfl,h,C,rfl,q⟩:=fj f.r2;obtain⟨A,rfl,D⟩:=dg f.r1 d;refine⟨_,rfl,rfl,.inr ⟨a,eW (z.zip g) A,rfl,fK.k h,?_⟩⟩;rw[D];rcases lJ C q with⟨l,j⟩ | ⟨i,v,t2,F,L,E,_⟩
   ·rw[l,j];rfl
   ·rw[L,E];rfl
  ·cases e
 ·split at e
  ·rename_i d;cases e;rw[Yj]at d;obtain⟨a,g,s,rfl,rfl,h,r⟩:=f.r2.lst_inv;obtain⟨l,j⟩:=rA f.r1 d.1 r d.2;exact⟨_,rfl,rfl,.inl ⟨a,g,rfl,.inl (Kt.of h),((Ai f.r1 f.r1 d.1 d.1).2.1),l,j⟩⟩
  ·cases e
 ·split at e
  ·rename_i d;cases e;rw[Yj]at d;obtain⟨a,g,s,rfl,rfl,h,r⟩:=f.r2.Lr;obtain⟨l,j⟩:=rA f.r1 d.1 r d.2;exact⟨_,rfl,rfl,.inl ⟨a,g,rfl,.inr (LF.of h),((Ai f.r1 f.r1 d.1 d.1).2.1),l,j⟩⟩
  ·cases e
 ·cases e
def IT:eT G (JL G.K) mV:=by
 intro Z U j H x y u w n l m t Q f e k;obtain⟨b,rfl,rfl,h⟩:=uC f e;rcases h with⟨p,d,rfl,i,f1,f2,hb⟩ | ⟨a,o,rfl,g,hb⟩
 ·refine .inl ⟨p,d,rfl,i,f1,f2,?_⟩;rw[hb];exact bE k (.bl b)
 ·refine .inr ⟨a,o,rfl,g,?_⟩;rw[hb];exact bE k (.bl b)
def GU:eT G (D4 G.K) cN:=by
 intro Z U r H x y u w v s m t Q i e k;unfold cN at e;split at e
 ·rename_i q d l;cases e;obtain⟨b,rfl,n,h⟩:=uC i l;cases n;rcases h with⟨p,f,rfl,j,f1,f2,hb⟩ | ⟨a,o,rfl,g,hb⟩
  ·refine .inl ⟨p,f,rfl,j,f1,f2,?_⟩;rw[hb];exact bE k (.bl (!d))
  ·refine .inr ⟨a,o,rfl,g,?_⟩;rw[hb];exact bE k (.bl (!d))
 ·cases e
def AS:Tells mV:=by
 intro x y m t e;simp only[mV]at e;split at e
 all_goals first | (split at e<;>first | (cases e;exact⟨_,rfl⟩) | cases e) | cases e
def ym:Tells cN:=by
 intro x y m t e;unfold cN at e;split at e
 ·cases e;exact⟨_,rfl⟩
 ·cases e
def Jy{X:Cx}(d:p0 k X.A)(h:PV G X a ca)(g:PV G X b cb)(f:{`q4,behindInMarks .In b=B})(i:{`q3,X.K=G.K}):MA G X (.Compare a [.In] [b] pos) (e2 mV ca cb):=gH (zd.or (Dl (jL d))) (i ▸ IT) AS h g f
def sA{X:Cx}(d:p0 k X.A)(h:PV G X a ca)(g:PV G X b cb)(f:{`q4,behindInMarks .NotIn b=B})(i:{`q3,X.K=G.K}):MA G X (.Compare a [.NotIn] [b] pos) (e2 cN ca cb):=gH (sE.or (uf (jL d))) (i ▸ GU) ym h g f
end
end VS
end
section
open PySem PyProof.Rows
namespace TS
noncomputable def xT:Bool->Pv->Array Pv->Nat->Nat->Nat->StateT SL Sem (Option Nat):=sortPriv% PySem.Builtin.gallop
noncomputable def B8:Array Pv->Array Pv->StateT SL Sem (Array Pv):=sortPriv% PySem.Builtin.mergeLo
noncomputable def zp:Array Pv->Array Pv->StateT SL Sem (Array Pv):=sortPriv% PySem.Builtin.mergeHi
def all2{e d:Type}{P:e×d->Prop}(h:∀b a,P (b,a)):∀x,P x:=λ(b,a)=>h b a
def j8{g f e:Type}{P:g×f×e->Prop}(h:∀d b a,P (d,b,a)):∀x,P x:=λ(d,b,a)=>h d b a
def yP{m l j i g:Type}{P:m×l×j×i×g->Prop}(h:∀f e d b a,P (f,e,d,b,a)):∀x,P x:=λ(f,e,d,b,a)=>h f e d b a
def uo{o n m l j i:Type}{P:o×n×m×l×j×i->Prop}(h:∀g f e d b a,P (g,f,e,d,b,a)):∀x,P x:=λ(g,f,e,d,b,a)=>h g f e d b a
def CG{q p o n m l j:Type}{P:q×p×o×n×m×l×j->Prop}(h:∀i g f e d b a,P (i,g,f,e,d,b,a)):∀x,P x:=λ(i,g,f,e,d,b,a)=>h i g f e d b a
structure LM(prog:SB)(w:XAB)(A:SC)(E:Ki)(s:KB)(κ:SortKind)(G:Pv->Prop)(r:Pv->Pv->Bool):Prop where
 run:∀(st:SL)(x y:Pv)(Q:Option Bool->SL->Prop),kindOf st=κ->G x->G y->Q (some (r x y)) st->wpS (KF prog w) A E s (lt' x y) Q st
 UC:∀x y,G x->G y->r x y=true->r y x=false
 trans:∀x y z,G x->G y->G z->r y x=false->r z y=false->r z x=false
variable{κ:SortKind}
noncomputable def le(r:Pv->Pv->Bool)(x y:Pv):Prop:=r y x=B
def d7{a:Array Pv}(d:i<a.size)(h:Q a[i] b):wpS (KF prog w) A E s (elem' a i) Q b:=by
 rw[elem'_eq,getElem?_pos a i d];exact ZV h
noncomputable def N3(r:Pv->Pv->Bool)(left:Bool)(a x:Pv):Bool:=if left then r x a else !(r a x)
noncomputable def bf(left:Bool)(a:Pv)(b:Array Pv)(i:Nat):StateT SL Sem (Option Bool):=do
 let x ← elem' b i
 if left=M then lt' x a else do
  let l ← lt' a x
  pure (Option.map (λx=>!x) l)
def nA(C:LM prog w A E s κ G r)(e:kindOf d=κ)(j:G b)(l:∀x∈a,G x)(f:i<a.size)(h:Q (Y (N3 r left b a[i])) d) :
  wpS (KF prog w) A E s (bf left b a i) Q d:=by
 refine ZU (d7 f ?_);have g:=l _ (ZW f);cases left with
 |true=>exact C.run d _ _ _ e g j h
 |false=>exact ZU (C.run d _ _ _ e j g (ZV h))
def mid(h:a<b):a+(b-a)/2<b:=by omega
def sea(left:Bool)(e:Pv)(g:Array Pv)(a n d f:Nat):StateT SL Sem (Option Nat):=do
 let mut lo:=d
 let mut b:=f
 for _ in [0:n] do
  if lo ≥ b then break
  let m:=lo+(b-lo)/2
  let Y more ← bf left e g (a+m) | return J
  if more then lo:=m+1 else b:=m
 return Y b
section
variable{st:SL}
def B0{prog:SB}{w:XAB}{A:SC}{E:Ki}{s:KB}{G:Pv->Prop}{r:Pv->Pv->Bool}{left:Bool}{key:Pv}{base n:Nat}{Q:Option Nat->SL->Prop}{f:Nat->Bool}(C:LM prog w A E s κ G r){v a:Nat}(hk:kindOf st=κ)(gk:G key)(O:∀x∈arr,G x)(D:∀i,i<n->base+i<arr.size)(P:∀i (a:base+i<arr.size),f i=N3 r left key arr[base+i])(z:∀i j,i<=j->j<n->f j=M->f i=M)(fin:∀k,k<=n->(∀i,i<k->f i=M)->(∀i,k<=i->i<n->f i=B)->Q (Y k) st)(N:v<=a)(y:a<=n)(H:∀i,i<v->f i=M)(F:∀i,a<=i->i<n->f i=B):wpS (KF prog w) A E s (sea left key arr base n v a) Q st:=by
 refine ZU (XU (YQ
  (I:=λx c l=>st=l/\c.1=J/\c.2.1<=c.2.2/\c.2.2<=n/\(∀i,i<c.2.1->f i=M)/\(∀i,c.2.2<=i->i<n->f i=B)/\c.2.2+x<=n+c.2.1)
  (Q:=λc l=>st=l/\c.1=J/\c.2.1=c.2.2/\c.2.2<=n/\(∀i,i<c.2.1->f i=M)/\(∀i,c.2.2<=i->i<n->f i=B)) ?step ?fin ?init) ?post)
 case init=>exact⟨rfl,rfl,N,y,H,F,ZR y (Zd n v)⟩
 case fin =>
  refine j8 λX h u=>?_;rintro l ⟨rfl,e1,p,b,g,d,U⟩;exact⟨rfl,e1,Xs p (Nat.le_of_add_le_add_left (by rw[WK];exact U)),b,g,d⟩
 case step =>
  intro x;refine j8 λX h u=>?_;rintro l _ hx ⟨rfl,e1,p,b,g,d,U⟩
  try dsimp only at *
  split
  ·rename_i q;exact ZV ⟨rfl,rfl,Xs p q,b,g,d⟩
  ·rename_i q;have o:=mid (Nat.lt_of_not_ge q);have R:h<=h+(u-h)/2:=Zd _ _;generalize h+(u-h)/2=m at o R ⊢;have S:=D m (Zg o b);refine ZU (nA C hk gk O S ?_)
   try dsimp only
   rw[← P _ S];cases e:f m with
   |true =>
    rw[Zp L];exact ZV ⟨rfl,rfl,o,b,λi a=>z i _ (MJ a) (Zg o b) e,d,by(try dsimp only);clear g d z P fin D O N y H F;omega⟩
   |false =>
    rw[Zo Zh];refine ZV ⟨rfl,rfl,R,ZQ (Zg o b),g,λi a Z=>?_,by(try dsimp only);clear g d z P fin D O N y H F;omega⟩;cases e2:f i with
    |false=>rfl
    |true=>rw[z _ i a Z e2]at e;cases e
 case post =>
  refine j8 λX h u=>?_;rintro l ⟨rfl,e1,p,b,g,d⟩
  try dsimp only at *
  subst e1;exact ZV (fin u b (λi a=>g i (p ▸ a)) d)
def ar1{n:Nat}(h:b<c)(g:a+b<n):a+b+1<=a+min c (n-a):=by omega
def ar2{n:Nat}(h:a<n):a+min c (n-a)<=n:=by omega
def ar3{n:Nat}(h:a+min c (n-a)<=i)(g:i<n):a+c<=i:=by omega
def ar4(h:b<c)(g:b<=a):a+1-min c (a+1)<=a-b:=by omega
def ar5(h:i<a+1-min c (a+1)):c<=a/\i<=a-c:=by omega
def ar6{n:Nat}(h:¬c ≥ n-a):a+c<n:=by omega
def ar7{n:Nat}(h:c ≥ n-a):¬a+c<n:=by omega
def ar8(h:x<c):x+1<2*c+1:=by omega
def ar9:c<2*c+1:=by omega
def vH(C:LM prog w A E s κ G r)(N:kindOf st=κ)(O:G key)(P:∀x∈arr,G x)(X:base+n<=arr.size)(y:a<n)(u:∀i j (b:base+i<arr.size) (U:base+j<arr.size),i<=j->j<n->N3 r left key arr[base+j]=M->N3 r left key arr[base+i]=M)(h:∀k,k<=n->(∀i (b:base+i<arr.size),i<k->N3 r left key arr[base+i]=M)->(∀i (b:base+i<arr.size),k<=i->i<n->N3 r left key arr[base+i]=B)->Q (Y k) st) :
  wpS (KF prog w) A E s (xT left key arr base n a) Q st:=by
 obtain⟨f,p⟩:∃f:Nat->Bool,∀i (b:base+i<arr.size),f i=N3 r left key arr[base+i]:=⟨λi=>if b:base+i<arr.size then N3 r left key arr[base+i] else B,λi b=>dif_pos b⟩
 have lt:∀i,i<n->base+i<arr.size:=λi b=>Zg (YY b base) X;have D:∀i j,i<=j->j<n->f j=M->f i=M:=λi j M5 U e=>by
  have b2:=lt j U;have b1:=lt i (ZL M5 U);rw[p j b2]at e;rw[p i b1];exact u i j b1 b2 M5 U e
 have fin:∀k,k<=n->(∀i,i<k->f i=M)->(∀i,k<=i->i<n->f i=B)->Q (Y k) st:=λk h1 h2 h3 =>
  h k h1 (λi b QP=>by rw[← p i b];exact h2 i QP) λi b h4 h5=>by rw[← p i b];exact h3 i h4 h5
 clear h u X;change wpS (KF prog w) A E s (_>>=_) Q st;have Z:=lt a y;refine ZU (nA C N O P Z ?_);dsimp only;rw[← p _ Z];cases e0:f a with
 |true =>
  rw[Zp L];refine ZU (XU (YQ
   (I:=λx c m=>st=m/\c.1=J/\f (a+c.2.1)=M/\c.2.1<c.2.2/\a+c.2.1<n/\x<c.2.2)
   (Q:=λc m=>st=m/\c.1=J/\f (a+c.2.1)=M/\c.2.1<c.2.2/\a+c.2.1<n/\(a+c.2.2<n->f (a+c.2.2)=B)) ?step1 ?fin1 ?init1) ?post1)
  case init1=>exact⟨rfl,rfl,e0,Vl,y,Vl⟩
  case fin1 =>
   refine j8 λS R v=>?_;rintro m ⟨rfl,e1,l,g,d,o⟩;exact⟨rfl,e1,l,g,d,λz=>absurd (ZL (YB _ _) z) (Nat.lt_asymm o)⟩
  case step1 =>
   intro x;refine j8 λS R v=>?_;rintro m _ hx ⟨rfl,e1,l,g,d,o⟩;split
   ·rename_i q;exact ZV ⟨rfl,rfl,l,g,d,λz=>absurd z (ar7 q)⟩
   ·rename_i q;have H:=lt _ (ar6 q);refine ZU (nA C N O P H ?_);rw[← p _ H];cases e:f (a+v) with
    |true=>exact ZV ⟨rfl,rfl,e,ar9,ar6 q,ar8 o⟩
    |false=>exact ZV ⟨rfl,rfl,l,g,d,λ_=>e⟩
  case post1 =>
   refine j8 λS R v=>?_;rintro m ⟨rfl,e1,l,g,d,o⟩;subst e1;refine B0 C N O P lt p D fin (ar1 g d) (ar2 y) (λi b=>D i _ (MJ b) d l) λi b F=>?_;cases e2:f i with
   |false=>rfl
   |true =>
    have q:=ar3 b F;rw[← o (ZL q F),D _ i q F e2]
 |false =>
  rw[Zo Zh];refine ZU (XU (YQ
   (I:=λx c m=>st=m/\c.1=J/\f (a-c.2.1)=B/\c.2.1<c.2.2/\c.2.1<=a/\x<c.2.2)
   (Q:=λc m=>st=m/\c.1=J/\f (a-c.2.1)=B/\c.2.1<c.2.2/\c.2.1<=a/\(c.2.2<=a->f (a-c.2.2)=M)) ?step1 ?fin1 ?init1) ?post1)
  case init1=>exact⟨rfl,rfl,e0,Vl,ZA _,Vl⟩
  case fin1 =>
   refine j8 λS R v=>?_;rintro m ⟨rfl,e1,l,g,d,o⟩;exact⟨rfl,e1,l,g,d,λz=>absurd (ZL z y) (Nat.lt_asymm o)⟩
  case step1 =>
   intro x;refine j8 λS R v=>?_;rintro m _ hx ⟨rfl,e1,l,g,d,o⟩;split
   ·rename_i q;exact ZV ⟨rfl,rfl,l,g,d,λz=>absurd z (Nat.not_le_of_gt q)⟩
   ·rename_i q;have H:=lt _ (ZL (Yb a v) y);refine ZU (nA C N O P H ?_);rw[← p _ H];cases e:f (a-v) with
    |true=>exact ZV ⟨rfl,rfl,l,g,d,λ_=>e⟩
    |false=>exact ZV ⟨rfl,rfl,e,ar9,MJ (Nat.lt_of_not_ge q),ar8 o⟩
  case post1 =>
   refine j8 λS R v=>?_;rintro m ⟨rfl,e1,l,g,d,o⟩;subst e1;refine B0 C N O P lt p D fin (ar4 g d) (ZR (Yb _ _) (ZQ y)) (λi b=>?_) λi b F=>?_
   ·have q:=ar5 b;exact D i _ q.2 (ZL (Yb _ _) y) (o q.1)
   ·cases e2:f i with
    |false=>rfl
    |true=>rw[← l,D _ i b F e2]
end
end TS
end
section
open PySem PyProof.Rows
namespace TS
variable{κ:SortKind}
def LM.refl(C:LM prog w A E s κ G r)(h:G x):le r x x:=by
 unfold le;cases e:r x x with
 |false=>rfl
 |true=>exact absurd (C.UC x x h h e) (by rw[e];exact λz=>nomatch z)
def LM.tr(C:LM prog w A E s κ G r)(d:G x)(b:G y)(a:G z)(f:le r x y)(e:le r y z):le r x z:=C.trans x y z d b a f e
def LM.Mh(C:LM prog w A E s κ G r)(b:G x)(a:G y)(h:r x y=M):le r x y:=C.UC x y b a h
def Seg(r:Pv->Pv->Bool)(a:Array Pv)(b d:Nat):Prop:=∀i j (f:i<a.size) (e:j<a.size),b<=i->i<=j->j<d->le r a[i] a[j]
def jG(C:LM prog w A E s κ G r)(y:kindOf o=κ)(m:G d)(u:∀x∈b,G x)(F:a+n<=b.size)(D:l<n)(v:Seg r b a (a+n))(h:∀k,k<=n->(∀i (f:i<b.size),a<=i->i<a+k->le r b[i] d)->(∀i (f:i<b.size),a+k<=i->i<a+n->le r d b[i])->Q (Y k) o) :
  wpS (KF prog w) A E s (xT left d b a n l) Q o:=by
 have g:∀i (f:i<b.size),G b[i]:=λi f=>u _ (ZW f);refine vH C y m u F D (λi j f p U z e=>?_) λk P O N=>h k P (λi f q H=>?_) λi f q H=>?_
 ·have s1:=v (a+i) (a+j) f p (by exact Zd _ _) (by lia) (by lia);cases left with
  |true =>
   unfold N3 at e ⊢;rw[Zp L]at e ⊢;cases e2:r b[a+i] d with
   |true=>rfl
   |false=>rw[C.tr m (g _ f) (g _ p) e2 s1]at e;cases e
  |false =>
   unfold N3 at e ⊢;rw[Zo Zh]at e ⊢;have S:r d b[a+j]=B:=by simpa using e
   have:=C.tr (g _ f) (g _ p) m s1 S;rw[this];rfl
 ·have e:=O (i-a) (by lia) (by lia);simp only[(by exact VD q)]at e;cases left with
  |true =>
   unfold N3 at e;rw[Zp L]at e;exact C.Mh (g _ f) m e
  |false =>
   unfold N3 at e;rw[Zo Zh]at e;show r d b[i]=B;simpa using e
 ·have e:=N (i-a) (by lia) (by lia) (by omega);have R:a+(i-a)=i:=by lia
  simp only[R]at e;cases left with
  |true =>
   unfold N3 at e;rw[Zp L]at e;exact e
  |false =>
   unfold N3 at e;rw[Zo Zh]at e;exact C.Mh m (g _ f) (by simpa using e)
def u0{a:Array Pv}(h:x∈a.toList.drop i):∃j,∃(d:j<a.size),i<=j/\a[j]=x:=by
 obtain⟨k,b,e⟩:=Yf h;rw[Yz]at b;rw[XF]at e;have:i+k<a.size:=by simpa using(by omega:i+k<a.toList.length)
 exact⟨i+k,this,by exact Zd _ _,by simpa using e⟩
def kQ{a:Array Pv}(h:x∈(a.toList.drop i).take k):∃j,∃(d:j<a.size),i<=j/\j<i+k/\a[j]=x:=by
 obtain⟨m,b,e⟩:=Yf h;rw[Yv,Yz]at b;rw[XG,XF]at e;have:i+m<a.size:=by simpa using(by omega:i+m<a.toList.length)
 exact⟨i+m,this,by exact Zd _ _,by lia,by simpa using e⟩
def xO{a:Array Pv}(h:i<a.size):a.toList.drop i=a[i] :: a.toList.drop (i+1):=by
 have:i<a.toList.length:=by simpa using h
 rw[YF this];simp
def jx(h:Seg r a 0 a.size):a.toList.Pairwise (le r):=by
 rw[YH];intro i j d b e;simpa using h i j (by simpa using d) (by simpa using b) (ZA _) (by exact ZQ e) (by simpa using b)
def Cg(C:LM prog w A E s κ G r)(f:∀x∈a,G x)(h:a.toList.Pairwise (le r)):Seg r a 0 a.size:=by
 intro i j d e _ g _;rcases Vq i j with l | b
 ·have:=YH.mp h i j (by simpa using d) (by simpa using e) l;simpa using this
 ·have:i=j:=by exact Xs g b
  subst this;exact C.refl (f _ (ZW d))
structure MI(r:Pv->Pv->Bool)(a b out:Array Pv)(ia ib:Nat):Prop where
 pm:(out.toList++(a.toList.drop ia++b.toList.drop ib)).Perm (a.toList++b.toList)
 so:out.toList.Pairwise (le r)
 la:∀x∈out.toList,∀y∈a.toList.drop ia,le r x y
 lb:∀x∈out.toList,∀y∈b.toList.drop ib,le r x y
def MR(r:Pv->Pv->Bool)(a b d:Array Pv):Prop:=d.toList.Perm (a.toList++b.toList)/\d.toList.Pairwise (le r)
theorem MI.size{f:Nat}(m:MI r a b d f e)(h:f<=a.size)(g:e<=b.size):d.size+(a.size-f)+(b.size-e)=a.size+b.size:=by
 have:=m.pm.length_eq;simp at this;lia
def MI.NM{k:Nat}(m:MI r a b f d l)(p:Seg r a 0 a.size)(q:∀i (o:i<a.size),d<=i->i<d+k->∀j (n:j<b.size),l<=j->le r a[i] b[j]) :
  MI r a b (f++a.extract d (d+k)) (d+k) l:=by
 have e1:(f++a.extract d (d+k)).toList=f.toList++(a.toList.drop d).take k:=by
  simp[List.extract_eq_drop_take]
 have e2:a.toList.drop d=(a.toList.drop d).take k++a.toList.drop (d+k):=by
  rw[← List.drop_drop];exact(YZ _ _).symm
 have h:(a.toList.drop d).Pairwise (le r):=(jx p).drop;rw[e2,Nv]at h;refine⟨?_,?_,?_,?_⟩
 ·rw[e1];have:=m.pm;rw[e2]at this;simpa[Ze] using this
 ·rw[e1,Nv];refine⟨m.so,h.1,λx e y g=>m.la x e y ?_⟩;exact YO g
 ·rw[e1];intro x e y g;rcases Zc.mp e with e | e
  ·exact m.la x e y (by rw[e2];exact ZI _ g)
  ·exact h.2.2 x e y g
 ·rw[e1];intro x e y g;rcases Zc.mp e with e | e
  ·exact m.lb x e y g
  ·obtain⟨i,o,z,v,rfl⟩:=kQ e;obtain⟨j,n,u,rfl⟩:=u0 g;exact q i o z v j n u
def MI.swap(m:MI r a b d f e):MI r b a d e f :=
 ⟨((Xz.append_left _).trans m.pm).trans Xz,m.so,m.lb,m.la⟩
def MI.Sf(m:MI r a b e f d)(g:Seg r b 0 b.size)(h:∀i (n:i<b.size),d<=i->i<d+k->∀j (l:j<a.size),f<=j->le r b[i] a[j]) :
  MI r a b (e++b.extract d (d+k)) f (d+k):=(m.swap.NM g h).swap
def B9{a b:Array Pv}(h:i<a.size):b.push a[i]=b++a.extract i (i+1):=by
 apply Array.ext';have:(a.extract i (i+1)).toList=[a[i]]:=by
  have e:i<a.toList.length:=by simpa using h
  simp[List.extract_eq_drop_take,YF e]
 rw[YW,this,W6]
def MI.LY(m:MI r a b e d f)(l:Seg r a 0 a.size)(h:d<a.size)(n:∀j (g:j<b.size),f<=j->le r a[d] b[j]):MI r a b (e.push a[d]) (d+1) f:=by
 rw[B9 h];refine m.NM l λi p u q j g o=>?_;have:i=d:=by lia
 subst this;exact n j g o
def MI.MB(m:MI r a b d f e)(g:Seg r b 0 b.size)(h:e<b.size)(i:∀j (l:j<a.size),f<=j->le r b[e] a[j]):MI r a b (d.push b[e]) f (e+1):=(m.swap.LY g h i).swap
def nu{a:Array Pv}:(a.extract i a.size).toList=a.toList.drop i:=by
 rw[Xh,List.extract_eq_drop_take,Ys (by simp)]
def MI.fin{f:Nat}(m:MI r a b d g f)(n:Seg r a 0 a.size)(l:Seg r b 0 b.size)(h:g=a.size\/f=b.size):MR r a b (d++a.extract g a.size++b.extract f b.size):=by
 have e:(d++a.extract g a.size++b.extract f b.size).toList=d.toList++(a.toList.drop g++b.toList.drop f):=by
  rw[YW,YW,nu,nu,Ze]
 refine⟨by rw[e];exact m.pm,?_⟩;rw[e,Nv];refine⟨m.so,?_,λx j y i=>?_⟩
 ·rcases h with h | h
  ·rw[YI (by simp[h]),Ye];exact(jx l).drop
  ·rw[YI (as:=b.toList) (by simp[h]),ZM];exact(jx n).drop
 ·rcases Zc.mp i with i | i
  ·exact m.la x j y i
  ·exact m.lb x j y i
def MI.last(m:MI r a b d f i)(o:Seg r b 0 b.size)(h:f+1=a.size)(p:∀j (n:j<b.size),le r b[j] a[f]):MR r a b (d++b.extract i b.size++a.extract f a.size):=by
 have e:(d++b.extract i b.size++a.extract f a.size).toList=d.toList++(b.toList.drop i++a.toList.drop f):=by
  rw[YW,YW,nu,nu,Ze]
 have e2:a.toList.drop f=[a[f]]:=by rw[xO (by omega),YI (by simp;lia)]
 refine⟨by rw[e];exact(Xz.append_left _).trans m.pm,?_⟩;rw[e,Nv];refine⟨m.so,?_,λx l y g=>?_⟩
 ·rw[Nv];refine⟨(jx o).drop,by rw[e2];exact Vv _ _,λx l y g=>?_⟩;rw[e2]at g;obtain⟨j,n,_,rfl⟩:=u0 l;rw[ZZ.mp g];exact p j n
 ·rcases Zc.mp g with g | g
  ·exact m.lb x l y g
  ·exact m.la x l y g
end TS
end
section
open PySem PyProof.Rows
namespace TS
variable{κ:SortKind}
noncomputable def iX(a b:SL):Prop:=kindOf b=kindOf a/\arrOf b=arrOf a/\UF b=UF a/\failedOf b=failedOf a
noncomputable def pO:Nat->StateT SL Sem Unit:=sortPriv% PySem.Builtin.setMinGallop
def iD(e:iX d a)(h:∀b,iX d b->Q () b):wpS (KF prog w) A E s (pO g) Q a:=by
 exact WR (h _ e)
def ip(h:Q () a):wpS (KF prog w) A E s (liftM (rule t)) Q a:=wpS_lift (wpAny_rule ⟨rfl,h⟩)
def aT{α:Type}{c:Prop}[Decidable c]{x y:StateT SL Sem α}{Q:α->SL->Prop}(d:c->wpS (KF prog w) A E s x Q b)(e:¬c->wpS (KF prog w) A E s y Q b) :
  wpS (KF prog w) A E s (if c then x else y) Q b:=by
 by_cases a:c
 ·rw[Zp a];exact d a
 ·rw[Zo a];exact e a
def xE{prog:SB}{w:XAB}{A:SC}{E:Ki}{s:KB}{α:Type}{c:Nat->Prop}[∀n,Decidable (c n)]{d a:Nat->StateT SL Sem α}{Q:α->SL->Prop}{b:SL}(e:∀n,d n=a (n-1))(h:∀n,wpS (KF prog w) A E s (a n) Q b):∀n,wpS (KF prog w) A E s (if c n then d n else a n) Q b :=
 λn=>aT (λ_=>by rw[e];exact h _) λ_=>h n
def dC{prog:SB}{w:XAB}{A:SC}{E:Ki}{s:KB}{α:Type}{a:Array Pv}{i:Nat}{c:Pv->Prop}[∀v,Decidable (c v)]{x y:Pv->StateT SL Sem α}{Q:α->SL->Prop}{b:SL}(e:i<a.size)(d:c a[i]->wpS (KF prog w) A E s (x a[i]) Q b)(f:¬c a[i]->wpS (KF prog w) A E s (y a[i]) Q b) :
  wpS (KF prog w) A E s (elem' a i >>= λv=>if c v then x v else y v) Q b:=ZU (d7 e (aT d f))
def BP{α:Type}{c d:Prop}[Decidable c][Decidable d]{x y z:StateT SL Sem α}{Q:α->SL->Prop}(g:c->wpS (KF prog w) A E s x Q a)(f:¬c->d->wpS (KF prog w) A E s y Q a)(b:¬c->¬d->wpS (KF prog w) A E s z Q a) :
  wpS (KF prog w) A E s (if c then x else if d then y else z) Q a:=aT g λe=>aT (f e) (b e)
def md{α β:Type}{a:Array Pv}{m:Pv->StateT SL Sem β}{f:Pv->β->StateT SL Sem α}{Q:α->SL->Prop}(d:i<a.size)(h:wpS (KF prog w) A E s (m a[i]) (λv e=>wpS (KF prog w) A E s (f a[i] v) Q e) b) :
  wpS (KF prog w) A E s (elem' a i >>= λu=>m u >>= λv=>f u v) Q b:=ZU (d7 d (ZU h))
structure MC(G:Pv->Prop)(r:Pv->Pv->Bool)(a b:Array Pv):Prop where
 ga:∀x∈a,G x
 gb:∀x∈b,G x
 sa:Seg r a 0 a.size
 sb:Seg r b 0 b.size
 na:0<a.size
 nb:0<b.size
 first:le r b[0] a[0]
 last:∀j (hj:j<b.size),le r b[j] a[a.size-1]
def MC.NV(M:MC G r a b)(f:i<a.size)(h:i+1=a.size):∀j (d:j<b.size),le r b[j] a[i]:=by
 intro j d;have:=M.last j d;have e:a.size-1=i:=by lia
 simpa[e] using this
def MC.bA(C:LM prog w A E s κ G r)(M:MC G r a b)(e:i<a.size)(f:j<b.size)(h:le r b[j] a[i]):∀k (d:k<a.size),i<=k->le r b[j] a[k]:=λk d g =>
 C.tr (M.gb _ (ZW f)) (M.ga _ (ZW e)) (M.ga _ (ZW d)) h (M.sa i k e d (ZA _) g d)
def MC.aB(C:LM prog w A E s κ G r)(M:MC G r a b)(f:i<a.size)(e:j<b.size)(h:le r a[i] b[j]):∀k (d:k<b.size),j<=k->le r a[i] b[k]:=λk d g =>
 C.tr (M.ga _ (ZW f)) (M.gb _ (ZW e)) (M.gb _ (ZW d)) h (M.sb j k e d (ZA _) g d)
def nc(h:Seg r a 0 a.size)(d e:Nat):Seg r a d e:=λi j g b m f l=>h i j g b (ZA _) f b
noncomputable abbrev LO(r:Pv->Pv->Bool)(a b:Array Pv)(x:Nat)(o:Array Pv)(i j:Nat):Prop:=MI r a b o i j/\i+1<a.size/\j<b.size/\x<o.size
abbrev LQ(d:SL)(r:Pv->Pv->Bool)(a b:Array Pv)(x:Nat)(c:Option (Array Pv))(o:Array Pv)(i j:Nat)(e:SL):Prop:=iX d e/\((∃res,c=Y res/\MR r a b res)\/(c=J/\LO r a b x o i j))
def nK{α β γ:Type}{c:α->β->Prop}{_:∀o i,Decidable (c o i)}{x F:α->β->StateT SL Sem γ}{Q:γ->SL->Prop}{j g f e d b:α->β->Prop}(P:α->β->Prop)(l:∀o i,P o i->wpS (KF prog w) A E s (F o i) Q a)(z:(∀o i,P o i->wpS (KF prog w) A E s (F o i) Q a)->∀o i,j o i->g o i->f o i->e o i->d o i->b o i->c o i->wpS (KF prog w) A E s (x o i) Q a)(h:∀o i,j o i->g o i->f o i->e o i->d o i->b o i->¬c o i->P o i) :
  ∀o i,j o i->g o i->f o i->e o i->d o i->b o i->wpS (KF prog w) A E s (if c o i then x o i else F o i) Q a :=
 λo i y v u q p m=>aT (z l o i y v u q p m) λn=>l o i (h o i y v u q p m n)
def IC(C:LM prog w A E s κ G r)(hk:kindOf D=κ)(M:MC G r a b)(h:∀res l,iX D l->MR r a b res->Q res l) :
  wpS (KF prog w) A E s (B8 a b) Q D:=by
 have hna:=M.na;have hnb:=M.nb;change wpS (KF prog w) A E s (_>>=_) Q D;refine ZU (ip ?_);have m0:MI r a b #[] 0 0:=⟨by simp,by simp,by simp,by simp⟩
 have m1:=m0.MB M.sb M.nb λj u _=>M.bA C M.na M.nb M.first j u (ZA _);have Rz:iX D D:=⟨rfl,rfl,rfl,rfl⟩
 refine dC M.nb (λe=>?_) λe1=>?_
 ·exact ZV (h _ _ Rz (m1.fin M.sa M.sb (.inr (by simpa using e))))
 refine aT (λe=>?_) λe2=>?_
 ·exact ZV (h _ _ Rz (m1.last M.sb (by simpa using e) (M.NV M.na (by simpa using e))))
 refine ZU (Vg ?_);refine ZU (XU (YQ
  (I:=λx c l=>iX D l/\c.1=J/\LO r a b x c.2.1 c.2.2.1 c.2.2.2.1)
  (Q:=λc l=>iX D l/\∃res,c.1=Y res/\MR r a b res) ?step ?fin ?init) ?post)
 case init=>exact⟨Rz,rfl,m1,(by simp at e2;lia),(by simp at e1;lia),by simp⟩
 case fin =>
  refine yP λP out n q mg l d=>?_;have m:=d.2.2.1;have g:=d.2.2.2.1;have f:=d.2.2.2.2.1;have p:=d.2.2.2.2.2;clear d;have:=m.size (by lia) (by exact ZQ f);lia
 case post =>
  refine yP λP out n q mg=>?_;rintro l ⟨kp,res,v,g⟩;subst v;exact ZV (h _ _ kp g)
 case step =>
  intro x;refine yP λP out n q mg l _ hx d=>?_;have kp:=d.1;have v:=d.2.1;have m:=d.2.2.1;have g:=d.2.2.2.1;have f:=d.2.2.2.2.1;have p:=d.2.2.2.2.2;clear d;refine ZU (XU (YQ
   (I:=λy c l=>iX D l/\c.1=J/\LO r a b (x+y) c.2.1 c.2.2.1 c.2.2.2.1)
   (Q:=λc l=>LQ D r a b (x+1) c.1 c.2.1 c.2.2.1 c.2.2.2.1 l) ?step2 ?fin2 ?init2) ?post2)
  case init2=>exact⟨kp,rfl,m,g,f,by simpa using p⟩
  case fin2 =>
   refine uo λP out n q ac bc l d=>?_;have kp:=d.1;have v:=d.2.1;have m:=d.2.2.1;have g:=d.2.2.2.1;have f:=d.2.2.2.2.1;have p:=d.2.2.2.2.2;clear d;exact⟨kp,.inr ⟨v,m,g,f,by(try dsimp only);lia⟩⟩
  case step2 =>
   intro y;refine uo λP out n q ac bc l _ hy d=>?_;have kp:=d.1;have m:=d.2.2.1;have g:=d.2.2.2.1;have f:=d.2.2.2.2.1;have p:=d.2.2.2.2.2;clear d;have X:n<a.size:=by exact Xv g
   have gA:=M.ga _ (ZW X);have gB:=M.gb _ (ZW f);refine md f (d7 X ?_);refine ZU (C.run _ _ _ _ (kp.1.trans hk) gB gA ?_);dsimp only;cases e:r b[q] a[n] with
   |true =>
    rw[Zp L];have F:=m.MB M.sb f (M.bA C X f (C.Mh gB gA e));refine dC f (λe3=>?_) λe3=>?_
    ·exact ZV ⟨kp,.inl ⟨_,rfl,F.fin M.sa M.sb (.inr (by simpa using e3))⟩⟩
    ·have O8:q+1<b.size:=by lia
     refine aT (λ_=>?_) λ_=>?_
     ·exact ZV ⟨kp,.inr ⟨rfl,F,g,O8,by simp;lia⟩⟩
     ·exact ZV ⟨kp,rfl,F,g,O8,by simp;lia⟩
   |false =>
    rw[Zo Zh];have F:=m.LY M.sa X (M.aB C X f e);refine dC X (λe3=>?_) λe3=>?_
    ·exact ZV ⟨kp,.inl ⟨_,rfl,F.last M.sb (by simpa using e3) (M.NV (by omega) (by simpa using e3))⟩⟩
    ·have O8:n+1+1<a.size:=by lia
     refine aT (λ_=>?_) λ_=>?_
     ·exact ZV ⟨kp,.inr ⟨rfl,F,O8,f,by simp;lia⟩⟩
     ·exact ZV ⟨kp,rfl,F,O8,f,by simp;lia⟩
  case post2 =>
   refine uo λP out n q ac bc=>?_;rintro l ⟨kp,⟨res,v,g⟩ | ⟨v,m,g,f,p⟩⟩
   ·subst v;exact ZV ⟨kp,res,rfl,g⟩
   ·subst v;refine ZU (ip ?_);refine ZU (XU (YQ
     (I:=λy c l=>iX D l/\c.1=J/\LO r a b (x+1) c.2.1 c.2.2.1 c.2.2.2.1)
     (Q:=λc l=>LQ D r a b (x+1) c.1 c.2.1 c.2.2.1 c.2.2.2.1 l) ?step3 ?fin3 ?init3) ?post3)
    case init3=>exact⟨kp,rfl,m,g,f,p⟩
    case fin3 =>
     refine uo λP out n q ac bc l d=>?_;have kp:=d.1;have v:=d.2.1;have m:=d.2.2.1;have g:=d.2.2.2.1;have f:=d.2.2.2.2.1;have p:=d.2.2.2.2.2;clear d;exact⟨kp,.inr ⟨v,m,g,f,p⟩⟩
    case post3 =>
     refine CG λP out n q mg ac bc=>?_;rintro l ⟨kp,⟨res,v,g⟩ | ⟨v,m,g,f,p⟩⟩
     ·subst v;exact ZV ⟨kp,res,rfl,g⟩
     ·subst v;exact ZU (iD kp λLV z=>ZV ⟨z,rfl,m,g,f,p⟩)
    case step3 =>
     intro y;refine CG λP out n q mg ac bc l _ hy d=>?_;have kp:=d.1;have m:=d.2.2.1;have g:=d.2.2.2.1;have f:=d.2.2.2.2.1;have p:=d.2.2.2.2.2;clear d;dsimp only at *;revert mg;refine xE (λ_=>rfl) λmg2=>?_;refine(λhF=>ZU (iD kp λLV z=>hF LV z)) λLV z=>?_;have gB:=M.gb _ (ZW f);refine md f (jG C (z.1.trans hk) gB M.ga (by lia) (by exact WB (by exact Xv g)) (nc M.sa _ _) λk N0 Mv Z=>?_);revert out n;refine nK (λo i=>MI r a b o i q/\i+1<a.size/\x+1<o.size/\∀j u,i<=j->le r b[q] (a[j]'u)) (λout n d=>?_) (λtail out n m g p N0 Mv Z e5=>?_) λout n m g p N0 Mv Z e5=>⟨m,g,p,λj u h=>Z j u (by lia) (by lia)⟩
     ·refine L2.ai λP_ k_=>?_;obtain⟨m,g,p,Z⟩:=d;refine k_ ?_;have LR:n<a.size:=Xv g;have R:=m.MB M.sb f Z;refine dC f (λe4=>?_) λe4=>?_
      ·exact ZV ⟨z,.inl ⟨_,rfl,R.fin M.sa M.sb (.inr (by simpa using e4))⟩⟩
      have Ow:q+1<b.size:=by lia
      have U:x+1<(out.push b[q]).size/\q+1<=q+1:=by rw[XI];exact⟨M0 p,Zn _⟩
      refine md LR (jG C (z.1.trans hk) (M.ga _ (ZW LR)) M.gb (by lia) (by exact WB Ow) (nc M.sb _ _) λk2 RN Ma S=>?_);generalize out.push b[q]=o1 at R U ⊢;generalize q+1=j1 at U R Ow RN Ma S ⊢;revert o1 j1;refine nK (λo j=>MI r a b o n j/\j<b.size/\x+1<o.size/\∀i H,j<=i->le r a[n] (b[i]'H)) (λout q d=>?_) (λtail o1 j1 U R Ow RN Ma S e5=>?_) λo1 j1 U R Ow RN Ma S e5=>⟨R,Ow,U.1,λi H h=>S i H (by lia) (by lia)⟩
      ·refine L2.ai λP_ k_=>?_;obtain⟨m,f,p,S⟩:=d;refine k_ ?_;have m5:=m.LY M.sa LR S;refine dC LR (λO=>?_) λO=>?_
       ·exact ZV ⟨z,.inl ⟨_,rfl,m5.last M.sb (by simpa using O) (M.NV (by omega) (by simpa using O))⟩⟩
       have e8:n+1+1<a.size:=by simp at O;lia
       have q6:x+1<(out.push a[n]).size:=by rw[XI];exact M0 p
       exact aT (λ_=>ZV ⟨z,.inr ⟨rfl,m5,e8,f,q6⟩⟩) λ_=>ZV ⟨z,rfl,m5,e8,f,q6⟩
      ·have m4:=R.Sf M.sb (λi H h1 h2 j u h3=>C.tr (M.gb _ (ZW H)) (M.ga _ (ZW LR)) (M.ga _ (ZW u)) (Ma i H h1 h2) (M.sa _ j LR u (ZA _) h3 u));refine aT (λN=>?_) λN=>?_
       ·exact ZV ⟨z,.inl ⟨_,rfl,m4.fin M.sa M.sb (.inr (by simpa using N))⟩⟩
       ·exact tail _ _ ⟨m4,by simp at N;lia,by rw[XE];exact Zg U.1 (Zd _ _),λi H h=>S i H h (by lia)⟩
     ·have F:=m.NM (k:=k) M.sa (λi H h1 h2 j u h3=>C.tr (M.ga _ (ZW H)) gB (M.gb _ (ZW u)) (Mv i H h1 h2) (M.sb _ j f u (ZA _) h3 u));refine BP (λN=>?_) (λN O=>?_) λN O=>?_
      ·exact ZV ⟨z,.inl ⟨_,rfl,F.last M.sb (by simpa using N) (M.NV (by lia) (by simpa using N))⟩⟩
      ·exact ZV ⟨z,.inl ⟨_,rfl,F.fin M.sa M.sb (.inl (by simpa using O))⟩⟩
      ·exact tail _ _ ⟨F,by simp at N O;lia,by rw[XE];exact Zg p (Zd _ _),λj u h=>Z j u h (by lia)⟩
end TS
end
section
open PySem PyProof.Rows
namespace TS
variable{κ:SortKind}
def AO{a:Array Pv}(h:x∈a.toList.take n):∃j,∃(d:j<a.size),j<n/\a[j]=x:=by
 obtain⟨m,b,e⟩:=Yf h;rw[Yv]at b;rw[XG]at e;have:m<a.size:=by simpa using(by lia:m<a.toList.length)
 exact⟨m,this,by lia,by simpa using e⟩
structure HI(r:Pv->Pv->Bool)(a b out:Array Pv)(na nb:Nat):Prop where
 pm:(a.toList.take na++(b.toList.take nb++out.toList.reverse)).Perm (a.toList++b.toList)
 so:out.toList.reverse.Pairwise (le r)
 la:∀x∈out.toList,∀y∈a.toList.take na,le r y x
 lb:∀x∈out.toList,∀y∈b.toList.take nb,le r y x
theorem HI.size{f:Nat}(m:HI r a b d f e)(h:f<=a.size)(g:e<=b.size):d.size+f+e=a.size+b.size:=by
 have:=m.pm.length_eq;simp at this;lia
def HI.NM{k:Nat}(m:HI r a b e f n)(q:Seg r a 0 a.size)(v:k<=f)(u:∀i (p:i<a.size),k<=i->i<f->∀j (o:j<b.size),j<n->le r b[j] a[i]) :
  HI r a b (e++(a.extract k f).reverse) k n:=by
 have e1:(e++(a.extract k f).reverse).toList.reverse=(a.toList.drop k).take (f-k)++e.toList.reverse:=by
  simp[List.extract_eq_drop_take]
 have e2:a.toList.take f=a.toList.take k++(a.toList.drop k).take (f-k):=by
  rw[← YZ k (a.toList.take f),List.take_take,List.drop_take,YV v]
 have l:(a.toList.take f).Pairwise (le r):=(jx q).take;rw[e2,Nv]at l;have mem:∀x,x∈(e++(a.extract k f).reverse).toList->x∈e.toList\/x∈(a.toList.drop k).take (f-k):=λx d=>by
  have:=Xa.mpr d;rw[e1]at this;rcases Zc.mp this with h | h
  ·exact .inr h
  ·exact .inl (Xa.mp h)
 refine⟨?_,?_,?_,?_⟩
 ·rw[e1];have:=m.pm;rw[e2]at this;refine List.Perm.trans ?_ this;rw[Ze];refine List.Perm.append_left _ ?_;rw[← Ze,← Ze];exact List.Perm.append_right _ Xz
 ·rw[e1,Nv];refine⟨l.2.1,m.so,λx d y g=>m.la y (Xa.mp g) x ?_⟩;rw[e2];exact ZI _ d
 ·intro x d y g;rcases mem x d with d | d
  ·exact m.la x d y (by rw[e2];exact Yl _ g)
  ·exact l.2.2 y g x d
 ·intro x d y g;rcases mem x d with d | d
  ·exact m.lb x d y g
  ·obtain⟨i,p,C,D,rfl⟩:=kQ d;obtain⟨j,o,z,rfl⟩:=AO g;exact u i p C (by lia) j o z
def HI.swap(m:HI r a b d f e):HI r b a d e f:=by
 refine⟨?_,m.so,m.lb,m.la⟩;refine List.Perm.trans ?_ (m.pm.trans Xz);rw[← Ze,← Ze];exact List.Perm.append_right _ Xz
def HI.Sf(m:HI r a b d f e)(g:Seg r b 0 b.size)(l:k<=e)(h:∀i (o:i<b.size),k<=i->i<e->∀j (n:j<a.size),j<f->le r a[j] b[i]) :
  HI r a b (d++(b.extract k e).reverse) f k:=(m.swap.NM g l h).swap
def AC{a b:Array Pv}(h:i<a.size):b.push a[i]=b++(a.extract i (i+1)).reverse:=by
 apply Array.ext';have:(a.extract i (i+1)).toList=[a[i]]:=by
  have e:i<a.toList.length:=by simpa using h
  simp[List.extract_eq_drop_take,YF e]
 rw[YW,Va,this,W6];rfl
def HI.LY(m:HI r a b f d g)(n:Seg r a 0 a.size)(x:0<d)(h:d-1<a.size)(o:∀j (l:j<b.size),j<g->le r b[j] a[d-1]):HI r a b (f.push a[d-1]) (d-1) g:=by
 rw[AC h];have e:d-1+1=d:=by lia
 rw[e];refine m.NM n (by exact Yb _ _) λi q v u j l p=>?_;have:i=d-1:=by lia
 subst this;exact o j l p
def HI.MB(m:HI r a b e f d)(g:Seg r b 0 b.size)(l:0<d)(h:d-1<b.size)(i:∀j (n:j<a.size),j<f->le r a[j] b[d-1]):HI r a b (e.push b[d-1]) f (d-1):=(m.swap.LY g l h i).swap
def D9{a:Array Pv}:(a.extract 0 n).toList=a.toList.take n:=by
 rw[Xh,List.extract_eq_drop_take,Wg,Nat.sub_zero]
def HI.fin{f:Nat}(m:HI r a b d g f)(n:Seg r a 0 a.size)(l:Seg r b 0 b.size)(h:g=0\/f=0):MR r a b (a.extract 0 g++b.extract 0 f++d.reverse):=by
 have e:(a.extract 0 g++b.extract 0 f++d.reverse).toList=a.toList.take g++(b.toList.take f++d.toList.reverse):=by
  rw[YW,YW,D9,D9,Ze,Va]
 refine⟨by rw[e];exact m.pm,?_⟩;rw[e,← Ze,Nv];refine⟨?_,m.so,λx i y j=>?_⟩
 ·rcases h with h | h
  ·subst h;rw[List.take_zero,Ye];exact(jx l).take
  ·subst h;rw[List.take_zero,ZM];exact(jx n).take
 ·rcases Zc.mp i with i | i
  ·exact m.la y (Xa.mp j) x i
  ·exact m.lb y (Xa.mp j) x i
def HI.first(m:HI r a b d i g)(o:Seg r a 0 a.size)(h:g=1)(q:0<b.size)(p:∀j (n:j<a.size),le r b[0] a[j]):MR r a b (b.extract 0 g++a.extract 0 i++d.reverse):=by
 have e:(b.extract 0 g++a.extract 0 i++d.reverse).toList=b.toList.take g++(a.toList.take i++d.toList.reverse):=by
  rw[YW,YW,D9,D9,Ze,Va]
 have e2:b.toList.take g=[b[0]]:=by
  subst h;have:=xO q;rw[Wg]at this;rw[this];rfl
 refine⟨?_,?_⟩
 ·rw[e];exact m.swap.pm.trans Xz
 rw[e,← Ze,Nv];refine⟨?_,m.so,λx f y l=>?_⟩
 ·rw[Nv];refine⟨by rw[e2];exact Vv _ _,(jx o).take,λx f y l=>?_⟩;rw[e2]at f;obtain⟨j,n,_,rfl⟩:=AO l;rw[ZZ.mp f];exact p j n
 ·rcases Zc.mp f with f | f
  ·exact m.lb y (Xa.mp l) x f
  ·exact m.la y (Xa.mp l) x f
def MC.MW(C:LM prog w A E s κ G r)(M:MC G r a b):∀j (d:j<a.size),le r (b[0]'M.nb) a[j]:=λj d=>M.bA C M.na M.nb M.first j d (ZA _)
def Jr(C:LM prog w A E s κ G r)(hk:kindOf N=κ)(M:MC G r a b)(h:∀res l,iX N l->MR r a b res->Q res l) :
  wpS (KF prog w) A E s (zp a b) Q N:=by
 have hna:=M.na;have hnb:=M.nb;change wpS (KF prog w) A E s (_>>=_) Q N;have Z:a.size-1<a.size:=by omega
 refine ZU (ip ?_);have m0:HI r a b #[] a.size b.size:=⟨by simp[Ys],by simp,by simp,by simp⟩
 have m1:=m0.LY M.sa hna Z λj g _=>M.last j g;have Rz:iX N N:=⟨rfl,rfl,rfl,rfl⟩
 refine dC Z (λe=>?_) λe1=>?_
 ·exact ZV (h _ _ Rz (m1.fin M.sa M.sb (.inl (by simpa using e))))
 refine aT (λe=>?_) λe2=>?_
 ·exact ZV (h _ _ Rz (m1.first M.sa (by simpa using e) M.nb (M.MW C)))
 refine ZU (Vg ?_);refine ZU (XU (YQ
  (I:=λx c l=>iX N l/\c.1=J/\HI r a b c.2.2.2.1 c.2.1 c.2.2.1/\0<c.2.1/\c.2.1<=a.size/\1<c.2.2.1/\c.2.2.1<=b.size/\x<c.2.2.2.1.size)
  (Q:=λc l=>iX N l/\∃res,c.1=Y res/\MR r a b res) ?step ?fin ?init) ?post)
 case init=>exact⟨Rz,rfl,m1,(by simp at e1;exact Ya e1),by(try dsimp only);exact Yb _ _,(by simp at e2;lia),Zn _,by simp⟩
 case fin =>
  refine yP λR na nb out mg l d=>?_;have m:=d.2.2.1;have z:=d.2.2.2.2.1;have v:=d.2.2.2.2.2.2.1;have q:=d.2.2.2.2.2.2.2;clear d;have:=m.size (by omega) (by omega);lia
 case post =>
  refine yP λR na nb out mg=>?_;rintro l ⟨kp,res,F,p⟩;subst F;exact ZV (h _ _ kp p)
 case step =>
  intro x;refine yP λR na nb out mg l _ hx d=>?_;have kp:=d.1;have F:=d.2.1;have m:=d.2.2.1;have p:=d.2.2.2.1;have z:=d.2.2.2.2.1;have f:=d.2.2.2.2.2.1;have v:=d.2.2.2.2.2.2.1;have q:=d.2.2.2.2.2.2.2;clear d;refine ZU (XU (YQ
   (I:=λy c l=>iX N l/\c.1=J/\HI r a b c.2.2.2.1 c.2.1 c.2.2.1/\0<c.2.1/\c.2.1<=a.size/\1<c.2.2.1/\c.2.2.1<=b.size/\x+y<c.2.2.2.1.size)
   (Q:=λc l=>iX N l/\((∃res,c.1=Y res/\MR r a b res)\/(c.1=J/\HI r a b c.2.2.2.1 c.2.1 c.2.2.1/\0<c.2.1/\c.2.1<=a.size/\1<c.2.2.1/\c.2.2.1<=b.size/\x+1<c.2.2.2.1.size))) ?step2 ?fin2 ?init2) ?post2)
  case init2=>exact⟨kp,rfl,m,p,z,f,v,by simpa using q⟩
  case fin2 =>
   refine uo λR na nb out ac bc l d=>?_;have kp:=d.1;have F:=d.2.1;have m:=d.2.2.1;have p:=d.2.2.2.1;have z:=d.2.2.2.2.1;have f:=d.2.2.2.2.2.1;have v:=d.2.2.2.2.2.2.1;have q:=d.2.2.2.2.2.2.2;clear d;exact⟨kp,.inr ⟨F,m,p,z,f,v,by(try dsimp only);lia⟩⟩
  case step2 =>
   intro y;refine uo λR na nb out ac bc l _ hy d=>?_;have kp:=d.1;have m:=d.2.2.1;have p:=d.2.2.2.1;have z:=d.2.2.2.2.1;have f:=d.2.2.2.2.2.1;have v:=d.2.2.2.2.2.2.1;have q:=d.2.2.2.2.2.2.2;clear d;have u:na-1<a.size:=by lia
   have D:nb-1<b.size:=by lia
   have gA:=M.ga _ (ZW u);have U:=M.gb _ (ZW D);refine md D (d7 u ?_);refine ZU (C.run _ _ _ _ (kp.1.trans hk) U gA ?_);dsimp only;cases e:r b[nb-1] a[na-1] with
   |true =>
    rw[Zp L];have O:=m.LY M.sa p u (λj g hjn=>C.tr (M.gb _ (ZW g)) U gA (M.sb j _ g D (ZA _) (by lia) D) (C.Mh U gA e));refine dC u (λe3=>?_) λe3=>?_
    ·exact ZV ⟨kp,.inl ⟨_,rfl,O.fin M.sa M.sb (.inl (by simpa using e3))⟩⟩
    ·have O8:0<na-1:=by simp at e3;exact Ya e3
     refine aT (λ_=>?_) λ_=>?_
     ·exact ZV ⟨kp,.inr ⟨rfl,O,O8,by(try dsimp only);exact ZQ u,f,v,by simp;lia⟩⟩
     ·exact ZV ⟨kp,rfl,O,O8,by(try dsimp only);exact ZQ u,f,v,by simp;lia⟩
   |false =>
    rw[Zo Zh];have O:=m.MB M.sb (by exact Xv f) D (λj g hjn=>C.tr (M.ga _ (ZW g)) gA U (M.sa j _ g u (ZA _) (by lia) u) e);refine dC D (λe3=>?_) λe3=>?_
    ·exact ZV ⟨kp,.inl ⟨_,rfl,O.first M.sa (by simpa using e3) M.nb (M.MW C)⟩⟩
    ·have O8:1<nb-1:=by lia
     refine aT (λ_=>?_) λ_=>?_
     ·exact ZV ⟨kp,.inr ⟨rfl,O,p,z,O8,by(try dsimp only);exact ZQ D,by simp;lia⟩⟩
     ·exact ZV ⟨kp,rfl,O,p,z,O8,by(try dsimp only);exact ZQ D,by simp;lia⟩
  case post2 =>
   refine uo λR na nb out ac bc=>?_;rintro l ⟨kp,⟨res,F,p⟩ | ⟨F,m,p,z,f,v,q⟩⟩
   ·subst F;exact ZV ⟨kp,res,rfl,p⟩
   ·subst F;refine ZU (ip ?_);refine ZU (XU (YQ
     (I:=λy c l=>iX N l/\c.1=J/\HI r a b c.2.2.2.1 c.2.1 c.2.2.1/\0<c.2.1/\c.2.1<=a.size/\1<c.2.2.1/\c.2.2.1<=b.size/\x+1<c.2.2.2.1.size)
     (Q:=λc l=>iX N l/\((∃res,c.1=Y res/\MR r a b res)\/(c.1=J/\HI r a b c.2.2.2.1 c.2.1 c.2.2.1/\0<c.2.1/\c.2.1<=a.size/\1<c.2.2.1/\c.2.2.1<=b.size/\x+1<c.2.2.2.1.size))) ?step3 ?fin3 ?init3) ?post3)
    case init3=>exact⟨kp,rfl,m,p,z,f,v,q⟩
    case fin3 =>
     refine uo λR na nb out ac bc l d=>?_;have kp:=d.1;have F:=d.2.1;have m:=d.2.2.1;have p:=d.2.2.2.1;have z:=d.2.2.2.2.1;have f:=d.2.2.2.2.2.1;have v:=d.2.2.2.2.2.2.1;have q:=d.2.2.2.2.2.2.2;clear d;exact⟨kp,.inr ⟨F,m,p,z,f,v,q⟩⟩
    case post3 =>
     refine CG λR na nb out mg ac bc=>?_;rintro l ⟨kp,⟨res,F,p⟩ | ⟨F,m,p,z,f,v,q⟩⟩
     ·subst F;exact ZV ⟨kp,res,rfl,p⟩
     ·subst F;exact ZU (iD kp λLV H=>ZV ⟨H,rfl,m,p,z,f,v,q⟩)
    case step3 =>
     intro y;refine CG λR na nb out mg ac bc l _ hy d=>?_;have kp:=d.1;have m:=d.2.2.1;have p:=d.2.2.2.1;have z:=d.2.2.2.2.1;have f:=d.2.2.2.2.2.1;have v:=d.2.2.2.2.2.2.1;have q:=d.2.2.2.2.2.2.2;clear d;dsimp only at *;revert mg;refine xE (λ_=>rfl) λmg2=>?_;refine(λhF=>ZU (iD kp λLV H=>hF LV H)) λLV H=>?_;have hB0:0<nb:=by exact Xv f
     have D:nb-1<b.size:=by lia
     have U:=M.gb _ (ZW D);refine md D (jG C (H.1.trans hk) U M.ga (by lia) (by lia) (nc M.sa _ _) λk N0 Mv Ov=>?_);have hw:=And.intro p z;clear p z;dsimp only;generalize SE:na-k=a1;revert na out;refine nK (λna out=>HI r a b out na nb/\(0<na/\na<=a.size)/\x+1<out.size/\∀j g,j<na->le r (a[j]'g) b[nb-1]) (λna out d=>?_) (λtail na out m q N0 Ov hw SE e5=>?_) λna out m q N0 Ov hw SE e5=>⟨m,hw,q,λj g h=>Mv j g (ZA _) (by lia)⟩
     ·refine L2.ai λP_ k_=>?_;obtain⟨m,⟨hA0,z⟩,q,Mv⟩:=d;refine k_ ?_;have u:na-1<a.size:=by lia
      have S:=m.MB M.sb hB0 D Mv;refine dC D (λe4=>?_) λe4=>?_
      ·exact ZV ⟨H,.inl ⟨_,rfl,S.first M.sa (by simpa using e4) M.nb (M.MW C)⟩⟩
      have Ow:1<nb-1/\nb-1<=b.size:=by lia
      have f:x+1<(out.push b[nb-1]).size/\nb-1<=nb-1:=by rw[XI];exact⟨M0 q,Zn _⟩
      refine md u (jG C (H.1.trans hk) (M.ga _ (ZW u)) M.gb (by lia) (by lia) (nc M.sb _ _) λk2 RN Ma Mo=>?_);dsimp only;generalize out.push b[nb-1]=o1 at S f ⊢;generalize nb-1=n1 at f S Ow RN Mo ⊢;generalize TZ:n1-k2=b1;revert o1 n1;refine nK (λo n=>HI r a b o na n/\(1<n/\n<=b.size)/\x+1<o.size/\∀j g,j<n->le r (b[j]'g) a[na-1]) (λout nb d=>?_) (λtail o1 n1 f S Ow RN Mo TZ e5=>?_) λo1 n1 f S Ow RN Mo TZ e5=>⟨S,Ow,f.1,λj g h=>Ma j g (ZA _) (by lia)⟩
      ·refine L2.ai λP_ k_=>?_;obtain⟨m,⟨f,v⟩,q,Ma⟩:=d;refine k_ ?_;have m5:=m.LY M.sa hA0 u Ma;refine dC u (λP=>?_) λP=>?_
       ·exact ZV ⟨H,.inl ⟨_,rfl,m5.fin M.sa M.sb (.inl (by simpa using P))⟩⟩
       have X:0<na-1:=by simp at P;exact Ya P
       have q7:x+1<(out.push a[na-1]).size:=by rw[XI];exact M0 q
       exact aT (λ_=>ZV ⟨H,.inr ⟨rfl,m5,X,ZQ u,f,v,q7⟩⟩) λ_=>ZV ⟨H,rfl,m5,X,ZQ u,f,v,q7⟩
      ·have m4:=S.Sf M.sb (by omega) (λi hi h1 h2 j g h3=>C.tr (M.ga _ (ZW g)) (M.ga _ (ZW u)) (M.gb _ (ZW hi)) (M.sa j _ g u (ZA _) (by lia) u) (Mo i hi (by lia) (by lia)));refine aT (λe6=>?_) λe6=>?_
       ·exact ZV ⟨H,.inl ⟨_,rfl,m4.first M.sa (by simpa using e6) M.nb (M.MW C)⟩⟩
       refine aT (λX=>?_) λX=>?_
       ·exact ZV ⟨H,.inl ⟨_,rfl,m4.fin M.sa M.sb (.inr (by simpa using X))⟩⟩
       ·exact tail _ _ ⟨m4,by simp at e6 X;lia,by rw[XE];exact Zg f.1 (Zd _ _),λj g h=>Ma j g (ZA _) (by lia)⟩
     ·have O:=m.NM (k:=k) M.sa (by omega) (λi hi h1 h2 j g h3=>C.tr (M.gb _ (ZW g)) U (M.ga _ (ZW hi)) (M.sb j _ g D (ZA _) (by lia) D) (Ov i hi (by lia) (by lia)));refine aT (λP=>?_) λP=>?_
      ·exact ZV ⟨H,.inl ⟨_,rfl,O.fin M.sa M.sb (.inl (by simpa using P))⟩⟩
      ·exact tail _ _ ⟨O,by simp at P;lia,by rw[XE];exact Zg q (Zd _ _),λj g h=>Mv j g (ZA _) (by lia)⟩
end TS
end
section
open PySem PyProof.Rows
namespace TS
variable{κ:SortKind}
noncomputable def K(a:Array Pv)(i:Nat):Keyed:=(a[i]?).getD (.none,.none)
def B6{a:Array Pv}(h:i<a.size):K a i=a[i]:=by unfold K;rw[getElem?_pos a i h];rfl
def Sg(r:Pv->Pv->Bool)(a:Array Pv)(b d:Nat):Prop:=∀i j,b<=i->i<=j->j<d->le r (K a i) (K a j)
def Ds(r:Pv->Pv->Bool)(a:Array Pv)(b d:Nat):Prop:=∀i j,b<=i->i<=j->j<d->le r (K a j) (K a i)
def mF{a:Array Pv}(b:j<=a.size)(k:Nat):K (mirror a i j ((j-i)/2)) k=if i<=k/\k<j then K a (i+j-1-k) else K a k:=by
 unfold K;rw[getElem?_mirror_all b];split<;>rfl
def EX{b:Array Pv}(e:a<b.size)(f:d<=a)(k:Nat):K (bubble b a d) k=if k=a-d then K b a else if a-d<k/\k<=a then K b (k-1) else K b k:=by
 unfold K;rw[getElem?_bubble e d f];split
 ·rfl
 ·split<;>rfl
structure Lc(lo:Nat)(Lw st:SL):Prop where
 kind:kindOf st=kindOf Lw
 pend:UF st=UF Lw
 fail:failedOf st=failedOf Lw
 perm:(arrOf st).Perm (arrOf Lw)
 pre:∀j,j<lo->(arrOf st)[j]?=(arrOf Lw)[j]?
theorem Lc.refl(b:Nat)(a:SL):Lc b a a:=⟨rfl,rfl,rfl,Array.Perm.refl _,λ_ _=>rfl⟩
theorem Lc.size(L:Lc d b a):(arrOf a).size=(arrOf b).size:=L.perm.size_eq
def Lc.good{G:Pv->Prop}{e:Nat}{b a:SL}(L:Lc e b a)(g:∀x∈arrOf b,G x){i:Nat}(d:i<(arrOf b).size):G (K (arrOf a) i):=by
 rw[B6 (by rw[L.size];exact d)];refine g _ ?_;have:(arrOf a)[i]'(by rw[L.size];exact d)∈(arrOf a).toList:=by simp
 have:=(X1.mp L.perm).mem_iff.mp this;simpa using this
def Lc.arr(L:Lc d f a){b:Array Pv}(h:b.Perm (arrOf a))(g:∀j,j<d->b[j]?=(arrOf a)[j]?):Lc d f (setArr a b) :=
 ⟨L.kind,L.pend,L.fail,h.trans L.perm,λj e=>(g j e).trans (L.pre j e)⟩
def Lc.QJ(L:Lc b d a){i j:Nat}(g:b<=i)(e:j<=(arrOf d).size):Lc b d (setArr a (mirror (arrOf a) i j ((j-i)/2))) :=
 L.arr (mirror_perm _ _ _ _) λk f=>by rw[getElem?_mirror_all (by rw[L.size];exact e),Zo (by lia)]
def lT(C:LM prog w A E s κ G r)(p:kindOf b=κ)(g:∀x∈arrOf b,G x)(L:Lc o b a)(e:i<(arrOf b).size)(d:j<(arrOf b).size)(h:Q (Y (r (K (arrOf a) i) (K (arrOf a) j))) a):wpS (KF prog w) A E s (ltAt' i j) Q a:=by
 have l:=L.good g e;have f:=L.good g d;have m:i<(arrOf a).size:=by rw[L.size];exact e
 have n:j<(arrOf a).size:=by rw[L.size];exact d
 rw[ltAt'_eq];refine ZU (Vg ?_);refine ZU (d7 m (ZU (d7 n ?_)));rw[B6 m]at l h;rw[B6 n]at f h;exact C.run a _ _ _ (L.kind.trans p) l f h
def Ds.QJ(C:LM prog w A E s κ G r){i:Nat}(D:Ds r f g e)(h:∀k,k<e->G (K f k))(o:g<=i)(l:e<=f.size)(n:∀k,i<=k->k<e->le r (K f k) (K f (e-1))) :
  Ds r (mirror f i e ((e-i)/2)) g e:=λp q j x m=>by
 rw[mF l,mF l];split
 ·split
  ·exact(λu v a b c d=>C.tr (h u b) (h _ (by lia)) (h v d) (n u a b) (D v (e-1) (by exact ZR o c) (by lia) (by lia))) _ _ (by omega) (by omega) (by lia) (by omega)
  ·exact D p _ j (by lia) (by omega)
 ·split
  ·lia
  ·exact D p q j x m
def mi1(h:1<=b):a+b-1-(b-1)=a:=by rw[W3 h,XR]
def Ds.rev(D:Ds r e b a)(f:a<=e.size):Sg r (mirror e b a ((a-b)/2)) b a:=λp q h d g=>by
 rw[mF f,mF f,Zp ⟨h,by exact ZL d g⟩,Zp ⟨by exact ZR h d,g⟩];exact D _ _ (by omega) (VY d _) (by(clear d f;omega))
def Sg.snoc(C:LM prog w A E s κ G r)(S:Sg r b a (a+n))(d:∀k,k<=a+n->G (K b k))(m:1<=n)(h:le r (K b (a+n-1)) (K b (a+n))):Sg r b a (a+n+1):=λi j f g l=>by
 by_cases e:j<a+n
 ·exact S i j f g e
 ·have:j=a+n:=by lia
  subst this;by_cases e2:i=a+n
  ·subst e2;exact C.refl (d _ (Zn _))
  ·exact C.tr (d i (by omega)) (d _ (by exact Yb _ _)) (d _ (Zn _)) (S i (a+n-1) f (by lia) (by omega)) h
def Ds.snoc(C:LM prog w A E s κ G r)(S:Ds r b a (a+n))(d:∀k,k<=a+n->G (K b k))(m:1<=n)(h:le r (K b (a+n)) (K b (a+n-1))):Ds r b a (a+n+1):=λi j f g l=>by
 by_cases e:j<a+n
 ·exact S i j f g e
 ·have:j=a+n:=by lia
  subst this;by_cases e2:i=a+n
  ·subst e2;exact C.refl (d _ (Zn _))
  ·exact C.tr (d _ (Zn _)) (d _ (by exact Yb _ _)) (d i (by omega)) h (S i (a+n-1) f (by lia) (by omega))
def nB{i j:Nat}(h:Q () (setArr a (mirror (arrOf a) i j ((j-i)/2)))):wpS (KF prog w) A E s (reverseSlice' i j) Q a:=by
 rw[reverseSlice'_eq];exact WR h
def sU{α:Type}{c:Prop}[Decidable c]{x R:StateT SL Sem α}{Q:α->SL->Prop}{P:SL->Prop}(D:∀a,P a->wpS (KF prog w) A E s R Q a)(d:¬c->P b)(e:c->(∀a,P a->wpS (KF prog w) A E s R Q a)->wpS (KF prog w) A E s x Q b):wpS (KF prog w) A E s (if c then x else R) Q b :=
 aT (λz=>e z D) λz=>D b (d z)
def Ho(C:LM prog w A E s κ G r)(l:kindOf v=κ)(g:∀x∈arrOf v,G x)(h0:1<=n)(hn:a+n<=(arrOf v).size)(h:∀m b,Lc a v b->1<=m->m<=n->Sg r (arrOf b) a (a+m)->Q (Y m) b):wpS (KF prog w) A E s (countRun' a n) Q v:=by
 change wpS (KF prog w) A E s (_>>=_) Q v;have L0:=Lc.refl a v;have n01:1<=1:=Zn _;have s0:Sg r (arrOf v) a (a+1):=λi j y F h3=>by
  rw[(Xs (ZR F (MJ h3)) y),(Xs (MJ h3) (ZR y F))];exact C.refl (L0.good g (Zg (Vx h0) hn))
 refine ZU (XU (YQ
  (I:=λx c b=>Lc a v b/\c.1=J/\c.2=x/\1<=x/\Sg r (arrOf b) a (a+x))
  (Q:=λc b=>Lc a v b/\c.1=J/\1<=c.2/\c.2<=n/\Sg r (arrOf b) a (a+c.2)/\(c.2<n->r (K (arrOf b) (a+c.2)) (K (arrOf b) (a+c.2-1))=M)) ?stepA ?finA ?initA) ?postA)
 case initA=>exact⟨L0,rfl,rfl,n01,s0⟩
 case finA =>
  refine all2 λX u=>?_;rintro b ⟨L,H,o,p,d⟩;subst o;refine⟨L,H,by(try dsimp only);omega,by(try dsimp only);lia,d,λz=>?_⟩
  (try dsimp only at z)
  lia
 case stepA =>
  intro x;refine all2 λX u=>?_;rintro b TJ Z ⟨L,H,o,p,d⟩;subst o;have S:=Zg (YY Z a) hn;refine ZU (lT C l g L S (ZL (Yb _ _) S) ?_);cases e:r (K (arrOf b) (a+u)) (K (arrOf b) (a+u-1)) with
  |true=>exact ZV ⟨L,rfl,p,by(try dsimp only);exact ZQ Z,d,λ_=>e⟩
  |false=>exact ZV ⟨L,rfl,rfl,by exact YB _ _,Sg.snoc C d (λk l=>L.good g (ZL l S)) p e⟩
 case postA =>
  refine all2 λX u=>?_;rintro b ⟨L,H,o,p,d,N⟩;subst H;refine aT (λe=>?_) λe=>?_
  ·exact ZV (h u b L o p d)
  have e':u<n:=by simp at e;exact WE p e
  have S:=Zg (YY e' a) hn;have f:∀k,k<=a+u->G (K (arrOf b) k):=λk l=>L.good g (ZL l S);have Ts:=C.Mh (f _ (by exact Zn _)) (f _ (by exact Yb _ _)) (N e');have O:=L.size;refine sU (P:=λLs=>Lc a v Ls/\Ds r (arrOf Ls) a (a+(u+1))) ?D ?two ?one
  case one =>
   intro e3 Dk;refine ZU (lT C l g L (ZL (Zd _ _) S) (ZL (Yb _ _) S) ?_);dsimp only;cases e4:r (K (arrOf b) a) (K (arrOf b) (a+u-1)) with
   |true=>exact ZV (h u b L o p d)
   |false =>
    rw[Zo Zh];refine ZU (nB ?_);have L1:=L.QJ (j:=a+u) (by exact Zn _) (by exact ZQ S);have d0:Ds r (arrOf b) a (a+u):=λi j y F h3=>C.tr (f j (by exact ZQ h3)) (f _ (by exact Yb _ _)) (f i (by lia)) (d j (a+u-1) (by exact ZR y F) (by lia) (by omega))
     (C.tr (f _ (by exact Yb _ _)) (f _ (by exact Zd _ _)) (f i (by lia)) e4 (d a i (by exact Zn _) y (by exact ZL F h3)))
    have d2:=Ds.QJ C d0 (λk l=>f k (by exact ZQ l)) (by exact Zn _) (by(clear e hn;lia)) (λk y F=>d k _ y (by lia) (by omega));exact Dk _ ⟨L1,(Ds.snoc C d2 (λk l=>L1.good g (ZL l S)) o (by
     rw[mF (by lia),mF (by lia),Zo (by lia),Zp ⟨Xi (Vx (by exact VF o)),WG (by lia) Nat.one_pos⟩,mi1 (by lia)];exact C.tr (f _ (by exact Zn _)) (f _ (by exact Yb _ _)) (f _ (by exact Zd _ _)) Ts (d0 _ _ (by exact Zn _) (Xi (Vx (by exact VF o))) (WG (by lia) Nat.one_pos))))⟩
  case two =>
   intro e3;have d1:=Ds.snoc C (λi j y F h3=>by
    have e1:i=a:=by lia
    have e2:j=a:=by lia
    subst e1 e2;exact C.refl (f _ (by exact Zd _ _))) f o Ts
   exact⟨L,d1⟩
  case D =>
   rintro b ⟨L1,d1⟩;clear f O;refine ZU (ip ?_);refine ZU (XU (YQ
    (I:=λx c b=>Lc a v b/\c.1=J/\c.2.1=x/\c.2.2+1<=x/\Ds r (arrOf b) a (a+x)/\(∀k,a+x-(c.2.2+1)<=k->k<a+x->le r (K (arrOf b) k) (K (arrOf b) (a+x-1))))
    (Q:=λc b=>Lc a v b/\c.1=J/\c.2.2+1<=c.2.1/\c.2.1<=n/\Ds r (arrOf b) a (a+c.2.1)/\(∀k,a+c.2.1-(c.2.2+1)<=k->k<a+c.2.1->le r (K (arrOf b) k) (K (arrOf b) (a+c.2.1-1)))) ?stepD ?finD ?initD) ?postD)
   case initD =>
    refine⟨L1,rfl,rfl,by(try dsimp only);exact YB _ _,d1,λk y F=>?_⟩
    (try dsimp only at y F)
    have e:k=a+(u+1)-1:=by lia
    subst e;exact C.refl (L1.good g S)
   case finD =>
    refine j8 λX q Ss=>?_;rintro b ⟨L,H,o,p,d,N⟩;subst o;exact⟨L,H,p,by(try dsimp only);lia,d,N⟩
   case stepD =>
    intro x;refine j8 λX q Ss=>?_;rintro b TJ Z ⟨L,H,o,p,d,N⟩;subst o;have U:=Zg (YY Z a) hn;refine ZU (lT C l g L U (ZL (Yb _ _) U) ?_);dsimp only;have f:∀k,k<=a+q->G (K (arrOf b) k):=λk l=>L.good g (ZL l U);have O:=L.size;cases e:r (K (arrOf b) (a+q)) (K (arrOf b) (a+q-1)) with
    |true =>
     rw[Zp rfl];have Ts:=C.Mh (f _ (by exact Zn _)) (f _ (by exact Yb _ _)) e;refine aT (λz=>?_) λz=>?_
     ·refine ZU (nB ?_);have L2:=L.QJ (i:=a+q-(Ss+1)) (j:=a+q) (by lia) (by exact ZQ U);have d2:=Ds.QJ C d (λk l=>f k (by exact ZQ l)) (by lia) (by lia) N;refine ZV ⟨L2,rfl,rfl,by(try dsimp only);exact YB _ _,Ds.snoc C d2 (λk l=>L2.good g (ZL l U)) (by lia) ?_,λk y F=>?_⟩
      ·rw[mF (by lia),mF (by lia),Zo (by lia),Zp ⟨VY (YB 1 Ss) _,WG (by lia) Nat.one_pos⟩,mi1 (by lia)];exact C.tr (f _ (by exact Zn _)) (f _ (by exact Yb _ _)) (f _ (by exact Yb _ _)) Ts (d _ _ (by lia) (VY (YB 1 Ss) _) (WG (by lia) Nat.one_pos))
      ·(try dsimp only at y F)
       have e:k=a+(q+1)-1:=by lia
       subst e;exact C.refl (L2.good g U)
     ·refine ZV ⟨L,rfl,rfl,by(try dsimp only);exact YB _ _,Ds.snoc C d f (by(clear z;lia)) Ts,λk y F=>?_⟩
      (try dsimp only at y F)
      have e:k=a+(q+1)-1:=by lia
      subst e;exact C.refl (L.good g U)
    |false =>
     rw[Zo Zh];refine ZU (lT C l g L (ZL (Yb _ _) U) U ?_);cases e2:r (K (arrOf b) (a+q-1)) (K (arrOf b) (a+q)) with
     |true=>exact ZV ⟨L,rfl,p,by(try dsimp only);exact ZQ Z,d,N⟩
     |false =>
      refine ZV ⟨L,rfl,rfl,by(try dsimp only);exact X3 p,Ds.snoc C d f (by lia) e2,λk y F=>?_⟩
      (try dsimp only at y F)
      have ee:a+(q+1)-1=a+q:=by lia
      rw[ee];by_cases ek:k=a+q
      ·subst ek;exact C.refl (f _ (by exact Zn _))
      ·exact C.tr (f _ (by lia)) (f _ (by exact Yb _ _)) (f _ (by exact Zn _)) (N k (by lia) (by lia)) e
   case postD =>
    refine j8 λX q Ss=>?_;rintro b ⟨L,H,p,q6,d,N⟩;subst H;have f:∀k,k<a+q->G (K (arrOf b) k):=λk l=>L.good g (by lia);have O:=L.size;refine sU (P:=λLs=>Lc a v Ls/\Ds r (arrOf Ls) a (a+q)) ?R ?two2 ?one2
    case one2 =>
     intro z Dk2;refine ZU (nB ?_);have d2:=Ds.QJ C d f (by lia) (by lia) N;exact Dk2 _ ⟨(L.QJ (i:=a+q-(Ss+1)) (j:=a+q) (by lia) (by lia)),d2⟩
    case two2=>exact λ_=>⟨L,d⟩
    case R =>
     clear d N f O L;rintro b ⟨L,d⟩;have O:=L.size;refine ZU (nB ?_);refine ZU (XU (YQ
      (I:=λx c b=>Lc a v b/\c.1=J/\c.2=x/\1<=x/\Sg r (arrOf b) a (a+x))
      (Q:=λc b=>Lc a v b/\c.1=J/\1<=c.2/\c.2<=n/\Sg r (arrOf b) a (a+c.2)/\(c.2<n->r (K (arrOf b) (a+c.2)) (K (arrOf b) (a+c.2-1))=M)) ?stepA ?finA ?initA) ?postA)
     case initA=>exact⟨(L.QJ (i:=a) (j:=a+q) (by exact Zn _) (by lia)),rfl,rfl,(by lia),(d.rev (by lia))⟩
     case finA =>
      refine all2 λX u=>?_;rintro b ⟨L,H,o,p,d⟩;subst o;refine⟨L,H,by(try dsimp only);omega,by(try dsimp only);lia,d,λz=>?_⟩
      (try dsimp only at z)
      lia
     case stepA =>
      intro x;refine all2 λX u=>?_;rintro b TJ Z ⟨L,H,o,p,d⟩;subst o;refine ZU (lT C l g L (by lia) (by lia) ?_);cases e:r (K (arrOf b) (a+u)) (K (arrOf b) (a+u-1)) with
      |true=>exact ZV ⟨L,rfl,p,by(try dsimp only);exact ZQ Z,d,λ_=>e⟩
      |false=>exact ZV ⟨L,rfl,rfl,by exact YB _ _,Sg.snoc C d (λk l=>L.good g (by lia)) p e⟩
     case postA =>
      refine all2 λX c3=>?_;rintro b ⟨L,H,o,p,d,N⟩;subst H;exact ZV (h c3 b L o p d)
end TS
end
section
open PySem PyProof.Rows
namespace TS
variable{κ:SortKind}
def zz(h:Q () (setArr a (bubble (arrOf a) i (i-j)))):wpS (KF prog w) A E s (moveDown' i j) Q a:=by
 rw[moveDown'_eq];exact WR h
def Lc.bub(L:Lc b e a)(h:b+d<=i)(f:i<(arrOf e).size):Lc b e (setArr a (bubble (arrOf a) i d)) :=
 L.arr (bubble_perm _ _ _) λk g=>by rw[getElem?_bubble (by rw[L.size];exact f) d (by lia),Zo (by lia),Zo (by lia)]
def J3(h:¬a ≥ b):a<=(a+b)/2/\(a+b)/2<b:=by omega
def FU(C:LM prog w A E s κ G r)(hk:kindOf u=κ)(g:∀x∈arrOf u,G x)(h0:1<=ok)(Kd:ok<=n)(hn:a+n<=(arrOf u).size)(S:Sg r (arrOf u) a (a+ok))(h:∀b,Lc a u b->Sg r (arrOf b) a (a+n)->Q M b):wpS (KF prog w) A E s (binarySort' a n ok) Q u:=by
 change wpS (KF prog w) A E s (_>>=_) Q u;rw[(Nat.max_eq_left h0)];refine ZU (XU (YQ
  (I:=λx c b=>Lc a u b/\c.1=J/\Sg r (arrOf b) a (a+x))
  (Q:=λc b=>Lc a u b/\c.1=J/\Sg r (arrOf b) a (a+n)) ?step ?fin ?init) ?post)
 case init=>exact⟨Lc.refl _ _,rfl,S⟩
 case fin =>
  refine all2 λN q=>?_;rintro b ⟨L,Z,f⟩;rw[(Nat.max_eq_right Kd)]at f;exact⟨L,Z,f⟩
 case post =>
  refine all2 λN q=>?_;rintro b ⟨L,Z,f⟩;subst Z;exact ZV (h b L f)
 case step =>
  intro k;refine all2 λN q=>?_;rintro b N0 Mv ⟨L,Z,f⟩;have bk:=Zg (YY Mv a) hn;have p:∀j,j<=a+k->G (K (arrOf b) j):=λj hj=>L.good g (ZL hj bk);refine ZU (XU (YQ
   (I:=λx c O=>b=O/\c.1=J/\c.2.1<=c.2.2/\c.2.2<=k/\c.2.2+x<=k+c.2.1/\(∀i,a<=i->i<a+c.2.1->le r (K (arrOf b) i) (K (arrOf b) (a+k)))/\(∀i,a+c.2.2<=i->i<a+k->le r (K (arrOf b) (a+k)) (K (arrOf b) i)))
   (Q:=λc O=>b=O/\c.1=J/\c.2.1=c.2.2/\c.2.2<=k/\(∀i,a<=i->i<a+c.2.1->le r (K (arrOf b) i) (K (arrOf b) (a+k)))/\(∀i,a+c.2.2<=i->i<a+k->le r (K (arrOf b) (a+k)) (K (arrOf b) i))) ?step2 ?fin2 ?init2) ?post2)
  case init2=>exact⟨rfl,rfl,by(try dsimp only);exact ZA _,by(try dsimp only);exact Zn _,Zn _,λi o d=>absurd d (Nat.not_lt_of_ge o),λi o d=>absurd d (Nat.not_lt_of_ge o)⟩
  case fin2 =>
   refine j8 λd1 l rr=>?_;rintro O ⟨e,X,P,v,q6,D,y⟩;exact⟨e,X,Xs P (Nat.le_of_add_le_add_left (by rw[WK];exact q6)),v,D,y⟩
  case step2 =>
   intro x;refine j8 λd1 l rr=>?_;rintro O _ hx ⟨e,X,P,v,q6,D,y⟩;subst e;dsimp only at *;refine aT (λz=>?_) λz=>?_
   ·exact ZV ⟨rfl,rfl,by(try dsimp only);exact Xs P z,v,D,y⟩
   ·obtain⟨m1,m2⟩:=J3 z;generalize (l+rr)/2=m at m1 m2 ⊢;have mk:=YY (Zg m2 v) a;refine ZU (lT C hk g L bk (X4 mk bk) ?_);cases e2:r (K (arrOf b) (a+k)) (K (arrOf b) (a+m)) with
    |true =>
     exact ZV ⟨rfl,rfl,m1,ZR (ZQ m2) v,by(try dsimp only);clear f D y p g hn bk mk;omega,D,λi o d=>C.tr (p _ (Zn _)) (p _ (ZQ mk)) (p _ (ZQ d)) (C.Mh (p _ (Zn _)) (p _ (ZQ mk)) e2) (f _ i (by exact Zd _ _) o d)⟩
    |false =>
     refine ZV ⟨rfl,rfl,m2,v,by(try dsimp only);clear f D y p g hn bk mk;omega,λi o d=>?_,y⟩
     (try dsimp only at d)
     have h3:=MJ d;exact C.tr (p _ (ZR h3 (ZQ mk))) (p _ (ZQ mk)) (p _ (Zn _)) (f i (a+m) o h3 mk) e2
  case post2 =>
   refine j8 λd1 l rr=>?_;rintro O ⟨e,X,P,v,D,y⟩;subst e;dsimp only at *;subst X;refine ZU (zz ?_);rw[Nat.add_sub_add_left];subst P;have Ur:a+k<(arrOf b).size:=by rw[L.size];exact bk
   have kl:=ZR (Yb k l) (YB k a);refine ZV ⟨L.bub (Xd (Yb k l) a) bk,rfl,λi j o d h3=>?_⟩;rw[EX Ur kl,EX Ur kl,show a+k-(k-l)=a+l by rw[W3 (Yb k l),Nat.sub_sub_self v]];have U:=MJ h3;by_cases N:i=a+l
   ·rw[Zp N];by_cases q:j=a+l
    ·rw[Zp q];exact C.refl (p _ (by exact Zn _))
    ·have F:=WE (N ▸ d) (Y4 q);rw[Zo q,Zp ⟨F,U⟩];exact y _ (Xi F) (Ve (Wm F) U)
   ·rw[Zo N];by_cases R:a+l<i/\i<=a+k
    ·rw[Zp R];have F:=Zg R.1 d;rw[Zo (Wk F),Zp ⟨F,U⟩];exact f _ _ (Xi (ZL (Zd _ _) R.1)) (Nat.sub_le_sub_right d 1) (Ve (Wm F) U)
    ·rw[Zo R];by_cases q:j=a+l
     ·rw[Zp q];exact D i o (WE (q ▸ d) N)
     ·rw[Zo q];by_cases H:a+l<j/\j<=a+k
      ·rw[Zp H];exact f _ _ o (Xi (ZL (ZD λz=>R ⟨z,ZR d H.2⟩) H.1)) (Ve (Wm H.1) H.2)
      ·rw[Zo H];exact f _ _ o d (Zg (WE (ZD λz=>H ⟨z,U⟩) q) (Xd v a))
theorem xj(b:Nat):∀(l:List Pv)(off:Nat)(arr:Array Pv),b+off+l.length<=arr.size →
  ((l.zipIdx off).foldl (λa x=>a.setIfInBounds (b+x.snd) x.fst) arr).toList=arr.toList.take (b+off)++l++arr.toList.drop (b+off+l.length)
 |[],off,arr,h=>by simp
 |x :: l,off,arr,h=>by
  rw[WY,Y9];rw[Zf]at h;rw[xj b l (off+1) _ (by rw[Array.size_setIfInBounds];lia)];have d:b+off<arr.toList.length:=by simp;lia
  rw[Array.toList_setIfInBounds,List.set_eq_take_append_cons_drop,Zp d];have e1:(arr.toList.take (b+off)++x :: arr.toList.drop (b+off+1)).take (b+(off+1))=arr.toList.take (b+off)++[x]:=by
   have:(arr.toList.take (b+off)).length=b+off:=by rw[Yv];lia
   rw[List.take_append,this,Ys (by rw[this];lia)];have:b+(off+1)-(b+off)=1:=by lia
   rw[this];rfl
  have e2:(arr.toList.take (b+off)++x :: arr.toList.drop (b+off+1)).drop (b+(off+1)+l.length)=arr.toList.drop (b+off+(l.length+1)):=by
   have:(arr.toList.take (b+off)).length=b+off:=by rw[Yv];lia
   rw[WW,this,YI (by rw[this];lia),Ye];have:b+(off+1)+l.length-(b+off)=l.length+1:=by lia
   rw[this,List.drop_succ_cons,List.drop_drop];congr 1;lia
  rw[e1,e2];simp
end TS
end
section
open PySem PyProof.Rows
namespace TS
variable{κ:SortKind}
def iQ{a:Array Pv}(e:a.toList=P++X++S)(j:Nat)(b:j<X.length):∃h:P.length+j<a.size,a[P.length+j]=X[j]:=by
 have f:a.size=P.length+X.length+S.length:=by
  have:=congrArg List.length e;simp at this;lia
 have h:P.length+j<a.size:=by lia
 refine⟨h,?_⟩;have d:a[P.length+j]?=X[j]?:=by
  rw[← Nw,e,Ze,Yq (by exact Zd _ _),Xu,Yt b]
 rw[getElem?_pos a _ h,getElem?_pos X _ b]at d;exact Zl d
def xW(C:LM prog w A E s κ G r){a:Array Pv}(e:a.toList=P++X++S)(g:∀x∈a,G x)(f:X.Pairwise (le r)):Seg r a P.length (P.length+X.length):=by
 intro i j h n q p o;obtain⟨d,rfl⟩:∃d,i=P.length+d:=⟨i-P.length,by lia⟩
 obtain⟨b,rfl⟩:∃b,j=P.length+b:=⟨j-P.length,by lia⟩
 obtain⟨_,e1⟩:=iQ e d (by lia);obtain⟨_,e2⟩:=iQ e b (by lia);rcases Vq d b with m | l
 ·rw[e1,e2];exact YH.mp f d b (by lia) (by lia) m
 ·have:d=b:=by lia
  subst this;exact C.refl (g _ (ZW h))
def ml8{p k x m:Nat}(h:k<=x):p+k+(x-k+m)=p+x+m:=by rw[Xg,← Xg k,X8 h,Xg]
def ml7{s:Nat}(h:k<=x)(g:m<=y):p+k+(x-k+m)<=p+x+y+s:=by
 rw[ml8 h];exact ZR (Xd g _) (Zd _ _)
def Ht(C:LM prog w A E s κ G r){X Y S:List Pv}(hk:kindOf d=κ)(g:∀x∈arrOf d,G x)(hf:failedOf d=J)(u:(arrOf d).toList=P++X++(Y++S))(p1:(UF d)[i]?=some (P.length,X.length,pw))(p2:(UF d)[i+1]?=some (P.length+X.length,Y.length,pw2))(H:X.Pairwise (le r))(Z:Y.Pairwise (le r))(nX:0<X.length)(nY:0<Y.length)(h:∀bt M,M.Perm (X++Y)->M.Pairwise (le r)->(arrOf bt).toList=P++M++S->kindOf bt=kindOf d->failedOf bt=J →
   UF bt=((UF d).setIfInBounds i (P.length,X.length+Y.length,pw)).eraseIdxIfInBounds (i+1)->Q true bt):wpS (KF prog w) A E s (mergeAt' i) Q d:=by
 have e2:(arrOf d).toList=(P++X)++Y++S:=by rw[u];simp
 have hs:(arrOf d).size=P.length+X.length+Y.length+S.length:=by
  have:=congrArg List.length u;simp at this;lia
 have gm:∀x,x∈(arrOf d).toList->G x:=λx b=>g x (by simpa using b);have gX:∀x∈X,G x:=λx b=>gm x (by rw[u];simp[b]);have gY:∀x∈Y,G x:=λx b=>gm x (by rw[u];simp[b]);have Ro:=xW C e2 g Z;rw[Zs]at Ro;obtain⟨hb,eb⟩:=iQ e2 0 nY;simp only[Zs,VE]at hb eb;obtain⟨hl,el⟩:=iQ u (X.length-1) (WG nX Nat.one_pos);have gb:=g _ (ZW hb);change wpS (KF prog w) A E s (_>>=_) Q d;refine ZU (Vg ?_);rw[show (sortPriv% PySem.Builtin.SortState.pending) d=UF d from rfl,p1,p2];refine ZU (?_);refine(WR ?_);refine ZU (d7 hb ?_);refine ZU (jG C (by exact hk) gb g (by exact ZQ hb) nX (xW C u g H) λk N0 Mv Ov=>?_);have z1:∀x∈X.take k,le r x (arrOf d)[P.length+X.length]:=λx b=>by
  obtain⟨j,e,rfl⟩:=Yf b;rw[Yv]at e;obtain⟨o,e3⟩:=iQ u j (Zg e (Xq _ _));rw[XG,← e3];exact Mv _ o (by exact Zd _ _) (YY (Zg e (Nat.min_le_left _ _)) _)
 have z2:∀x∈X.drop k,le r (arrOf d)[P.length+X.length] x:=λx b=>by
  obtain⟨j,e,rfl⟩:=Yf b;rw[Yz]at e;have Mi:=Nat.add_lt_of_lt_sub' e;obtain⟨o,e3⟩:=iQ u (k+j) Mi;rw[XF,← e3];exact Ov _ o (Xd (Zd _ _) _) (YY Mi _)
 have U:∀y∈Y,le r (arrOf d)[P.length+X.length] y:=λy f=>by
  obtain⟨j,e,rfl⟩:=Yf f;obtain⟨o,e3⟩:=iQ e2 j e;simp only[Zs]at o e3;rw[← e3];exact Ro _ _ hb o (by exact Zn _) (by exact Zd _ _) (YY e _)
 refine aT (λe3=>?_) λe3=>?_
 ·refine ZV (h _ (X++Y) (XY _) ?_ (by rw[u];simp) L hf L);rw[Nv];refine⟨H,Z,λx b y f=>C.tr (gX x b) gb (gY y f) (z1 x (by rw[Ys (by simp at e3;lia)];exact b)) (U y f)⟩
 have v:k<X.length:=by lia
 have TJ:=WG (Wm v) Nat.one_pos;have ei:Unit->P.length+k+(X.length-k)-1=P.length+(X.length-1):=λ_=>by rw[Xg,X8 (ZQ v),W3 (Wm v)]
 refine ZU (d7 (by rw[ei ()];exact hl) ?_);have elst:∀(q:P.length+k+(X.length-k)-1<(arrOf d).size),(arrOf d)[P.length+k+(X.length-k)-1]=X[X.length-1]:=λq=>by
  simp only[ei ()];exact el
 rw[elst];have gl:G X[X.length-1]:=gX _ (Yu _);refine ZU (jG C (by exact hk) gl g (by rw[hs];exact Zd _ _) (WG nY Nat.one_pos) Ro λm XH Pn hm3=>?_);have y1:∀x∈Y.take m,le r x X[X.length-1]:=λx b=>by
  obtain⟨j,e,rfl⟩:=Yf b;rw[Yv]at e;obtain⟨o,e3⟩:=iQ e2 j (Zg e (Xq _ _));simp only[Zs]at o e3;rw[XG,← e3];exact Pn _ o (by exact Zd _ _) (YY (Zg e (Nat.min_le_left _ _)) _)
 have y2:∀x∈Y.drop m,le r X[X.length-1] x:=λx b=>by
  obtain⟨j,e,rfl⟩:=Yf b;rw[Yz]at e;have Mi:=Nat.add_lt_of_lt_sub' e;obtain⟨o,e3⟩:=iQ e2 (m+j) Mi;simp only[Zs]at o e3;rw[XF,← e3];exact hm3 _ o (Xd (Zd _ _) _) (YY Mi _)
 have xl:∀x∈X,le r x X[X.length-1]:=λx b=>by
  obtain⟨j,e,rfl⟩:=Yf b;rcases Vq j (X.length-1) with Lp | hge
  ·exact YH.mp H j _ e TJ Lp
  ·have:=Xs (Xi e) hge;subst this;exact C.refl gl
 refine aT (λe4=>?_) λe4=>?_
 ·have Ow:m=0:=by simpa using e4
  subst Ow;refine ZV (h _ (X++Y) (XY _) ?_ (by rw[u];simp) L hf L);rw[Nv];exact⟨H,Z,λx b y f=>C.tr (gX x b) gl (gY y f) (xl x b) (y2 y f)⟩
 have LJ:0<m:=by simp at e4;exact Ya e4
 have ex:((arrOf d).extract (P.length+k) (P.length+X.length)).toList=X.drop k:=by
  rw[Xh,List.extract_eq_drop_take,u,Ze,WW,YI (by exact Zd _ _),Ye];have:P.length+k-P.length=k:=by exact Xu _ _
  rw[this,WW,Nat.sub_eq_zero_of_le (ZQ v),Wg];rw[XT (by rw[Yz];lia),Ys (by rw[Yz];lia)]
 have F:((arrOf d).extract (P.length+X.length) (P.length+X.length+m)).toList=Y.take m:=by
  rw[Xh,List.extract_eq_drop_take,e2,Ze,WW,YI (by simp),Ye];have:P.length+X.length-(P++X).length=0:=by simp
  rw[this,Wg];have:P.length+X.length+m-(P.length+X.length)=m:=by exact Xu _ _
  rw[this,XT XH]
 obtain⟨n,R⟩:∃n,n=(arrOf d).extract (P.length+k) (P.length+X.length):=⟨_,rfl⟩
 obtain⟨z,O⟩:∃z,z=(arrOf d).extract (P.length+X.length) (P.length+X.length+m):=⟨_,rfl⟩
 rw[← R]at ex;rw[← O]at F;have mx:∀x,x∈n->x∈X.drop k:=λx b=>by rw[← ex];simpa using b
 have my:∀x,x∈z->x∈Y.take m:=λx b=>by rw[← F];simpa using b
 have szx:n.size=X.length-k:=by have:=congrArg List.length ex;simpa using this
 have szy:z.size=m:=by have:=congrArg List.length F;simp at this;lia
 have gax:=λx b=>gX x (YN (mx x b));have gay:=λx b=>gY x (YO (my x b));have y0:∀(q:0<z.size),z[0]=(arrOf d)[P.length+X.length]:=λq=>by
  rw[eb];have:z[0]?=Y[0]?:=by rw[← Nw,F,List.getElem?_take_of_lt LJ]
  rw[getElem?_pos z 0 q,getElem?_pos Y 0 nY]at this;exact Zl this
 have xl0:∀(q:n.size-1<n.size),n[n.size-1]=X[X.length-1]:=λq=>by
  have:n[n.size-1]?=X[X.length-1]?:=by
   rw[← Nw,ex,List.getElem?_drop];congr 1;rw[szx,← W3 (WB v),X8 (ZQ v)]
  rw[getElem?_pos n _ q,getElem?_pos X _ TJ]at this;exact Zl this
 have M:MC G r n z:=by
  refine⟨gax,gay,Cg C gax (by rw[ex];exact H.drop),Cg C gay (by rw[F];exact Z.take),by rw[szx];exact WB v,by rw[szy];exact LJ,?_,λj e=>?_⟩
  ·rw[y0];exact z2 _ (mx _ (ZW _))
  ·rw[xl0];exact y1 _ (my _ (ZW e))
 have fin:∀(l:SL)(res:Array Pv),iX (SortSt.mk' (kindOf d) (arrOf d) (((UF d).setIfInBounds i (P.length,X.length+Y.length,pw)).eraseIdxIfInBounds (i+1)) (gallopOf d) (failedOf d)) l->MR r n z res →
   Q (failedOf l).isNone (SortSt.mk' (kindOf l) (res.toList.zipIdx.foldl (λa x=>a.setIfInBounds (P.length+k+x.snd) x.fst) (arrOf l)) (UF l) (gallopOf l) (failedOf l)):=λl res kp D=>by
  obtain⟨k1,k2,k3,k4⟩:=kp;have N:arrOf l=arrOf d:=k2;rw[(k4.trans hf)];have hl:res.toList.length=X.length-k+m:=by
   rw[D.1.length_eq,ex,F];simp;exact YV XH
  have mem:∀x,x∈res.toList->x∈X.drop k\/x∈Y.take m:=λx b=>by
   have:=D.1.mem_iff.mp b;rw[ex,F]at this;exact Zc.mp this
  have bk:=xj (P.length+k) res.toList 0 (arrOf l) (by rw[N,hs,hl,VE];exact ml7 (ZQ v) XH);rw[N,VE]at bk;have t1:(arrOf d).toList.take (P.length+k)=P++X.take k:=by
   rw[u,Ze,List.take_append,Ys (by exact Zd _ _),Xu,XT (ZQ v)]
  have t2:(arrOf d).toList.drop (P.length+k+res.toList.length)=Y.drop m++S:=by
   rw[e2,Ze,WW,YI (by rw[Zs,hl,ml8 (ZQ v)];exact Zd _ _),Ye];have:P.length+k+res.toList.length-(P++X).length=m:=by rw[Zs,hl,ml8 (ZQ v),Xu]
   rw[this,List.drop_append_of_le_length XH]
  refine h _ (X.take k++res.toList++Y.drop m) ?_ ?_ ?_ k1 L k3
  ·have p:(X.take k++(X.drop k++Y.take m)++Y.drop m)=X++Y:=by
    rw[← Ze,YZ,Ze,YZ]
   rw[← p];have:=D.1;rw[ex,F]at this;exact(this.append_left _).append_right _
  ·rw[Nv,Nv];refine⟨⟨H.take,D.2,λx b y f=>?_⟩,Z.drop,λx b y f=>?_⟩
   ·rcases mem y f with f | f
    ·have:=H;rw[← YZ k X,Nv]at this;exact this.2.2 x b y f
    ·exact C.tr (gX _ (YO b)) gb (gY _ (YO f)) (z1 x b) (U y (YO f))
   ·rcases Zc.mp b with b | b
    ·exact C.tr (gX _ (YO b)) gb (gY _ (YN f)) (z1 x b) (U y (YN f))
    ·rcases mem x b with b | b
     ·exact C.tr (gX _ (YN b)) gl (gY _ (YN f)) (xl x (YN b)) (y2 y f)
     ·have:=Z;rw[← YZ m Y,Nv]at this;exact this.2.2 x b y f
  ·rw[N,bk,t1,t2];simp
 refine aT (λ_=>?_) λ_=>?_
 ·refine ZU (?_);rw[← R,← O];refine IC C (by exact hk) M λres l kp D=>?_;exact ZU (WR (ZU (Vg (ZV (fin l res kp D)))))
 ·refine ZU (?_);rw[← R,← O];refine Jr C (by exact hk) M λres l kp D=>?_;exact ZU (WR (ZU (Vg (ZV (fin l res kp D)))))
end TS
end
section
open PySem PyProof.Rows
namespace TS
variable{κ:SortKind}
def kP:Nat->List (List Pv)->List (Nat×Nat)
 |_,[]=>[]
 |o,R :: Rs=>(o,R.length) :: kP (o+R.length) Rs
theorem jq:∀(a b:List (List Pv))(o:Nat),kP o (a++b)=kP o a++kP (o+a.flatten.length) b
 |[],b,o=>by simp[kP]
 |R :: a,b,o=>by
  show (o,R.length) :: kP (o+R.length) (a++b)=(o,R.length) :: (kP (o+R.length) a++_);rw[jq a b];simp[Xg]
theorem jk:∀(a:List (List Pv))(o:Nat),(kP o a).length=a.length
 |[],o=>rfl
 |R :: a,o=>by show (kP _ a).length+1=_;rw[jk a];rfl
theorem qy{α β:Type}(f:α->β):∀(l:List α)(i:Nat),(l.eraseIdx i).map f=(l.map f).eraseIdx i
 |[],i=>rfl
 |x :: l,0=>rfl
 |x :: l,i+1=>by show f x :: (l.eraseIdx i).map f=f x :: (l.map f).eraseIdx i;rw[qy f l i]
structure RI(κ:SortKind)(r:Pv->Pv->Bool)(a₀:Array Pv)(st:SL)(runs:List (List Pv))(rest:List Pv):Prop where
 kind:kindOf st=κ
 fail:failedOf st=none
 arr:(arrOf st).toList=runs.flatten++rest
 pend:(UF st).toList.map (λp=>(p.1,p.2.1))=kP 0 runs
 ok:∀R∈runs,0<R.length/\R.Pairwise (le r)
 perm:(arrOf st).Perm a₀
def RI.good{G:Pv->Prop}{r:Pv->Pv->Bool}{d:Array Pv}{b:SL}{a:List (List Pv)}{rest:List Pv}(h:RI κ r d b a rest)(g:∀x∈d,G x):∀x∈arrOf b,G x:=λx e=>by
 have:x∈(arrOf b).toList:=by simpa using e
 exact g x (by simpa using(X1.mp h.perm).mem_iff.mp this)
def RI.QE(h:RI κ r d b a rest):(UF b).size=a.length:=by
 have:=congrArg List.length h.pend;rw[Zw,jk]at this;simpa using this
theorem RI.at{f:SL}{X:List Pv}(h:RI κ r g f (d++X :: post) rest):∃pw,(UF f)[d.length]?=Y (d.flatten.length,X.length,pw):=by
 have e:((UF f).toList.map (λp=>(p.1,p.2.1)))[d.length]?=Y (d.flatten.length,X.length):=by
  rw[h.pend,jq,Yq (by rw[jk];exact Zn _),jk,VH,YJ];rfl
 rw[ZP,Nw]at e;obtain⟨⟨a,b,c⟩,e1,e2⟩:=Zy.mp e;injection e2 with e3 e4
 dsimp only at e3 e4;exact⟨c,by rw[e1,e3,e4]⟩
theorem tj{α:Type}:∀{l:List α}{i:Nat},i+1<l.length->∃pre X Y post,l=pre++X :: Y :: post/\pre.length=i
 |[],i,h=>by simp at h
 |[x],i,h=>by simp at h
 |x :: y :: l,0,h=>⟨[],x,y,l,rfl,rfl⟩
 |x :: y :: l,i+1,h=>by
  obtain⟨pre,X,Y,post,e,a⟩:=tj (l:=y :: l) (i:=i) (by simp at h ⊢;omega);exact⟨x :: pre,X,Y,post,by rw[e];rfl,by rw[Zf,a]⟩
def RI.merge(C:LM prog w A E s κ G r)(h:RI κ r j d a rest)(g:∀x∈j,G x)(hi:i+1<a.length)(Z:∀f m,RI κ r j f m rest->m.length+1=a.length->m.flatten.length=a.flatten.length->Q true f):wpS (KF prog w) A E s (mergeAt' i) Q d:=by
 obtain⟨pre,X,Y,post,rfl,rfl⟩:=tj hi;obtain⟨pw,L⟩:=h.at;have h':RI κ r j d ((pre++[X])++Y :: post) rest:=by
  have e:(pre++[X])++Y :: post=pre++X :: Y :: post:=by simp
  rw[e];exact h
 obtain⟨F,H⟩:=h'.at;have o:=h.ok X (by simp);have n:=h.ok Y (by simp);refine Ht C (X:=X) (Y:=Y) (S:=post.flatten++rest) h.kind (h.good g) h.fail (by rw[h.arr];simp) L (by
  simpa using H) o.2 n.2 o.1 n.1 λf M q U p P O N=>?_
 have D:=q.length_eq;rw[Zs]at D;refine Z f (pre++M :: post) ⟨P.trans h.kind,O,by rw[p];simp,?_,λR b=>?_,?_⟩ (by simp;exact Xg _ _ _) (by simp;lia)
 ·rw[N];have e0:(((UF d).setIfInBounds pre.length (pre.flatten.length,X.length+Y.length,pw)).eraseIdxIfInBounds (pre.length+1)).toList=((UF d).toList.set pre.length (pre.flatten.length,X.length+Y.length,pw)).eraseIdx (pre.length+1):=by
   simp
  rw[e0,qy,Wh,h.pend];rw[jq,jq];have e1:∀(u v t:List (Nat×Nat))(x y z:Nat×Nat),u.length=pre.length->((u++x :: y :: t).set pre.length z).eraseIdx (pre.length+1)=u++z :: t:=λu v t x y z l=>by
   rw[List.set_append_right _ _ (by exact X5 l),l,VH,List.eraseIdx_append_of_length_le (by lia),l];have:pre.length+1-pre.length=1:=by exact Xu _ _
   rw[this];rfl
  show ((kP 0 pre++(0+pre.flatten.length,X.length) :: (0+pre.flatten.length+X.length,Y.length) :: kP (0+pre.flatten.length+X.length+Y.length) post).set _ _).eraseIdx _=kP 0 pre++(0+pre.flatten.length,M.length) :: kP (0+pre.flatten.length+M.length) post;rw[e1 _ [] _ _ _ _ (jk pre 0),D,YJ,Xg]
 ·rcases Zc.mp b with b | b
  ·exact h.ok R (by simp[b])
  ·rcases Zi.mp b with rfl | b
   ·exact⟨by lia,U⟩
   ·exact h.ok R (by simp[b])
 ·refine Array.Perm.trans ?_ h.perm;rw[X1,p,h.arr];have e:(pre++X :: Y :: post).flatten++rest=pre.flatten++(X++Y)++(post.flatten++rest):=by simp
  rw[e];exact(q.append_left _).append_right _
end TS
end
section
open PySem PyProof.Rows
namespace TS
variable{κ:SortKind}
def RI.loc(h:RI κ r f d a rest)(L:Lc a.flatten.length d b):RI κ r f b a ((arrOf b).toList.drop a.flatten.length):=by
 refine⟨L.kind.trans h.kind,L.fail.trans h.fail,?_,by rw[L.pend];exact h.pend,h.ok,L.perm.trans h.perm⟩;have e:(arrOf b).toList.take a.flatten.length=a.flatten:=by
  have e2:(arrOf d).toList.take a.flatten.length=a.flatten:=by rw[h.arr,List.take_left]
  refine Eq.trans ?_ e2;apply VA;intro i;rw[List.getElem?_take,List.getElem?_take];split
  ·rename_i g;rw[Nw,Nw];exact L.pre i g
  ·rfl
 conv=>lhs;rw[← YZ a.flatten.length (arrOf b).toList,e]
theorem RI.push(h:RI κ r f e a rest)(j:a.flatten.length=d)(l:0<n)(i:n<=rest.length)(g:(rest.take n).Pairwise (le r)) :
  RI κ r f (setPending e ((UF e).push (d,n,0))) (a++[rest.take n]) (rest.drop n):=by
 refine⟨h.kind,h.fail,?_,?_,λR b=>?_,h.perm⟩
 ·rw[h.arr];simp
 ·rw[W6,Yy,h.pend,jq,YJ,j];show _++[(d,n)]=_++[(d,(rest.take n).length)];rw[Yv,YV i]
 ·rcases Zc.mp b with b | b
  ·exact h.ok R b
  ·rw[ZZ.mp b];exact⟨by rw[Yv];lia,g⟩
theorem xF{α β:Type}(f:α->β)(g:α->α)(a:∀x,f (g x)=f x):∀(l:List α)(i:Nat),(l.modify i g).map f=l.map f
 |[],i=>by simp
 |x :: l,0=>by simp[a]
 |x :: l,i+1=>by simp[xF f g a l i]
def RI.mod(h:RI κ r e b a rest)(i d:Nat):RI κ r e (setPending b ((UF b).modify i λx=>(x.1,x.2.1,d))) a rest :=
 ⟨h.kind,h.fail,h.arr,by
  rw[Array.toList_modify,xF (λp:Nat×Nat×Nat=>(p.1,p.2.1)) (λx=>(x.1,x.2.1,d)) (λx=>rfl),h.pend],h.ok,h.perm⟩
def Sg.pw(h:Sg r b a (a+n))(f:a+n<=b.size):((b.toList.drop a).take n).Pairwise (le r):=by
 rw[YH];intro i j e d g;rw[Yv,Yz]at e d;rw[XG,XG,XF,XF];have:=h (a+i) (a+j) (by exact Zd _ _) (by lia) (by lia);rw[B6 (by lia),B6 (by lia)]at this;simpa using this
theorem RI.size(h:RI κ r b d a rest):a.flatten.length+rest.length=b.size:=by
 have e:=congrArg List.length h.arr;rw[Zs,Ym,h.perm.size_eq]at e;exact e.symm
def Ck{r:Pv->Pv->Bool}{a:List (List Pv)}(h:∀R∈a,0<R.length/\R.Pairwise (le r)):a.length<=a.flatten.length:=by
 induction a with
 |nil=>exact Zn _
 |cons R Rs b =>
  have f:=(h R (Zv ..)).1;have e:=b λx d=>h x (Zx _ d);simp only[Zf,ZG,Zs];lia
def Hq{c:Prop}[Decidable c](e:a+1<n)(d:b+1<n):(if c then a else b)+1<n:=by
 split
 ·exact e
 ·exact d
def yU{prog:SB}{w:XAB}{A:SC}{E:Ki}{s:KB}{α:Type}{a b d:Nat->Prop}{c:Nat->Prop}[∀n,Decidable (c n)]{x R:Nat->StateT SL Sem α}{Q:α->SL->Prop}{P:Nat->SL->Prop}{f:SL}(D:∀n e,P n e->wpS (KF prog w) A E s (R n) Q e)(g:∀m,a m->b m->d m->¬c m->P m f)(h:∀m,a m->b m->d m->c m->(∀n e,P n e->wpS (KF prog w) A E s (R n) Q e)->wpS (KF prog w) A E s (x m) Q f):∀m,a m->b m->d m->wpS (KF prog w) A E s (if c m then x m else R m) Q f :=
 λm p q z=>aT (λy=>h m p q z y D) λy=>D m f (g m p q z y)
def CZ(C:LM prog w A E s κ G r){a₀:Array Pv}(hk:kindOf p=κ)(g:∀x∈a₀,G x)(ha:arrOf p=a₀)(hp:UF p=#[])(hf:failedOf p=J)(h:∀d,(arrOf d).Perm a₀->failedOf d=J->(arrOf d).toList.Pairwise (le r)->Q () d):wpS (KF prog w) A E s sortRuns' Q p:=by
 have R0:RI κ r a₀ p [] a₀.toList:=⟨hk,hf,by rw[ha];rfl,by rw[hp];rfl,λR y=>by simp at y,by rw[ha]⟩
 change wpS (KF prog w) A E s (_>>=_) Q p;dsimp only;refine ZU (Vg ?_);have esz:((sortPriv% PySem.Builtin.SortState.a) p).size=a₀.size:=by rw[← ha]
 rw[esz];refine ZU (XU (YQ
  (I:=λx c d=>c.1=J/\∃runs rest,RI κ r a₀ d runs rest/\runs.flatten.length=c.2/\x<=c.2)
  (Q:=λc d=>c.1=J/\∃runs,RI κ r a₀ d runs []) ?step ?fin ?init) ?post)
 case init=>exact⟨rfl,_,_,R0,rfl,Zn _⟩
 case fin =>
  refine all2 λF lo=>?_;rintro d ⟨i,runs,rest,R,q,hx⟩;have:=R.size;have e:rest=[]:=WU (by lia);subst e;exact⟨i,runs,R⟩
 case step =>
  intro x;refine all2 λF lo=>?_;rintro d _ hx ⟨i,runs,rest,R,q,hxl⟩;have u:=R.size;refine aT (λe=>?_) λe=>?_
  ·have e:rest=[]:=WU (by lia);subst e;exact ZV ⟨rfl,runs,R⟩
  refine ZU (Ho C R.kind (R.good g) (by lia) (by rw[R.perm.size_eq];lia) λm LV L2 m1 m2 S2=>?_);have I2:=R.loc (by rw[q];exact L2);have asz2:=I2.perm.size_eq;revert m;refine yU (P:=λnn L=>∃f,RI κ r a₀ L runs f/\f.length=a₀.size-lo/\0<nn/\nn<=f.length/\(f.take nn).Pairwise (le r)) ?D ?two ?one
  case one =>
   intro m m1 m2 S2 e2 Dk;refine ZU (ip ?_);refine ZU (FU C I2.kind (I2.good g) m1 (by omega) (by lia) S2 λL L3 S3=>?_);refine aT (λe=>absurd e (by decide)) λ_=>?_;have I3':=I2.loc (by rw[q];exact L3);have Z:=I3'.perm.size_eq;obtain⟨f,H⟩:∃l,l=(arrOf L).toList.drop runs.flatten.length:=⟨_,rfl⟩
   have o:f.length=a₀.size-lo:=by rw[H,Yz,Ym,Z,q]
   obtain⟨n3,en3⟩:∃n,n=min (a₀.size-lo) ((sortPriv% PySem.Builtin.minRun) a₀.size a₀.size 0):=⟨_,rfl⟩
   rw[← en3]at S3 ⊢;exact Dk n3 L ⟨f,(by rw[H];exact I3'),o,(by lia),(by omega),(by rw[H,q];exact S3.pw (by lia))⟩
  case two =>
   intro m m1 m2 S2 e2;obtain⟨f,H⟩:∃l,l=(arrOf LV).toList.drop runs.flatten.length:=⟨_,rfl⟩
   have o:f.length=a₀.size-lo:=by rw[H,Yz,Ym,asz2,q]
   exact⟨f,(by rw[H];exact I2),o,(by exact VF m1),(by lia),(by rw[H,q];exact S2.pw (by lia))⟩
  case D =>
   rintro nn L ⟨f,I3,o,U,S,O⟩;have Mo:=q;refine ZU (Vg ?_);cases hb:(UF L).back? with
   |none =>
    refine ZU (WR ?_);refine ZV ⟨rfl,_,_,I3.push Mo U S O,?_,by(try dsimp only);lia⟩;rw[YX,Zs,Vp,Yv]
    (try dsimp only)
    lia
   |some v =>
    obtain⟨s1,n1,pw1⟩:=v;refine ZU (XU (YQ
     (I:=λx c d=>c.1=J/\∃j,RI κ r a₀ d j f/\j.flatten.length=lo)
     (Q:=λc d=>c.1=J/\∃j,RI κ r a₀ d j f/\j.flatten.length=lo) ?stepM ?finM ?initM) ?postM)
    case initM=>exact⟨rfl,_,I3,Mo⟩
    case finM=>exact λc d h=>h
    case stepM =>
     intro x;refine all2 λF c2=>?_;rintro d _ hx ⟨i,j,R,y⟩;refine ZU (Vg ?_);split
     ·rename_i a b c hh;refine aT (λ_=>?_) λ_=>?_
      ·exact ZV ⟨rfl,j,R,y⟩
      ·have hp1:(UF d).size > 1:=by
        by_cases z:(UF d).size > 1
        ·exact z
        ·rw[Zo z]at hh;cases hh
       have TM:=R.QE;refine ZU (R.merge C g (show (UF d).size-2+1<j.length by omega) λst4 OG R4 l4 f4=>?_);refine aT (λe=>absurd e (by decide)) λ_=>?_;exact ZV ⟨rfl,OG,R4,by rw[f4,y]⟩
     ·exact ZV ⟨rfl,j,R,y⟩
    case postM =>
     refine all2 λF c2=>?_;rintro d ⟨i,j,R,y⟩;subst i;refine ZU (WR ?_);refine ZU (WR ?_);refine ZV ⟨rfl,_,_,(R.mod _ _).push y U S O,?_,by(try dsimp only);lia⟩;rw[YX,Zs,Vp,Yv]
     (try dsimp only)
     lia
 case post =>
  refine all2 λF lo=>?_;rintro d ⟨i,runs,R⟩;subst i;have rl:=Ck R.ok;have u:=R.size;refine ZU (XU (YQ
   (I:=λx c d=>c.1=J/\∃runs,RI κ r a₀ d runs []/\(runs.length<=1\/runs.length+x<=a₀.size))
   (Q:=λc d=>c.1=J/\∃runs,RI κ r a₀ d runs []/\runs.length<=1) ?step2 ?fin2 ?init2) ?post2)
  case init2=>exact⟨rfl,runs,R,.inr (by lia)⟩
  case fin2 =>
   refine all2 λF c2=>?_;rintro d ⟨i,runs,R,N⟩;exact⟨i,runs,R,by(clear u;lia)⟩
  case step2 =>
   intro x;refine all2 λF c2=>?_;rintro d _ hx ⟨i,runs,R,N⟩;have TM:=R.QE;refine ZU (Vg ?_);refine aT (λe=>?_) λe=>?_
   ·exact ZV ⟨rfl,runs,R,by rw[← TM];exact e⟩
   ·have e':1<runs.length:=by rw[← TM];exact V2 e
    refine ZU (R.merge C g ?_ λst4 OG R4 l4 f4=>?_)
    ·exact Hq (show (UF d).size-2-1+1<_ by omega) (by lia)
    ·refine aT (λe=>absurd e (by decide)) λ_=>?_;exact ZV ⟨rfl,OG,R4,by(clear e u;lia)⟩
  case post2 =>
   refine all2 λF c2=>?_;rintro d ⟨i,runs,R,N⟩;subst i;refine ZV (h d R.perm R.fail ?_);rw[R.arr,ZM]
   match runs,N,R.ok with
   |[],_,_=>exact List.Pairwise.nil
   |[X],_,ok =>
    rw[Vp];exact(ok X (Zv ..)).2
   |X :: Yq0 :: t,N,_=>simp at N
end TS
end
section
open PySem PyProof.Rows
namespace TS
noncomputable def jB(h:XAA)(a:On)(b:Vz):Heap:=((h.update a (Obj.mapSeq λ_=>#[])).push (seqObj "tuple" b.toArray 0)).push (seqObj "list" #[] 0)
def lX{a:Array Pv}(f:a.Perm (pairsOf e)):(a.map (·.2)).toList.Perm e/\(a.map (·.2)).toList.map (λv=>(v,v))=a.toList:=by
 have d:=X1.mp f;rw[pairsOf_toList]at d;constructor
 ·rw[Array.toList_map];refine(d.map _).trans ?_;rw[show (λx:Pv=>x.2)=Prod.snd from rfl,List.map_snd_zip (Zn _)]
 ·rw[Array.toList_map,LU]
  conv=>rhs;rw[← W4 a.toList]
  apply Xr;intro p b;have:=mem_zip_self (d.mem_iff.mp b);exact VJ this.1.symm L
def Gj{h:XAA}{vs:Vz}(b:a<h.objs.size)(g:(h.update a (Obj.mapSeq λ_=>#[])).get? a=Y o):(jB h a vs).get? a=Y o:=by
 exact(XX _ _ _ (by rw[size_push',Vb];exact Za (M0 b))).trans ((XX _ _ _ (by rw[Vb];exact Za b)).trans g)
def Ab{s:KB}{vs:Vz}{l:SortKind}(i:s.heap.get? a=Y (seqObj "list" vs.toArray n))(F:LM prog w A E { s with heap:=jB s.heap a vs } l G r)(D:∀v∈vs,G (v,v))(f:vs.length<=KM)(R:2<=vs.length->∀Q:SortKind->KB->Prop,Q l { s with heap:=jB s.heap a vs }->Pi (KF prog w) A (keyKind' vs.toArray) Q E { s with heap:=jB s.heap a vs })(h:∀out:Vz,out.Perm vs->(out.map λv=>(v,v)).Pairwise (le r)->P (.done (.ret .none)) { s with heap:=sortedHeap s.heap a vs out.toArray }) :
  Pi (KF prog w) A (Builtin.«list.sort» ⟨[.ref a],[]⟩) P E s:=by
 have MG:vs.toArray.size=vs.length:=rfl;obtain⟨U,o⟩:∃k,(s.heap.update a (Obj.mapSeq λ_=>#[])).get? a=Y (seqObj "list" #[] k):=⟨_,get?_update_seq i _⟩
 have at2:=Gj (vs:=vs) (ZO i) o;have done:∀b:Array Pv,b.Perm (pairsOf vs)->b.toList.Pairwise (le r)->P (.done (.ret .none)) { s with heap:=sortedHeap s.heap a vs (b.map (·.2)) }:=λb d j=>by
  obtain⟨y,u⟩:=lX d;have:=h _ y (by rw[u];exact j)
  rwa [Array.toArray_toList]at this
 have room:∀b:Array Pv,b.Perm (pairsOf vs)->(b.map (·.2)).size<=KM+1:=λb d=>by
  rw[Array.size_map,d.size_eq,pairsOf_size];exact WA f
 rw[list_sort_plain];refine Zr (listItems_at i L (Zr (listUpdate_at i L (Zr (seqEpoch_at o L (Zr (wpAny_newTuple (Zr (wpAny_newList (Y2 ?_))))))))));refine(?_);by_cases two:2<=vs.length
 ·have no:¬(vs.toArray.size<2):=by lia
  rw[Zo no,Zo no];refine Zr (R two _ (Zr (Xw (CZ F (a₀:=pairsOf vs)
   (Q:=λ_ g=>(arrOf g).Perm (pairsOf vs)/\failedOf g=J/\(arrOf g).toList.Pairwise (le r)) L (λx C=>by
   have m:x∈(pairsOf vs).toList:=by simpa using C
   rw[pairsOf_toList]at m;obtain⟨e1,e2⟩:=mem_zip_self m;have:=D x.1 e2;obtain⟨p,q⟩:=x;dsimp only at e1 this;rw[← e1];exact this) L L L λg O N H=>⟨O,N,H⟩) ?_ λ_ _ e=>e)))
  rintro⟨⟨⟩,g⟩ S ⟨rfl,d,j,z⟩;refine Zr (seqEpoch_at at2 L (Zr (listUpdate_at at2 L ?_ (hsz2:=room _ d))));rw[j];simp only[bne_self_eq_false,Y1,↓reduceIte];exact Zk (done _ d z)
 ·have no:vs.toArray.size<2:=by lia
  rw[Zp no,Zp no];refine Zr (Zk (Zr ?_));rw[StateT.run_pure];refine Zk (Zr (seqEpoch_at at2 L (Zr (listUpdate_at at2 L ?_ (hsz2:=room _ (Array.Perm.refl _))))));simp only[bne_self_eq_false,Y1,↓reduceIte];refine Zk (done (vs.toArray.zip vs.toArray) (Array.Perm.refl _) ?_)
  match vs,two with
  |[],_=>simp
  |[_],_=>simp
  |_ :: _ :: _,q=>simp at q
def nl(h:b<n)(k:Nat):b≠n+k:=Za (Zg h (Zd _ _))
structure N5(prog:SB)(w:XAB)(Q:Ki)(vs:Vz)(s1:KB) where
 G:Pv->Prop
 r:Pv->Pv->Bool
 kd:SortKind
 hC:∀(A:SC)(E:Ki)(h:XAA),(∀b o,s1.heap.get? b=some o->h.get? b=some o)->LM prog w A E { s1 with heap:=h } kd G r
 hG:∀v∈vs,G (v,v)
 hlen:vs.length<=KM
 Z0:2<=vs.length->∀(A:SC)(E:Ki)(h:XAA),(∀b o,s1.heap.get? b=some o->h.get? b=some o)->∀Q:SortKind->KB->Prop,Q kd { s1 with heap:=h }->Pi (KF prog w) A (keyKind' vs.toArray) Q E { s1 with heap:=h }
 h:∀(out:Vz)(h':XAA)(e:Nat),out.Perm vs->(out.map λv=>(v,v)).Pairwise (le r)->(∀b o,s1.heap.get? b=some o->h'.get? b=some o)->h'.get? s1.heap.objs.size=some (seqObj "list" out.toArray e)->Q (.ref s1.heap.objs.size) { s1 with heap:=h' }
def vW{A:SC}(m:∀(g:SC)(n:Ki),g.handled=A.handled->Pi (KF prog w) g (collect x) (λa s1=>Nonempty (N5 prog w Q a s1)) n s) :
  Pi (KF prog w) A (call (.builtin "sorted") [x]) Q E s:=by
 refine Calls.call_function_entry kind_sorted plain_sorted entry_sorted (args_sorted1 _) (?_);refine Zr (Zk (Zr (Xw (m A.in1 (λ_ _=>False) L) ?_ λ_ _ e=>e.elim)));rintro a s1 ⟨⟨G,r,kd,hC,hG,hlen,Z0,h⟩⟩;refine Zr (wpAny_newList ?_ (by exact hlen));have d:(s1.heap.push (seqObj "list" a.toArray 0)).get? s1.heap.objs.size=Y (seqObj "list" a.toArray 0):=ZK _ L;have old:∀b o,s1.heap.get? b=Y o->(jB (s1.heap.push (seqObj "list" a.toArray 0)) s1.heap.objs.size a).get? b=Y o:=λb o e=>by
  have hb:=ZO e;unfold jB;rw[XX _ _ _ (by rw[size_push',Vb,size_push'];exact nl hb 2),XX _ _ _ (by rw[Vb,size_push'];exact nl hb 1),Heap.get?_update_ne _ _ _ _ (Za hb),XX _ _ _ (Za hb)];exact e
 refine Zr (Y2 (WO slot_list_sort ⟨_,d,rfl⟩ entry_list_sort (Ab d (hC _ _ _ old) hG hlen (λl=>Z0 l _ _ _ old) λout j i=>⟨_,rfl,?_⟩) (args_list_sort _)));obtain⟨e,he⟩:=sortedHeap_at d;exact Zk ⟨_,rfl,h out _ e j i (λb o f=>by
  have hb:=ZO f;rw[sortedHeap_old (Za hb) (by rw[size_push'];exact M0 hb),XX _ _ _ (Za hb)];exact f) he⟩
end TS
end
section
namespace L2
open PySem PySem.Spec PyProof.Rows TS
section
theorem t6:∀{a:Vz},(∀v∈a,∃x t,v=Value.str x t)->aP ((a.map strOf).map V.str) a
 |[],_=>.nil
 |u :: a,h=>by
  obtain⟨x,t,rfl⟩:=h u (Zv ..);exact .cons ⟨t,rfl⟩ (t6 λv b=>h v (Zx _ b))
end
end L2
end
section
namespace VS
mutual
theorem iy:∀(n:Nat)(t:T),LW n t=M->eqT t t=M
 |n,.non,_=>by simp
 |n,.bl _,_=>by simp
 |n,.int _,_=>by simp
 |n,.str _,_=>by simp
 |n+1,.tup l,h=>by
  exact l9 n l (Mz.mp h)
 |n+1,.lst l,h=>by
  exact l9 n l (Mz.mp h)
 |0,.tup _,h=>nomatch h
 |0,.lst _,h=>nomatch h
 |0,.scr _,h=>nomatch h
 |_+1,.scr _,h=>nomatch h
 |0,.dct _ _,h=>nomatch h
 |_+1,.dct _ _,h=>nomatch h
 |0,.obj _ _,h=>nomatch h
 |_+1,.obj _ _,h=>nomatch h
theorem l9:∀(n:Nat)(l:Ut),(∀t∈l,LW n t=M)->oJ l l=M
 |_,[],_=>rfl
 |n,t :: r,h=>by
  exact ZX.mpr ⟨iy n t (h t Zv),l9 n r λu a=>h u (Zx _ a)⟩
end
def FF{α:Type}(l:List α)(a b:Option Int):(cut l a b).length<=l.length:=by
 unfold cut;simp only[Yv,Yz];omega
def Ct{α:Type}(l:List α)(a b:Option Int){x:α}(h:x∈cut l a b):x∈l:=by
 exact YN (YO h)
def zC{α:Type}(l:List α)(k:Nat):cut l J (Y (k:Int))=l.take k:=by
 have h:¬((k:Int)<0):=by lia
 by_cases a:k<=l.length
 ·simp[cut,clip,h,YV a]
 ·rw[Ys (by lia)];simp[cut,clip,h,Vy (WZ a)]
def oI(e:a U=Y (m,.lst l)):fU a U=Y (m,l):=by
 show (a U).bind zM=_;rw[e];rfl
def dG{tg:Tg}{it:Nr}{body:Sx}{U:Env}{m:Md}{l:Ut}(e:it U=Y (m,l))(h:okF m=M):iV tg it body U=forL tg body l U:=by
 unfold iV;rw[e];exact Zp h
def bP{g:Fn}{as:Kx}{U:Env}{t:T}(h:as U=Y a)(b:g (trees a)=Y (.fr,t)):b7 g as U=Y (.fr,t):=by
 simp only[b7,h,Zu,b]
def aQ{e:Ex}{U:Env}{m:Md}{t:T}(h:e U=Y (m,t))(a:m ≠ .bo)(b:i<U.length):bg i e U=Y (.nx (U.set i (Y (.pu t)))):=by
 simp only[bg,h,Zu];cases m with
 |bo=>exact absurd L a
 |_=>simp[b]
def sG(h:e U=Y (.fr,t))(a:pd t=M)(b:i<U.length):kc i e U=Y (.nx (U.set i (Y (.ow t)))):=by
 simp only[kc,h,Zu,cellOf,a,if_true,Zp b]
end VS
end
section
namespace VS
open PySem PySem.Spec PyProof.Rows L2
def Jq{a b c:Tx}(h:a<b)(d:¬c<b):a<c:=by
 by_cases e:a<c
 ·exact e
 ·exact absurd (List.lt_of_le_of_lt (Vc.mp e) h) d
theorem j9(x:Tx):∀l:List Tx,(qx x l).Perm (x :: l)
 |[]=>XY _
 |y :: r=>by
  unfold qx;split
  ·exact((j9 x r).cons y).trans (List.Perm.swap _ _ _)
  ·exact XY _
theorem js:∀l:List Tx,(fE l).Perm l
 |[]=>XY _
 |x :: l=>(j9 x _).trans ((js l).cons x)
theorem sQ(x:Tx):∀{l:List Tx},l.Pairwise (λa b=>¬b<a)->(qx x l).Pairwise (λa b=>¬b<a)
 |[],_=>Vv _ _
 |y :: r,h=>by
  unfold qx;rw[nZ];obtain⟨e,g⟩:=Wu.mp h;split
  ·rename_i c;refine Wu.mpr ⟨λz d=>?_,sQ x g⟩;rcases Zi.mp ((j9 x r).mem_iff.mp d) with rfl | d
   ·exact λz=>List.lt_irrefl _ (List.lt_trans (by simpa using c) z)
   ·exact e z d
  ·rename_i c;have f:¬y<x:=by simpa using c
   refine Wu.mpr ⟨λz d=>?_,h⟩;rcases Zi.mp d with rfl | d
   ·exact f
   ·exact λw=>e z d (Jq w f)
theorem qj:∀l:List Tx,(fE l).Pairwise (λa b=>¬b<a)
 |[]=>List.Pairwise.nil
 |x :: l=>sQ x (qj l)
def qz{d:List Tx}(h:d.Perm l)(e:d.Pairwise (λa b=>¬b<a)):d=fE l :=
 List.Perm.eq_of_pairwise (λa b _ _ g f=>List.le_antisymm (Vc.mp g) (Vc.mp f)) e (qj l) (h.trans (js l).symm)
def Ao(s:Tx):(sx s).cps.toList=s:=rfl
def BZ{f:List Tx}{d:List Str}(h:d.Perm (f.map sx))(i:d.Pairwise (λa b=>¬b.cps.toList<a.cps.toList)):d=(fE f).map sx:=by
 have e:d=(d.map λx=>x.cps.toList).map sx:=by
  rw[LU]
  conv=>lhs;rw[← W4 d]
  apply Xr;intro x g;obtain⟨s,_,rfl⟩:=ZC.mp (h.mem_iff.mp g);show sx s=sx (sx s).cps.toList;rw[Ao]
 have e2:(d.map λx=>x.cps.toList)=fE f:=by
  refine qz ?_ ?_
  ·have:=h.map λx:Str=>x.cps.toList;rw[LU]at this;have e3:((λx:Str=>x.cps.toList) ∘ sx)=id:=by
    funext s;exact Ao s
   rw[e3,W4]at this;exact this
  ·rw[Y5];exact i
 rw[e,e2]
def Sk(s:Tx):Bool:=decide (s.length<=fI)&&s.all (λc=>decide (c<1114112))
def Hu(h:Sk s=M):kb s:=by
 unfold Sk at h;simp at h;exact h
section
theorem vT{H:Hp}:∀{ss:List Tx},(∀s∈ss,kb s)->RpL G H (ss.map λs=>V.str (sx s)) (ss.map T.str) (ss.map λ_=>[])
 |[],_=>.nil
 |s :: ss,h=>.cons (.str s (h s (Zv ..))) (vT λx a=>h x (Zx _ a))
theorem kY{α β:Type}:∀(l:List α),(l.map λ_=>([]:List β)).flatten=[]
 |[]=>rfl
 |_ :: l=>by simp
def Bk{G:Gx}{Z:Kk}{U:VS.Env}{i H:Hp}{d:List Tx}{Q:VK}(k:∀v g F,aO H g->Rp G g v (.lst ((fE d).map T.str)) F->Fp Z U i .fr F->Q v g)(m:aO i H)(j:∀s∈d,kb s) :
  ∀(l:On)(f:List Str),H l=J->f.Perm (d.map sx)->f.Pairwise (λa b=>¬b.cps.toList<a.cps.toList)->Q (.ref l) (upd H l (.lst (f.map V.str))):=λq f h o hw=>by
 rw[BZ o hw];have r:Rp G (upd H q (.lst (((fE d).map sx).map V.str))) (.ref q) (.lst ((fE d).map T.str)) (q :: ((fE d).map λ_=>[]).flatten):=.lst (by rw[aw,LU];rfl) (vT (G:=G) (H:=upd H q (.lst (((fE d).map sx).map V.str))) λs n=>j s ((js d).mem_iff.mp n));rw[kY]at r;exact k _ _ _ (cF h) r (Fp.new (m.free h) (by simp) Fp.nil)
theorem keys_str:∀{a:List Key}{b:List Tx},strs? (a.map aK)=Y b->a=(b.map sx).map Sum.inr
 |[],_,e=>by cases e;rfl
 |.inl i :: a,_,e=>by cases e
 |.inr x :: a,b,e=>by
  obtain⟨d,e1,e2⟩:=Zy.mp (e);subst e2;rw[keys_str e1];simp[sx]
def p7:bootBuiltins ("sorted" : Str)=Y (.builtin "sorted"):=by decide +kernel
end
end VS
end
section
namespace ST
open PySem PySem.Spec PyProof.Rows
noncomputable def byT(w:XAB):Bool:=w.params.followText "set-order"
abbrev bare(w:XAB):Obj:={ cls:=.type "set",dict:=J,data:=.set #[] 0 (.fresh 0 0 (!byT w)) }
def D7{s:KB}(v:PP){Q:Ki}(h:Q (.ref s.heap.objs.size) { s with heap:=s.heap.push (bare w) }) :
  codeAny (KF prog w) A (.call (.builtin "set.__new__") ⟨[.type "set",v],[]⟩) (wants Q E) s:=by
 refine codeAny_of_tree (Zr (wpAny_of_eq (F.newCall_set_1 v) (Zk ⟨Vk F.plain_set_new _,XB F.entry_set_new ?_⟩)));rw[XW F.plain_set_new];have own:=sub_set_self;cases s;unfold Builtin.«set.__new__» Builtin.Frozenset.newClass
 wp_walk
 refine wpAny_askSetting (Zk ?_);exact Zr (wpAny_alloc (Zk (Zk h)))
end ST
end
section
namespace ST
open PySem PySem.Spec PyProof.Rows
def Jk{A:SC}{s:KB}(f:A.handled=J)(h:∀(a:XAA)(x:On),(∀b o,s.heap.get? b=Y o->a.get? b=Y o)->(∃o,a.get? x=Y o/\o.cls=.type "StopIteration")->d (.ref x) { s with heap:=a }) :
  Pi (KF prog w) A (newExc (.type "StopIteration") [] >>= λe=>raiseNew e) Q d s:=by
 refine Zr (Zr (Vn (Zr (wpAny_of_eq (by first | rfl | (rfl)) (Vn ?_ (by size_fits)))) (by size_fits)));refine Zr (wpAny_handled ?_);rw[f];exact Zr (Zk (wpAny_throw (h _ _ (λb o e=>Zj _ (Zj _ e)) ⟨_,ZK _ L,rfl⟩)))
end ST
end
section
namespace VS
open PySem PySem.Spec PyProof.Rows L2
section
def Fo:bootBuiltins ("set" : Str)=Y (.type "set"):=by decide +kernel
end
inductive Mc(G:Gx)(H:Hp):List Ky->V->V->Prop
 |nil (v:V):Mc G H [] v v
 |fld {c k:Nat} {a dx:On} {fs:List (Str×V)} {u w:V} {ks:List Ky}:H a=some (.ins (G.ct (c+1)).1 dx fs)->fs.lookup ((G.ct (c+1)).2 k)=some u->Mc G H ks u w->Mc G H (.fld k :: ks) (.ref a) w
 |ix {a:On} {vs:List V} {i:Int} {j:Nat} {u w:V} {ks:List Ky}:H a=some (.lst vs)->Ll vs.length i=some j->vs[j]?=some u->Mc G H ks u w->Mc G H (.at (.int i) :: ks) (.ref a) w
 |key {a:On} {cp:List (Key×V)} {k:Key} {u w:V} {ks:List Ky}:H a=some (.dK cp)->eW cp k=some u->Mc G H ks u w->Mc G H (.at (aK k) :: ks) (.ref a) w
 |un {v w:V} {ks:List Ky}:Mc G H ks v w->Mc G H (.un :: ks) v w
section
def sD{f:Yx}{i j:Nat}{F h:W9}(d:f.flatten.Nodup)(b:f[i]?=Y F)(e:f[j]?=Y h)(n:i≠j){a:On}(g:a∈F):a∉h:=by
 intro hb
 induction f generalizing i j with
 |nil=>simp at b
 |cons G m l =>
  rw[ZG,ZF]at d;cases i with
  |zero =>
   simp at b;subst b;cases j with
   |zero=>exact n L
   |succ j=>exact d.2.2 a g a (de (by simpa using e) hb) L
  |succ i =>
   cases j with
   |zero =>
    simp at e;subst e;exact d.2.2 a hb a (de (by simpa using b) g) L
   |succ j=>exact l d.2.1 (by simpa using b) (by simpa using e) (by lia)
def cI{d:Yx}(h:a∈(d.set j g).flatten):a∈g\/∃i F,i≠j/\d[i]?=Y F/\a∈F:=by
 obtain⟨i,F,b,f⟩:=gu h;by_cases e:i=j
 ·subst e;rw[List.getElem?_set_self' ]at b;cases q:d[i]? with
  |none=>rw[q]at b;cases b
  |some _=>rw[q]at b;cases b;exact .inl f
 ·rw[YU (Y4 e)]at b;exact .inr ⟨i,F,e,b,f⟩
theorem eE:∀{p:Yx}{j:Nat}{f:W9},p.flatten.Nodup->f.Nodup->(∀i F,i≠j->p[i]?=Y F->∀a∈F,a∉f)->(p.set j f).flatten.Nodup
 |[],_,_,h,_,_=>by simpa using h
 |G :: r,0,f,h,o,d=>by
  rw[ZG,ZF]at h;rw[List.set_cons_zero,ZG,ZF];refine⟨o,h.2.1,λa g b hb e=>?_⟩;subst e;obtain⟨i,F,m,l⟩:=gu hb;exact d (i+1) F (by lia) (by simpa using m) a l g
 |G :: r,j+1,f,h,o,d=>by
  rw[ZG,ZF]at h;rw[List.set_cons_succ,ZG,ZF];refine⟨h.1,eE h.2.1 o λi F n q=>d (i+1) F (by lia) (by simpa using q),λa g b hb e=>?_⟩;subst e;rcases cI hb with z | ⟨i,F,n,m,l⟩
  ·exact d 0 G (by lia) L a g z
  ·exact h.2.2 a g a (de m l) L
def RpL.each:∀{f:List V}{e:Ut}{g:Yx},RpL G H f e g->(∀(i:Nat) v t F,f[i]?=Y v->e[i]?=Y t->g[i]?=Y F->Rp G H v t F->Rp G h v t F)->RpL G h f e g:=by
 intro f e
 induction e generalizing f with
 |nil=>intro g r k;cases r;exact .nil
 |cons t e j =>
  intro g r k;cases r with
  |cons r q=>exact .cons (k 0 _ _ _ L L L r) (j q λi v t F a b c d=>k (i+1) v t F a b c d)
theorem RpL.setAt:∀{e:List V}{f:Ut}{m:Yx}{j:Nat}{u:V}{o:T}{p:W9},RpL G H e f m->e[j]?=Y u->Rp G l u o p->(∀(i:Nat) v t F,i≠j->e[i]?=Y v->f[i]?=Y t->m[i]?=Y F->Rp G H v t F->Rp G l v t F)->RpL G l e (f.set j o) (m.set j p)
 |_,_,_,_,_,_,_,.nil,h,_,_=>by simp at h
 |_,_,_,0,_,_,_,.cons r q,h,g,k=>by
  simp at h;subst h;exact .cons g (RpL.each q λi v t F a b c d=>k (i+1) v t F (by lia) (by simpa using a) (by simpa using b) (by simpa using c) d)
 |_,_,_,j+1,_,_,_,.cons r q,h,g,k=>.cons (k 0 _ _ _ (by lia) L L L r) (RpL.setAt q (by simpa using h) g λi v t F n a b c d=>k (i+1) v t F (by lia) (by simpa using a) (by simpa using b) (by simpa using c) d)
def nq(N:H a=Y o)(E:RpL G H s D d)(f:(a :: d.flatten).Nodup)(O:s[j]?=Y u)(y:d[j]?=Y A)(g:Chg G H u A C q e):q a=Y o/\RpL G q s (D.set j C) (d.set j e)/\(a :: (d.set j e).flatten).Nodup/\(∀b∈a :: (d.set j e).flatten,b∈a :: d.flatten\/H b=J)/\∀b o,b∉a :: d.flatten->H b=Y o->q b=Y o:=by
 rw[ZY]at f;have p:∀b∈A,b∈d.flatten:=λb hb=>de y hb;refine⟨g.keep a o (λz=>f.1 (p a z)) N,E.setAt O g.rp (λi v t F n m l P r=>r.keep g.kept λb hb w x=>g.keep b w (sD f.2 P y n hb) x),?_,λb hb=>?_,λb w hb x=>g.keep b w (λz=>hb (Zx _ (p b z))) x⟩
 ·rw[ZY];refine⟨λh=>?_,eE f.2 g.nd (λi F n L b hb Q=>by
  rcases g.sub b Q with z | z
  ·exact sD f.2 L y n hb z
  ·exact Kn.pe (E.Kw b (de L hb)) z)⟩
  rcases cI h with z | ⟨i,F,n,m,l⟩
  ·rcases g.sub a z with z | z
   ·exact f.1 (p a z)
   ·rw[N]at z;cases z
  ·exact f.1 (de m l)
 ·rcases Zi.mp hb with rfl | hb
  ·exact .inl Zv
  ·rcases cI hb with z | ⟨i,F,n,m,l⟩
   ·rcases g.sub b z with z | z
    ·exact .inl (Zx _ (p b z))
    ·exact .inr z
   ·exact .inl (Zx _ (de m l))
theorem qT{α β:Type}:∀(d:List α)(bs:List β)(i:Nat)(a:α)(y:β),d[i]?=Y a->(d.zip bs).set i (a,y)=d.zip (bs.set i y)
 |[],_,_,_,_,h=>by simp at h
 |a :: d,[],i,_,_,_=>by cases i<;>simp
 |a :: d,b :: bs,0,_,y,h=>by simp at h;subst h;rfl
 |a :: d,b :: bs,i+1,_,y,h=>by
  have:=qT d bs i _ y (by simpa using h);simp[this]
theorem k8{α β:Type}(p:α->Bool):∀{e:List α}{bs:List β}{i:Nat},e.length=bs.length->(e.zip bs).findIdx? (λq=>p q.1)=Y i->∃a b,e[i]?=Y a/\bs[i]?=Y b/\p a=M/\(e.zip bs).find? (λq=>p q.1)=Y (a,b)
 |[],[],_,_,h=>by simp at h
 |a :: e,b :: bs,i,g,h=>by
  rw[ZJ,VP]at h;by_cases d:p a=M
  ·rw[Zp d]at h;cases h;exact⟨a,b,rfl,rfl,d,by simp[d]⟩
  ·rw[Zo d]at h;refine L2.ai λv f=>?_;obtain⟨j,l,rfl⟩:=Zy.mp h;obtain⟨u,s,r,o,n,m⟩:=k8 p (by simpa using g) l;refine f ?_;exact⟨u,s,by simpa using r,by simpa using o,n,by simp[d,m]⟩
def jD(k a:Key):eqT (aK a) (aK k)=M↔a=k:=by
 cases k with
 |inl i=>cases a<;>simp[aK]
 |inr x =>
  obtain⟨⟨x⟩⟩:=x;cases a with
  |inl j=>simp[aK]
  |inr y=>obtain⟨⟨y⟩⟩:=y;simp[aK]
theorem wc:∀{ns:List Key}{d:Ut}{a:List V}{i:Nat},ns.length=d.length->ns.length=a.length->((ns.map aK).zip d).findIdx? (λq=>eqT q.1 (aK k))=Y i->a[i]?=Y u->eW (ns.zip a) k=Y u
 |[],_,_,_,_,_,h,_=>by simp at h
 |n :: ns,t :: d,v :: a,i,m,l,h,e=>by
  rw[Zm,ZJ,VP]at h;by_cases b:eqT (aK n) (aK k)=M
  ·rw[Zp b]at h;cases h;simp at e;subst e;exact jh ((jD k n).mp b)
  ·rw[Zo b]at h;obtain⟨j,g,rfl⟩:=Zy.mp h;have f:n≠k:=λz=>b ((jD k n).mpr z);have:eW ((n :: ns).zip (v :: a)) k=eW (ns.zip a) k:=by simp[eW,f]
   rw[this];exact wc (by simpa using m) (by simpa using l) g (by simpa using e)
 |_ :: _,[],_,_,h,_,_,_=>by simp at h
 |_ :: _,_ :: _,[],_,_,h,_,_=>by simp at h
def d6(r:Rp G H v (.obj (c+1) (h :: i)) F):∃(f:Nat)(a l:On)(b:Bool)(e:Uz)(d:List V)(g:Ut)(j:Yx),c+1=f+1/\v=.ref a/\h=(0,.bl b)/\i=e.zip g/\F=a :: j.flatten ∧
  H a=Y (.ins (G.ct (f+1)).1 l ((e.map (G.ct (f+1)).2).zip d))/\e.length=d.length/\(b=M->G.me 0=Y (.ref a))/\RpL G H d g j:=r.inv
def oN(r:Rp G H v (.obj 0 [(0,.bl M),(m,t)]) F):∃a,v=.ref a/\G.me m=Y (.ref a)/\Rp G H (.ref a) t F:=r.inv _ _ L
def ua{G:Gx}{c a:Nat}(h:∀c k m:Nat,(G.ct c).2 k=(G.ct c).2 m->k=m){e:Uz}{d:List V}{f:Ut}{u:V}{i:Nat}(n:e.length=d.length)(b:(e.zip f).findIdx? (λq=>q.1==a)=Y i)(o:e[i]?=Y a)(g:d[i]?=Y u):((e.map (G.ct c).2).zip d).lookup ((G.ct c).2 a)=Y u:=by
 induction e generalizing d f i with
 |nil=>simp at o
 |cons l w p =>
  cases d with
  |nil=>simp at n
  |cons v bs =>
   cases f with
   |nil=>simp at b
   |cons s f =>
    rw[Zm,ZJ,YR];rw[ZJ,VP]at b;by_cases q:(l==a)=M
    ·rw[Zp q]at b;cases b;have:l=a:=by simpa using q
     subst this;simp at g;simp[g]
    ·rw[Zo q]at b;obtain⟨j,r,rfl⟩:=Zy.mp b;have:((G.ct c).2 a==(G.ct c).2 l)=B:=by
      rw[beq_eq_false_iff_ne];intro z;exact q (by simpa using(h c _ _ z).symm)
     rw[this];exact p (by simpa using n) r (by simpa using o) (by simpa using g)
def IQ{α:Type}{f:T->Option (T×α)}{y:α}(e:pm f (.un :: d) t=Y (a,y)):∃m x z,t=.obj 0 [(0,.bl M),(m,x)]/\pm f d x=Y (z,y)/\a=.obj 0 [(0,.bl M),(m,z)]:=by
 cases t with
 |obj c fs =>
  cases c with
  |succ c=>cases e
  |zero =>
   cases fs with
   |nil=>cases e
   |cons q fs =>
    obtain⟨n,v⟩:=q;cases n with
    |succ n=>cases e
    |zero =>
     cases v with
     |bl b =>
      cases b with
      |false=>cases e
      |true =>
       cases fs with
       |nil=>cases e
       |cons g fs =>
        obtain⟨m,x⟩:=g;cases fs with
        |cons _ _=>cases e
        |nil =>
         obtain⟨⟨z,h⟩,e1,e2⟩:=Zy.mp e;cases e2;exact⟨_,_,_,rfl,e1,rfl⟩
     |_=>cases e
 |_=>cases e
noncomputable abbrev PmC(G:Gx)(H:Hp){α:Type}(f:T->Option (T×α))(g:List Ky)(v:V)(e:T)(F:W9)(y:α):Prop:=∃w x a b,Mc G H g v w/\Rp G H w x a/\a.Nodup/\f x=Y (b,y)/\∀d h,Chg G H w a b d h->∃i,Chg G H v F e d i
def nW{G:Gx}{α:Type}{f:T->Option (T×α)}:∀(ks:List Ky){v:V}{t t':T}{F:W9}{y:α},(∀c k k':Nat,(G.ct c).2 k=(G.ct c).2 k'->k=k')->Rp G H v t F->F.Nodup->pm f ks t=Y (t',y) →
  PmC G H f ks v t' F y:=by
 intro ks
 induction ks with
 |nil=>intro v t t' F y _ r nd e;exact⟨v,t,F,t',.nil v,r,nd,e,λL o g=>⟨o,g⟩⟩
 |cons ky ks ih =>
 intro v t t' F y inj r nd e;cases ky with
 |fld k =>
  cases t with
  |obj c fs0 =>
   cases c with
   |zero=>cases e
   |succ c =>
   cases fs0 with
   |nil=>cases e
   |cons q0 fs =>
   refine L2.ai λP_ U=>?_;obtain⟨i,h1,e⟩:=Zz.mp e;obtain⟨p,Z,e⟩:=Zz.mp e;obtain⟨⟨z,y'⟩,e1,e2⟩:=Zy.mp e;cases e2;obtain⟨c',a,dx,b,ns,vs,ts,Fs,ec,rfl,rfl,rfl,rfl,E,X,hb,d⟩:=d6 r;cases ec;obtain⟨D,q,g1,g2,g3,g4⟩:=k8 (λn=>n==k) (X.trans d.len.1) h1;have ek:D=k:=by simpa using g3
   subst ek;have ep:p=(D,q):=by
    have:(ns.zip ts)[i]?=Y (D,q):=by rw[Xl];exact⟨g1,g2⟩
    rw[this]at Z;exact(Zl Z).symm
   subst ep;obtain⟨u,Fi,C,A,u3⟩:=d.get i g2;obtain⟨w,x,F1,N,S,R,Q,P,O⟩:=ih inj u3 (((ZY.mp nd).2).sublist (b6 A)) e1;refine U ?_;refine⟨w,x,F1,N,.fld (c:=c) E (ua inj X h1 g1 C) S,R,Q,P,λL o g=>?_⟩;obtain⟨Fi',h⟩:=O L o g;obtain⟨s1,s2,s3,s4,s5⟩:=nq E d nd C A h;refine⟨_,h.kept,s5,h.Kw,?_,s3,s4⟩;rw[qT ns ts i D z g1];exact .ins s1 X hb s2
  |_=>cases e
 |un =>
  refine L2.ai λP_ U=>?_;obtain⟨m,x,z,rfl,e1,rfl⟩:=IQ e;obtain⟨a,rfl,hm,rx⟩:=oN r;obtain⟨w,q,F1,N,S,R,Q,P,O⟩:=ih inj rx nd e1;refine U ?_;refine⟨w,q,F1,N,.un S,R,Q,P,λL o g=>?_⟩;obtain⟨F',g'⟩:=O L o g;exact⟨F',g'.kept,g'.keep,g'.Kw,.mk hm g'.rp,g'.nd,g'.sub⟩
 | «at» k =>
  cases t with
  |lst l =>
   cases k with
   |int i =>
    refine L2.ai λP_ U=>?_;obtain⟨j,h1,e⟩:=Zz.mp e;obtain⟨q,Z,e⟩:=Zz.mp e;obtain⟨⟨z,y'⟩,e1,e2⟩:=Zy.mp e;cases e2;obtain⟨a,vs,Fs,rfl,rfl,E,d⟩:=r.lst_inv;obtain⟨u,Fi,C,A,u3⟩:=d.get j Z;obtain⟨w,x,F1,N,S,R,Q,P,O⟩:=ih inj u3 (((ZY.mp nd).2).sublist (b6 A)) e1;refine U ?_;refine⟨w,x,F1,N,.ix E (by rw[d.len.1];exact h1) C S,R,Q,P,λL o g=>?_⟩;obtain⟨Fi',h⟩:=O L o g;obtain⟨s1,s2,s3,s4,s5⟩:=nq E d nd C A h;exact⟨_,h.kept,s5,h.Kw,.lst s1 s2,s3,s4⟩
   |_=>cases e
  |dct kd l =>
   cases kd with
   |zero =>
    have hk:iu k=M/\((l.findIdx? λp=>eqT p.1 k).bind λi=>(l[i]?).bind λp=>(pm f ks p.2).map λz=>(T.dct 0 (l.set i (p.1,z.1)),z.2))=Y (t',y):=by
     cases k with
     |int i=>exact⟨rfl,e⟩
     |str s=>exact⟨rfl,e⟩
     |_=>cases e
    obtain⟨hk,e⟩:=hk;obtain⟨i,h1,e⟩:=Zz.mp e;obtain⟨p,Z,e⟩:=Zz.mp e;obtain⟨⟨z,y'⟩,e1,e2⟩:=Zy.mp e;cases e2;obtain⟨a,ns,vs,ts,Fs,rfl,rfl,E,X,rfl,d⟩:=fj r;have Rw:(ns.map aK).length=ts.length:=by rw[Zw];exact X.trans d.len.1
    obtain⟨D,q,g1,g2,g3,g4⟩:=k8 (λn=>eqT n k) Rw h1;have ep:p=(D,q):=by
     have:((ns.map aK).zip ts)[i]?=Y (D,q):=by rw[Xl];exact⟨g1,g2⟩
     rw[this]at Z;exact(Zl Z).symm
    subst ep;obtain⟨kk,O5⟩:∃kk:Key,k=aK kk:=by
     cases k with
     |int i=>exact⟨.inl i,rfl⟩
     |str s=>exact⟨.inr (sx s),by simp[aK,sx]⟩
     |_=>cases hk
    refine L2.ai λP_ U=>?_;subst O5;obtain⟨u,Fi,C,A,u3⟩:=d.get i g2;obtain⟨w,x,F1,N,S,R,Q,P,O⟩:=ih inj u3 (((ZY.mp nd).2).sublist (b6 A)) e1;refine U ?_;refine⟨w,x,F1,N,.key E ?_ S,R,Q,P,λL o g=>?_⟩
    ·exact wc (by simpa using Rw) X h1 C
    ·obtain⟨Fi',h⟩:=O L o g;obtain⟨s1,s2,s3,s4,s5⟩:=nq E d nd C A h;refine⟨_,h.kept,s5,h.Kw,?_,s3,s4⟩;rw[qT (ns.map aK) ts i D z g1];exact .dct s1 X s2
   |succ kd=>cases e
  |_=>cases e
end
section
def Mc.same{H:Hp}(e:aO H d)(p:Mc G H b v w):Mc G d b v w:=by
 induction p with
 |nil v=>exact .nil v
 |fld h l _ a=>exact .fld (e _ _ h) l a
 |ix h l m _ a=>exact .ix (e _ _ h) l m a
 |key h l _ a=>exact .key (e _ _ h) l a
 |un _ a=>exact .un a
theorem Mc.split:∀{d:List Ky}{v:V},Mc G H (d++[k]) v w->∃u,Mc G H d v u/\Mc G H [k] u w
 |[],v,p=>⟨v,.nil v,p⟩
 |_ :: d,_,.fld h l p=>let ⟨u,a,b⟩:=Mc.split p;⟨u,.fld h l a,b⟩
 |_ :: d,_,.ix h l m p=>let ⟨u,a,b⟩:=Mc.split p;⟨u,.ix h l m a,b⟩
 |_ :: d,_,.key h l p=>let ⟨u,a,b⟩:=Mc.split p;⟨u,.key h l a,b⟩
 |_ :: d,_,.un p=>let ⟨u,a,b⟩:=Mc.split p;⟨u,.un a,b⟩
theorem fZ:∀{way:List Np}{j:List Ky},keys (way++[s]) U=Y j->∃f k,keys way U=Y f/\keys [s] U=Y [k]/\j=f++[k]
 |[],j,e=>by
  cases s with
  |fld k=>cases e;exact⟨[],.fld k,rfl,rfl,rfl⟩
  |un=>cases e;exact⟨[],.un,rfl,rfl,rfl⟩
  |ix c =>
   obtain⟨x,i,g⟩:=Zz.mp (e);cases g;exact⟨[],.at x.2,rfl,by show ((_:Option _).bind _)=_;rw[i];rfl,rfl⟩
 |.fld k :: way,j,e=>by
  refine L2.ai λo l=>?_;obtain⟨n,i,g⟩:=Zy.mp (e);obtain⟨f,m,a,b,c⟩:=fZ i;refine l ?_;exact⟨.fld k :: f,m,by show ((keys _ _).map _)=_;rw[a];rfl,b,by rw[← g,c];rfl⟩
 |.un :: way,j,e=>by
  refine L2.ai λo l=>?_;obtain⟨n,i,g⟩:=Zy.mp (e);obtain⟨f,m,a,b,c⟩:=fZ i;refine l ?_;exact⟨.un :: f,m,by show ((keys _ _).map _)=_;rw[a];rfl,b,by rw[← g,c];rfl⟩
 |.ix c :: way,j,e=>by
  refine L2.ai λo l=>?_;obtain⟨x,p,h⟩:=Zz.mp (e);obtain⟨n,i,g⟩:=Zy.mp h;obtain⟨f,m,a,b,d⟩:=fZ i;refine l ?_;exact⟨.at x.2 :: f,m,by show ((_:Option _).bind _)=_;rw[p];rw[a];rfl,b,by rw[← g,d];rfl⟩
def UO(G:Gx)(i:Nat)(a:List Np):TE:=λO H Q=>∃Z U t b v w,SR G Z U O H/\U[i]?=Y (Y (.ow t))/\O[i]?=Y (Y v)/\keys a U=Y b/\Mc G H b v w/\∀d,aO H d->Q w d
def Nq(G:Gx)(X:Cx)(e:Expr)(i:Nat)(a:List Np):Prop:=PE X e (UO G i a)
def PE.NP(h:PE X e t)(w:∀O H Q,UO G i a O H Q->t O H Q):Nq G X e i a:=λb s O H Q I q=>h b s O H Q I (w O H Q q)
def bI{X:Cx}(i:Nat)(h:{`q8,X.N[i]?=Y x})(d:{`q9,M7 X.env.scope x})(g:{`q8,K3 x})(a:{`q8,K4 x}):Nq G X (.Name x pos) i [] :=
 PE.NP (fh h d g a) λO H Q f=>by
  obtain⟨Z,U,t,o,v,w,s,p,n,m,l,j⟩:=f;cases (m);cases l;exact⟨v,n,j H (aO.refl _)⟩
def Jx(h:Nq G X e i way):Nq G X e i (way++[.un]) :=
 PE.NP h λO H Q g=>by
  refine L2.ai λy f=>?_;obtain⟨Z,U,t,r,v,w,s,o,n,m,l,j⟩:=g;obtain⟨p,x,a,b,rfl⟩:=fZ m;cases (b);obtain⟨u,p1,d⟩:=l.split;refine f ?_;cases d with
  |un q =>
   cases q;exact⟨Z,U,t,p,v,w,s,o,n,a,p1,j⟩
structure LB(G:Gx)(K:X2)(k:Nat)(f:Str):Prop where
 nm:∀c,(G.ct (c+1)).2 k=f
 cl:∀c,LX K (G.ct (c+1)).1
 no:∀c,aY K (G.ct (c+1)).1 f
def fH{X:Cx}(k:Nat)(F:LB G X.K k f)(h:Nq G X e i way)(n:{`q8,XAC e f X.env (eval e X.env)=eval e X.env}):Nq G X (.Attribute e f pos) i (way++[.fld k]) :=
 PE.NP (Bi h n) λO H Q m=>by
  refine L2.ai λP l=>?_;obtain⟨Z,U,t,L,v,w,s,z,y,x,r,p⟩:=m;obtain⟨C,N,a,b,rfl⟩:=fZ x;cases (b);obtain⟨u,p1,j⟩:=r.split;refine l ?_;refine⟨Z,U,t,C,v,u,s,z,y,a,p1,λD d=>?_⟩;cases j with
  |@fld c _ a A fs E _ _ o g q =>
   cases q;rw[F.nm c]at g;exact⟨a,_,A,fs,w,rfl,d a _ o,F.cl c,F.no c,g,p D d⟩
def EW{X:Cx}(S:p0 E X.A)(h:Nq G X e i way)(hb:PV G X b c)(R:fX b)(hK:X.K=G.K):Nq G X (.Subscript e b pos) i (way++[.ix c]) :=
 PE.NP (mO (Mf.or kg (qE (jL S))) h hb R) λO H Q hq=>by
  refine L2.ai λP_ F=>?_;obtain⟨Z,U,t,ks,v,w,s,h1,h2,h3,h4,h5⟩:=hq;obtain⟨NW,k',a,b',rfl⟩:=fZ h3;obtain⟨⟨D,x⟩,ec,e2⟩:=Zz.mp (b');cases e2;obtain⟨u,p1,C⟩:=h4.split;refine F ?_;refine⟨Z,U,t,NW,v,u,s,h1,h2,a,p1,λH1 d=>⟨Z,U,D,x,s.same d,ec,λy H2 F2 o r2 f2=>?_⟩⟩;have q:=h5 H2 (d.trans o);cases ((C.same d).same o) with
  |@ix a p L j r _ _ l g P f =>
   cases f;refine .inl (.inl ⟨a,p,L,w,rfl,r2.int_inv,Kt.of l,jt g P,q⟩)
  |@key a cp m r _ _ l g f =>
   cases f;refine .inr ⟨a,w,rfl,?_,q⟩;have N:y=kV m:=by
    cases m with
    |inl n=>exact r2.int_inv
    |inr z =>
     have:=r2.str_inv.1;rw[this];simp[kV,sx]
   rw[N,← g];exact fK.k l
@[simp] def iT(i:Nat)(a:List Np)(f:T->Uv->Option (T×Val))(h:Kx)(U:VS.Env):Option (Val×VS.Env):=match U[i]? with
 |some (some (.ow t))=>(keys a U).bind λg=>(h U).bind λd=>(pm (λx=>f x d) g t).map λz=>(z.2,U.set i (Y (.ow z.1)))
 |_=>J
noncomputable def ke(G:Gx):Prop:=∀c k a:Nat,(G.ct c).2 k=(G.ct c).2 a->k=a
def Ar{pos apos:Pos}(J:ke G)(pa:PlainAttrs p)(d:Slot p a m)(RH:typeOf (.builtin m)=pure (.type "method_descriptor"))(hm:UH X m r)(ok:Br G r f)(hT:∀H v t F l z,Rp G H v t F->f t l=Y z->QA G.K p v H)(ho:Nq G X o i way)(ha:Lv G X (e :: es) cs)(hK:X.K=G.K)(Kv:XAC o a X.env (eval o X.env)=eval o X.env)(K5:((backTo oe (P3 (e :: es) X.env)).all (λx=>!x.1)&&(backToKw oe (SZ [] X.env)).all (λx=>x.1.isSome)
   && decide ((e :: es).length+([]:List Keyword).length+(if ([]:List Keyword).isEmpty then 0 else 1)<30))=M)(Kr:(apos.endLine==oe.line)=M)(hs:K1 e es X)(Kl:K2 oe es X)(MU:swapsWith (.Call (.Attribute o a apos) (e :: es) [] oe) none pos.line X.env=pure B) :
  PSV G X (.Expr (.Call (.Attribute o a apos) (e :: es) [] oe) pos) (sX (iT i way f cs)) :=
 PS.weak (jz (qk pa d RH hm ho ha Kv K5 Kr hs Kl) MU) λD O H hq=>by
  obtain⟨Z,U,out,s,e,k⟩:=hq;refine L2.ai λP_ k_=>?_;unfold sX iT at e;obtain⟨⟨x',U'⟩,e1,e2⟩:=Zy.mp e;split at e1
  ·rename_i t h;obtain⟨E,ek,e3⟩:=Zz.mp e1;obtain⟨l,el,e4⟩:=Zz.mp e3;obtain⟨⟨t',x2⟩,e5,e6⟩:=Zy.mp e4;cases e6;cases e2;obtain⟨v,L,h2⟩:=s.rp _ _ h;obtain⟨w,x,F1,R,w1,A,w3,y,S⟩:=nW E J h2 (s.nd i t h) e5;refine k_ ?_;refine⟨Z,U,t,E,v,w,s,h,L,ek,w1,λH0 j=>⟨by rw[hK];exact hT H0 w x _ l _ (A.same j) y,Z,U,l,s.same j,el,λvs H' Fs q1 q2 C=>?_⟩⟩;refine ok Z U H H' w x R F1 l vs Fs x2 _ A w3 ⟨j.trans q1,q2,⟨λn v' q a1 a2=>(C.each n v' q a1 a2).back j,C.nd⟩⟩ y λu N q g=>?_;obtain⟨F2,g2⟩:=S N q g;obtain⟨Q,P⟩:=s.mut h L g2;exact k _ O N Q P
  ·cases e1
end
section
def lL(k v:Val):T->Option (T×Unit)
 |.lst l=>match k.2 with
  |.int n=>(fit v).bind λt=>(Ll l.length n).map λj=>(.lst (l.set j t),())
  |_=>J
 |.dct 0 l=>if iu k.2/\Kh v.2/\l.length<fI then Y (.dct 0 (dput l k.2 v.2),()) else J
 |_=>J
def fC(i:Nat)(a:List Np)(k e:Ex)(U:VS.Env):Option Out:=(e U).bind λv=>match U[i]? with
 |some (some (.ow t))=>(keys a U).bind λf=>(k U).bind λd=>(pm (lL d v) f t).map λz=>.nx (U.set i (Y (.ow z.1)))
 |_=>J
theorem RpL.putAt:∀{d:List V}{f:Ut}{g:Yx}(j:Nat){u:V}{x:T}{F:W9},RpL G H d f g->Rp G H u x F->RpL G H (d.set j u) (f.set j x) (g.set j F)
 |_,_,_,_,_,_,_,.nil,_=>.nil
 |_,_,_,0,_,_,_,.cons r q,a=>.cons a q
 |_,_,_,j+1,_,_,_,.cons r q,a=>.cons r (RpL.putAt j q a)
theorem wL(u:Rp G H m t []):∀{a:List Key}{j:List V}{s:Ut}{D:Yx},a.length=j.length->RpL G H j s D →
  ∃f h g,(a.zip j).map (λn=>if n.1=d then (n.1,m) else n)=a.zip f/\a.length=f.length/\((a.map aK).zip s).map (λp=>if eqT p.1 (aK d) then (p.1,t) else p)=(a.map aK).zip h/\RpL G H f h g/\g.flatten.Sublist D.flatten
 |[],[],_,_,_,.nil=>⟨[],[],[],rfl,rfl,rfl,.nil,Wf _⟩
 |k :: a,v :: j,_,_,N,.cons (t:=E) (F:=F) r q=>by
  refine L2.ai λO L=>?_;obtain⟨f,h,g,C,A,y,x,w⟩:=wL u (by simpa using N) q;refine L ?_;by_cases l:k=d
  ·refine⟨m :: f,t :: h,[] :: g,?_,by simp[A],?_,.cons u x,?_⟩
   ·rw[ZJ,Zm,C,ZJ];simp[l]
   ·rw[Zm,ZJ,Zm,y,ZJ];simp[((jD d k).mpr l)]
   ·rw[ZG,ZG];exact w.trans (Xm _ _)
  ·have e:¬eqT (aK k) (aK d)=M:=λz=>l ((jD d k).mp z);refine⟨v :: f,E :: h,F :: g,?_,by simp[A],?_,.cons r x,?_⟩
   ·rw[ZJ,Zm,C,ZJ];simp[l]
   ·rw[Zm,ZJ,Zm,y,ZJ];simp[e]
   ·rw[ZG,ZG];exact List.Sublist.append (Wf _) w
theorem uG{kk:Key}:∀{a:List Key}{d:List V}{f:Ut},a.length=d.length->a.length=f.length->((a.zip d).any λg=>decide (g.1=kk))=(((a.map aK).zip f).any λp=>eqT p.1 (aK kk))
 |[],_,_,_,_=>by simp
 |k :: a,v :: d,t :: f,l,j=>by
  rw[Zm,ZJ,ZJ,YK,YK,uG (by simpa using l) (by simpa using j)];have:decide (k=kk)=eqT (aK k) (aK kk):=by rw[Ww,decide_eq_true_eq];exact(jD kk k).symm
  rw[this]
 |_ :: _,[],_,h,_=>by simp at h
 |_ :: _,_ :: _,[],_,h=>by simp at h
def rz(u:Rp G H q t []){a:List Key}{g:List V}(d:a.length=g.length)(l:RpL G H g j s) :
  ∃(r:List Key)(f:List V)(n:Ut)(m:Yx),putK (a.zip g) kk q=r.zip f/\r.length=f.length/\dput ((a.map aK).zip j) (aK kk) t=(r.map aK).zip n/\RpL G H f n m/\m.flatten.Sublist s.flatten:=by
 unfold putK dput;rw[(uG (kk:=kk) d (d.trans l.len.1))];by_cases h:(((a.map aK).zip j).any λp=>eqT p.1 (aK kk))=M
 ·rw[Zp h,Zp h];refine L2.ai λC v=>?_;obtain⟨f,n,m,A,z,y,x,w⟩:=wL u d l;refine v ?_;exact⟨a,f,n,m,A,z,y,x,w⟩
 ·rw[Zo h,Zo h];refine⟨a++[kk],g++[q],j++[t],s++[[]],?_,by simp[d],?_,l.append (.cons u .nil),by simp⟩
  ·rw[List.zip_append d];rfl
  ·rw[Yy,List.zip_append (by rw[Zw];exact d.trans l.len.1)];rfl
def Fb:D3:=λo i v H Q=>EU o i v H Q\/∃a d,o=.ref a/\vv H a i v d/\Q d
def zi{X:Cx}(n:X.A.units+1<cLine):Gq X Fb:=by
 intro d s O H o i v m iv u Q I j l f h;rcases h with h | ⟨a,r,rfl,g,q⟩
 ·exact set_list d s O H o i v m iv u Q I j l f h
 ·cases j;exact yo n I g l f λw p=>⟨r,p,q⟩
def i9{X:Cx}{pos:Pos}(J:ke G)(hr:p0 kr X.A)(ho:Nq G X o i way)(hk:PV G X b ck)(he:PV G X e ce)(ha:∀v,assign (.Subscript o b pos') X.env v=(do
   let Q ← holding [v] (eval o X.env)
   let iv ← holding [v,Q] (eval b X.env)
   standAt pos'
   holding [v,Q,iv] (setItem Q iv v)
   release [v,Q,iv] []):=by exact λ_=>rfl)(hs:{`q8,swapsWithSole [.Subscript o b pos'] e pos.line X.env=pure B})(hw:{`q8,swappedStores [.Subscript o b pos'] e X.env=pure none})(E:{`q8,(assignEach [.Subscript o b pos'] X.env).map (·.2)=[assign (.Subscript o b pos') X.env]}):PSV G X (.Assign [.Subscript o b pos'] e pos) (fC i way ck ce) :=
 PS.weak (vP he (vU ho hk (zi (jL hr)) ha) hs hw E) λD O H hq=>by
  obtain⟨Z,U,out,s,e,k⟩:=hq;refine L2.ai λP_ R=>?_;obtain⟨⟨mv,C⟩,ev,e⟩:=Zz.mp e;split at e
  ·rename_i t S;obtain⟨ks,ek,e⟩:=Zz.mp e;obtain⟨⟨mk,f⟩,O5,e⟩:=Zz.mp e;obtain⟨⟨t',y'⟩,e5,e6⟩:=Zy.mp e;cases e6;obtain⟨v,g1,g2⟩:=s.rp _ _ S;obtain⟨w,x,F1,x3,w1,w2,w3,y,w5⟩:=nW ks J g2 (s.nd i t S) e5;refine R ?_;refine⟨Z,U,mv,C,s,ev,λxv H1 Fv LD rv fv=>?_⟩;refine⟨Z,U,t,ks,v,w,s.same LD,S,g1,ek,w1.same LD,λH2 Lu=>⟨Z,U,mk,f,(s.same LD).same Lu,O5,λkv H3 Fk Nd rk fk=>?_⟩⟩;have m:=(LD.trans Lu).trans Nd;have Pg:=(rv.same Lu).same Nd;have fin:∀N u,Chg G H w F1 x3 N u->D.nx O N:=λN u g=>by
    obtain⟨F2,SG⟩:=w5 N u g;obtain⟨z1,z2⟩:=s.mut S g1 SG;exact k _ O N z1 z2
   refine L2.ai λP_ R=>?_;cases x with
   |lst l =>
    cases f with
    |int n =>
     obtain⟨tt,et,e7⟩:=Zz.mp (y);obtain⟨j,ej,e8⟩:=Zy.mp e7;cases e8;cases (nj et);obtain⟨a,vs,Fs,rfl,rfl,L,p⟩:=w2.lst_inv;have F:=m a _ L;have nd:=ZY.mp w3;have na:a∉Fv:=λz=>by rw[fv.2 a z]at L;cases L
     have q:Kn (H3 a):=by rw[F];exact True.intro
     have off:=λd hb hv=>Kn.pe (p.Kw d hb) (fv.2 d hv);refine R ?_;refine .inl ⟨a,vs,n,j,rfl,rk.int_inv,F,by rw[← vJ,p.len.1];exact ej,fin _ (a :: (Fs.set j Fv).flatten) ?_⟩;refine Chg.upd m Zv q (.lst aw ((((p.same m).off q nd.1)).putAt j ((λr hn=>r.keep (Kept.upd (.inl q)) λd hb o' NI=>by rw[aD (λz=>hn (by rw[← z];exact hb))];exact NI) Pg na))) ?_ ?_
     ·rw[ZY];refine⟨λh=>?_,eE nd.2 fv.1 λi' u _ hi d hb=>off d (de hi hb)⟩;rcases cI h with z | ⟨i',u,_,E,h2⟩
      ·exact na z
      ·exact nd.1 (de E h2)
     ·intro d hb;rcases Zi.mp hb with rfl | hb
      ·exact .inl Zv
      ·rcases cI hb with z | ⟨i',u,_,E,h2⟩
       ·exact .inr (fv.2 d z)
       ·exact .inl (Zx _ (de E h2))
    |_=>cases y
   |dct kd l =>
    cases kd with
    |zero =>
     have hc:(iu f=M/\Kh C=M/\l.length<fI)/\x3=.dct 0 (dput l f C):=by
      have Rk:(if iu f/\Kh C/\l.length<fI then Y (T.dct 0 (dput l f C),()) else none)=Y (x3,y'):=y;split at Rk
      ·rename_i hc;cases Rk;exact⟨hc,rfl⟩
      ·cases Rk
     obtain⟨⟨c1,c2,c3⟩,rfl⟩:=hc;have eF:=Pg.Kh c2;subst eF;obtain⟨a,ns,vs,ts,Fs,rfl,rfl,L,hl,rfl,p⟩:=fj w2;obtain⟨kk,rfl,O0⟩:=dg rk c1;subst O0;have F:=m a _ L;have q:Kn (H3 a):=by rw[F];exact True.intro
     have nd:=ZY.mp w3;obtain⟨NX,Ml,LC,Mg,q1,q2,q3,q4,P⟩:=rz Pg hl (p.same m);refine R ?_;refine .inr ⟨a,_,rfl,vv.k F (by
      have:((ns.map aK).zip ts).length<16777216:=c3;rw[YL,Zw]at this;rw[YL];have:=p.len.1;have:(KM:Nat)=16777216:=rfl;lia),fin _ (a :: Mg.flatten) ?_⟩
     rw[q1,q3];refine Chg.upd m Zv q (.dct aw q2 (q4.off q λz=>nd.1 (P.subset z))) ?_ ?_
     ·exact ZY.mpr ⟨λz=>nd.1 (P.subset z),nd.2.sublist P⟩
     ·intro d hb;rcases Zi.mp hb with rfl | hb
      ·exact .inl Zv
      ·exact .inl (Zx _ (P.subset hb))
    |succ n=>cases y
   |_=>cases y
  ·cases e
end
def Hh{K:X2}{b:Uy}(e:zJ H)(d:Kt K H a (b.map V.int)):lj K H a b:=by
 rcases d with h | h
 ·rcases h with h | h
  ·rcases e a with z | ⟨o,f,z⟩
   ·rw[z]at h;cases h
   ·rw[z]at h;cases h
  ·exact .inl h
 ·exact .inr h
def Hn{G:Gx}(d:g [.scr b]=Y (.fr,.bl M))(f:zJ H)(e:Kt G.K H a (b.map V.int)):M3 G g [.ref a] H (λv _=>v=.bl M) E :=
 ⟨[.scr b],[[]],.fr,.bl M,.cons (.scr (Hh f e)) .nil,d,λv h F _ r _=>r.Lf⟩
def gx0(K:X2):Gx:=⟨K,λ_=>(0,λk=>⟨#[k]⟩),λ_=>J⟩
end VS
end
section
namespace L2
open PySem PySem.Spec PyProof.Rows
section
def vO{X:Cx}(y:X.calm=M):dw X (.type "list") (λf H Q=>∃x:Str,f=[.str x]/\x.cps.size<=KM/\∀l,H l=J->Q (.ref l) (upd H l (.lst (x.cps.toList.map λc=>V.str ⟨#[c]⟩)))):=by
 intro j s O H f A Q I p h;obtain⟨x,rfl,m,q⟩:=h;obtain⟨u,rfl,t,rfl⟩:=vals1 p;refine call_list_str (I.ok.hd y) x t (λz C acc c kp g o=>?_) m;refine⟨.ref s.heap.objs.size,_,I.laid kp (Zn _) (show du X.prog X.w _ z _ (.lst (x.cps.toList.map λc=>V.str ⟨#[c]⟩)) from⟨by rw[Zw,Ym];exact m,acc.toList,c,(by
  have key:∀(b:Uz)(a:Vz),b.length=a.length->(∀(i:Nat)(v:PP),a[i]?=Y v->∃c u,b[i]?=Y c/\v=.str ⟨#[c]⟩ u)->aP (b.map λc=>V.str ⟨#[c]⟩) a:=by
   intro b
   induction b with
   |nil =>
    intro a e _;cases a with
    |nil=>exact .nil
    |cons v a=>simp at e
   |cons c b r =>
    intro a e hg;cases a with
    |nil=>simp at e
    |cons v a =>
     obtain⟨d,u,e1,e2⟩:=hg 0 v L;cases e1;exact .cons ⟨u,e2⟩ (r a (by simpa using e) λi w hw=>by simpa using hg (i+1) w (by simpa using hw))
  refine key _ _ (by rw[Ym,Ym,o.1]) λi v n=>?_;rw[Nw]at n;obtain⟨d,u,e1,e2⟩:=o.2 i v n;exact⟨d,u,by rw[Nw];exact e1,e2⟩),g⟩),rfl,q _ (I.Kd.fresh (Zn _))⟩
end
end L2
namespace VS
open PySem PySem.Spec PyProof.Rows L2
section
def qC:Uv->Uu
 |[(m,.lst l)]=>NC m l
 |[(m,.tup l)]=>NC m l
 |[(_,.str s)]=>NC .fr (s.map λc=>.str [c])
 |_=>J
def B5:fF G (λd H Q=>E2 G.K d H Q\/∃x:Str,d=[.str x]/\x.cps.size<=KM/\∀l,H l=J->Q (.ref l) (upd H l (.lst (x.cps.toList.map λc=>V.str ⟨#[c]⟩)))) qC:=by
 intro Z U i H l f j m t Q A e k;unfold qC at e;split at e
 ·exact .inl (xq Z U i H _ f j m t Q A e k)
 ·exact .inl (xq Z U i H _ f j m t Q A e k)
 ·rename_i C x;obtain⟨v,F,rfl,rfl,h⟩:=(A.rp).one;have g:=h.str_inv.2;refine .inr ⟨sx x,by rw[h.str_inv.1],?_,λq r=>?_⟩
  ·have:=g.1;exact this
  ·have z:(sx x).cps.toList.map (λc=>V.str ⟨#[c]⟩)=(x.map λc=>[c]).map λs=>V.str (sx s):=by
    simp[sx]
   have w:(x.map λc=>T.str [c])=(x.map λc=>[c]).map T.str:=by simp
   rw[z];rw[w]at e;refine jI A.same e (vT (G:=G) (H:=H) (ss:=x.map λc=>[c]) λs o=>by
    obtain⟨c,u,rfl⟩:=ZC.mp o;exact⟨by show 1<=fI;decide,λy n=>by rw[ZZ.mp n];exact g.2 c u⟩) ?_ k q r
   rw[kY];exact Fp.nil
 ·cases e
def DV{X:Cx}(d:X.mg "list" = J)(h:Lv G X [e] cs)(f:{`q3,Gl X "list"})(i:{`q3,X.K=G.K})(g:{`q3,X.calm=M})(he:{`q3,K1 e [] X}):PV G X (.Call (.Name "list" p) [e] [] pos) (eN qC cs) :=
 jH (rK.or (vO g)) (i ▸ B5) f d DI h (he:=he)
end
end VS
end
section
open PySem PyProof.Rows
namespace TS
noncomputable abbrev Ky:=Sum Int Str
noncomputable def M4:Ky->Ky->Bool
 |.inl i,.inl j=>decide (i<j)
 |.inr x,.inr y=>decide (x.cps.toList<y.cps.toList)
 |_,_=>B
def dZ:List Ky->List Ky->Bool
 |[],[]=>B
 |[],_ :: _=>M
 |_ :: _,[]=>B
 |a :: d,b :: bs=>if a=b then dZ d bs else M4 a b
noncomputable def kind(k:Ky):Bool:=k.isLeft
def C3{x y:Str}(h:x.cps.toList=y.cps.toList):x=y:=by
 cases x;cases y;simp only[Str.mk.injEq];exact Array.toList_inj.mp h
def En(a:Ky):M4 a a=B:=by
 cases a with
 |inl i=>simp[M4]
 |inr x=>simp[M4,List.lt_irrefl]
def uk(h:M4 a b=M):M4 b a=B:=by
 cases a<;>cases b<;>simp only[M4,decide_eq_true_eq,decide_eq_false_iff_not,Y1]at h ⊢
 ·lia
 ·exact λq=>List.lt_irrefl _ (List.lt_trans h q)
def yw(h:M4 a b=M)(d:M4 b c=M):M4 a c=M:=by
 cases a<;>cases b<;>cases c<;>simp only[M4,decide_eq_true_eq,Y1]at h d ⊢
 ·lia
 ·exact List.lt_trans h d
def rO(k:kind a=kind b)(h:M4 a b=B)(d:M4 b a=B):a=b:=by
 cases a<;>cases b<;>simp only[M4,decide_eq_false_iff_not,kind,Sum.isLeft,VN,Y1]at h d k ⊢
 ·congr 1;lia
 ·congr 1;exact C3 (List.le_antisymm (Vc.mp d) (Vc.mp h))
theorem ma:∀{l m:List Ky},dZ l m=M->dZ m l=B
 |[],[],h=>by simp[dZ]at h
 |[],_ :: _,_=>rfl
 |_ :: _,[],h=>by simp[dZ]at h
 |a :: l,b :: m,h=>by
  unfold dZ at h ⊢;by_cases e:a=b
  ·rw[Zp e]at h;rw[Zp e.symm];exact ma h
  ·rw[Zo e]at h;rw[Zo (Y4 e)];exact uk h
theorem rE:∀{l m n:List Ky},l.map kind=m.map kind->m.map kind=n.map kind->dZ m l=B->dZ n m=B->dZ n l=B
 |[],[],[],_,_,_,_=>rfl
 |[],[],_ :: _,_,h,_,_=>by simp at h
 |[],_ :: _,_,h,_,_,_=>by simp at h
 |_ :: _,[],_,h,_,_,_=>by simp at h
 |_ :: _,_ :: _,[],_,h,_,_=>by simp at h
 |a :: l,b :: m,c :: n,i,g,f,d=>by
  simp only[Zm,Wx]at i g;unfold dZ at f d ⊢;by_cases e1:b=a
  ·subst e1;rw[Zp L]at f;by_cases e2:c=b
   ·rw[Zp e2]at d ⊢;exact rE i.2 g.2 f d
   ·rw[Zo e2]at d ⊢;exact d
  ·rw[Zo e1]at f;by_cases e2:c=b
   ·subst e2;rw[Zo e1];exact f
   ·rw[Zo e2]at d;have j:=yw (by
    cases q:M4 a b with
    |true=>rfl
    |false=>exact absurd (rO i.1 q f).symm e1) (by
     cases q:M4 b c with
     |true=>rfl
     |false=>exact absurd (rO g.1 q d).symm e2)
    rw[Zo (λe=>by rw[e,En]at j;cases j)];exact uk j
noncomputable def Rc:Ky->PP->Prop
 |.inl i,v=>∃t,v=.int i t
 |.inr x,v=>∃t,v=.str x t
inductive Mj:List Ky->Vz->Prop where
 |nil:Mj [] []
 |cons {k:Ky} {v:PP} {ks:List Ky} {vs:Vz}:Rc k v->Mj ks vs->Mj (k :: ks) (v :: vs)
def Rc.fn(h:Rc k v)(b:Rc a v):k=a:=by
 cases k<;>cases a<;>obtain⟨t,rfl⟩:=h<;>obtain⟨d,e⟩:=b<;>cases e<;>rfl
theorem Mj.fn:∀{d b:List Ky}{a:Vz},Mj d a->Mj b a->d=b
 |_,_,_,.nil,.nil=>rfl
 |_,_,_,.cons h q,.cons f e=>by rw[h.fn f,q.fn e]
noncomputable def hJ(h:XAA)(v:PP)(a:List Ky):Prop:=∃b o items n,v=.ref b/\h.get? b=Y o/\o.cls=.type "tuple" ∧ o.data=.seq items n/\Mj a items.toList
theorem hJ.fn(x:hJ h v f)(y:hJ h v a):f=a:=by
 obtain⟨b,o,items,n,rfl,g,_,d,k⟩:=x;obtain⟨q,m,r,p,e,i,_,j,l⟩:=y;cases e;rw[g]at i;cases i;rw[d]at j;cases j;exact k.fn l
def Jc(d:kind k=kind a)(h:Rc k v)(f:Rc a b)(q:Q (decide (k=a)) s):Pi (KF prog w) A (eqBool v b) Q E s:=by
 cases k<;>cases a<;>simp only[kind,Sum.isLeft,VN,Y1]at d<;>obtain⟨t,rfl⟩:=h<;>obtain⟨g,rfl⟩:=f
 ·exact wpAny_eqBool_int (by have e:∀i j:Int,(i==j)=decide (Sum.inl (β:=Str) i=.inl j):=λi j=>by by_cases z:i=j<;>simp[z]
                             rw[e];exact q)
 ·exact wpAny_eqBool_str (by simpa using q)
def Ie(e:kind k=kind a)(h:Rc k v)(f:Rc a d)(q:Q (M4 k a) s):Pi (KF prog w) A (oneLt' b v d) Q E s:=by
 cases k<;>cases a<;>simp only[kind,Sum.isLeft,VN,Y1]at e<;>obtain⟨t,rfl⟩:=h<;>obtain⟨g,rfl⟩:=f
 ·cases b with
  |true=>exact oneLt_int q
  |false =>
   rw[oneLt'_eq,Zo Zh];exact Zr (PyProof.Rows.lt_int (Y0 q))
 ·cases b with
  |true=>exact oneLt_str q
  |false =>
   rw[oneLt'_eq,Zo Zh];exact Zr (PySem.P.lt_str (Y0 q))
def za(a b:Ky)(l m:List Ky):dZ (a :: l) (b :: m)=if a=b then dZ l m else M4 a b:=rfl
def Gu{s:KB}(hx:hJ s.heap x j)(hy:hJ s.heap y r)(U:j.map kind=r.map kind)(q:Q (dZ j r) s):Pi (KF prog w) A (keyLt' (tuples' f) x y) Q E s:=by
 obtain⟨b,o,items,n,rfl,g,_,d,k⟩:=hx;obtain⟨b',o',Z,n',rfl,g',_,d',S⟩:=hy;refine(?_);refine Zr (listItems_at g d (Zr (listItems_at g' d' ?_)));have R:items.size=Z.size:=by
  have e1:∀{j:List Ky}{l:Vz},Mj j l->j.length=l.length:=λh=>by induction h with | nil=>rfl | cons _ _ ih=>simp[ih]
  have h1:=e1 k;have h2:=e1 S;have h3:=congrArg List.length U;simp at h1 h2 h3;lia
 refine Zr (Vf _ (λrest b O=>b=(J,())/\O=s/\∃(F D:List Ky)(l G:Vz)(i:Nat),rest=(l.zip G).zipIdx i/\Mj F l/\Mj D G/\F.map kind=D.map kind/\dZ j r=dZ F D) _ ?turn ?fin _ _ ⟨rfl,rfl,j,r,_,_,0,rfl,k,S,U,rfl⟩)
 case turn =>
  rintro x rest b O ⟨rfl,rfl,F,D,l,G,i,e,C,z,p,m⟩;cases C with
  |nil=>simp at e
  |@cons a v Tt L X C =>
   cases z with
   |nil=>simp at e
   |@cons b u P N hb z =>
    obtain⟨rfl,rfl⟩:=e;simp only[Zm,Wx]at p;refine Zr (Jc p.1 X hb ?_);rw[za]at m;by_cases H:a=b
    ·rw[Zp H]at m;rw[decide_eq_true H,Zo (by simp)];exact Zk ⟨rfl,rfl,Tt,P,L,N,i+1,rfl,C,z,p.2,m⟩
    ·rw[Zo H]at m;rw[ZS H,Zp (by simp)];refine Zr (Ie p.1 X hb (Zk (Zk ?_)));rw[← m];exact q
 case fin =>
  rintro b O ⟨rfl,rfl,F,D,l,G,i,e,C,z,p,m⟩;have:dZ j r=decide (items.size<Z.size):=by
   rw[m,R];cases C with
   |nil =>
    cases z with
    |nil=>simp[dZ]
    |cons _ _=>simp at p
   |cons _ _ =>
    cases z with
    |nil=>simp at p
    |cons _ _=>simp at e
  refine Zk ?_;rw[← this];exact q
theorem rR{α β:Type}{f:α->Sem β}{P:β->Prop}:∀{b:List α}{Q:List β->KB->Prop},(∀v∈b,∃x,P x/\∀(Q:β->KB->Prop),Q x s->Pi (KF prog w) A (f v) Q E s)->(∀a:List β,a.length=b.length->(∀x∈a,P x)->Q a s)->Pi (KF prog w) A (b.mapM f) Q E s
 |[],Q,_,q=>by
  rw[List.mapM_nil];exact Zk (q [] L (by simp))
 |v :: b,Q,h,q=>by
  rw[List.mapM_cons];obtain⟨x,px,g⟩:=h v Zv;refine Zr (g _ (Zr (rR (λu i=>h u (Zx _ i)) λa l j=>Zk (q _ (by simp[l]) λy d=>?_))));rcases Zi.mp d with e | e
  ·rw[e];exact px
  ·exact j y e
def BX{s:KB}{C:Vz}{Q:SortKind->KB->Prop}(h2:0<C.length)(hv:∀v∈C,∃H,hJ s.heap v H/\H.map kind=D :: sh)(q:Q (tuples' M) s):Pi (KF prog w) A (keyKind' C.toArray) Q E s:=by
 have fst:∀v∈C,∃x,(∀(Q:V9->KB->Prop),Q (Y x) s->Pi (KF prog w) A (firstOfTuple' v) Q E s)/\(∀(Q:Ki),Q (.type (if D then "int" else "str")) s->Pi (KF prog w) A (typeOf x) Q E s):=λv p=>by
  refine L2.ai λP_ N=>?_;obtain⟨H,⟨b,o,items,n,rfl,g,c,d,k⟩,F⟩:=hv v p;refine N ?_;cases O:items.toList with
  |nil =>
   rw[O]at k;cases k;simp at F
  |cons x j =>
   rw[O]at k;cases k with
   |@cons a _ Tt _ X k1 =>
    simp only[Zm,Wx]at F;have hx:items[0]?=Y x:=by rw[← Nw,O];rfl
    refine⟨x,λQ q=>?_,λQ q=>?_⟩
    ·refine(Zr (wpAny_typeOf ⟨o,g,c⟩ ?_));rw[Zo (by decide)];refine Zr (listItems_at g d (Zk ?_));rw[hx];exact q
    ·cases a with
     |inl i =>
      obtain⟨t,rfl⟩:=X;have:=F.1.symm;subst this;exact wpAny_typeOf L q
     |inr y =>
      obtain⟨t,rfl⟩:=X;have:=F.1.symm;subst this;exact wpAny_typeOf L q
 obtain⟨r,u⟩:∃r:String,r=(if D then "int" else "str"):=⟨_,rfl⟩
 have Mu:(Value.type r != Value.type "tuple")=M:=by subst u;cases D<;>decide
 rw[← u]at fst;have mp:∀{α β:Type}(f:α->Sem β)(l:List α)(Q:Array β->KB->Prop),Pi (KF prog w) A (l.mapM f) (λj s'=>Q j.toArray s') E s->Pi (KF prog w) A (l.toArray.mapM f) Q E s:=λf l Q p=>by
  rw[List.mapM_toArray];exact Zr (Xw p (λ_ _ z=>Zk z) λ_ _ e=>e)
 rw[keyKind'_eq];refine Zr (mp _ _ _ (rR (P:=λo=>∃x,o=Y x/\∀(Q:Ki),Q (.type r) s->Pi (KF prog w) A (typeOf x) Q E s) (λv p=>by
  obtain⟨x,h1,S⟩:=fst v p;exact⟨Y x,⟨x,rfl,S⟩,h1⟩) λj hl R=>?_))
 rw[Zp (by
  rw[List.all_toArray,Mz];intro o m;obtain⟨x,rfl,_⟩:=R o m;rfl)]
 refine Zr (wpAny_rule (Zr ?_));rw[oneTypeOnly'_eq];have hf:(j.toArray.filterMap id)=(j.filterMap id).toArray:=by simp
 rw[hf];refine Zr (mp _ _ _ (rR (λv p=>by
  refine L2.ai λP_ N=>?_;obtain⟨o,m,e⟩:=Wt.mp p;obtain⟨x,rfl,S⟩:=R o m;cases e;refine N ?_;exact⟨_,rfl,S⟩) λG Ma U=>?_))
 have hfl:(j.filterMap id).length=j.length:=by
  have:∀l:List (V9),(∀o∈l,∃x,o=Y x)->(l.filterMap id).length=l.length:=λl=>by
   induction l with
   |nil=>intro _;rfl
   |cons o l ih =>
    intro h;obtain⟨x,rfl⟩:=h o Zv;simp[ih λo m=>h o (Zx _ m)]
  exact this j λo m=>let ⟨x,e,_⟩:=R o m;⟨x,e⟩
 cases G with
 |nil=>simp at Ma;lia
 |cons Z G =>
  have e0:=U Z Zv;subst e0;have e1:(Value.type r :: G).toArray[0]?=Y (Value.type r):=rfl;rw[e1];dsimp only;rw[Zp (by
   rw[List.all_toArray,Mz];intro y hy;rw[U y hy];simp)]
  refine Zk (Zk ?_);simp only[Option.any_some,Mu];exact q
def GT(h:XAA)(b:List Bool)(x:Pv):Prop:=∃a,hJ h x.1 a/\a.map kind=b
open Classical in
def rT(h:XAA)(x y:Pv):Bool:=decide (∃b a,hJ h x.1 b/\hJ h y.1 a/\dZ b a=M)
open Classical in
def oC{x y:Pv}(f:hJ h x.1 b)(d:hJ h y.1 a):rT h x y=dZ b a:=by
 unfold rT;cases e:dZ b a with
 |true=>exact decide_eq_true ⟨b,a,f,d,e⟩
 |false =>
  refine ZS λ⟨m,l,j,i,g⟩=>?_;rw[j.fn f,i.fn d,e]at g;cases g
def DT{s:KB}(n:∀v d,hJ h v d->hJ s.heap v d):LM prog w A E s (tuples' f) (GT h o) (rT h):=by
 refine⟨?_,?_,?_⟩
 ·rintro st x y Q g ⟨d,b,ex⟩ ⟨l,a,e⟩ q;rw[lt'_eq];refine ZU (Vg ?_);rw[g];rw[oC b a]at q;exact ZU (wpS_lift (wpAny_attempt (Gu (n _ _ b) (n _ _ a) (ex.trans e.symm) ⟨rfl,ZV q⟩)))
 ·rintro x y ⟨d,b,_⟩ ⟨l,a,_⟩ q;rw[oC b a]at q;rw[oC a b];exact ma q
 ·rintro x y z ⟨d,b,ex⟩ ⟨l,a,e⟩ ⟨r,m,p⟩ j i;rw[oC a b]at j;rw[oC m a]at i;rw[oC m b];exact rE (ex.trans e.symm) (e.trans p.symm) j i
end TS
end
section
namespace ST
open PySem PySem.Spec PyProof.Rows
noncomputable abbrev dO(a:Array DictEntry)(b:Nat):Obj:={ cls:=.type "dict",data:=.dict a b }
noncomputable abbrev kO(d:On)(i n a:Nat):Obj:={ cls:=.type "dict_keyiterator",data:=.fields #[.ref d,.int i 0,.int n 0,.int a 0] }
def BE{s:KB}(f:(d==sysModules)=B)(a:s.heap.get? d=Y (dO b e))(q:Q (.ref s.heap.objs.size) { s with heap:=s.heap.push (kO d 0 b.size e) }) :
  Pi (KF prog w) A (pyIter (.ref d)) Q E s:=by
 have ty:s.TypeIs (.ref d) "dict" := ⟨_,a,rfl⟩
 refine wpAny_pyIter_slot ty F.slot_dict_iter (WO F.slot_dict_iter ty F.entry_dict_iter (?_) (F.args_dict_iter_1 _));unfold Builtin.«dict.__iter__» Builtin.Dict.dictSlotNone Builtin.Dict.showsAll;refine Zr (Zr (wpAny_notOrdered_dict ty (Zk (Zr (Zk ?_)))));rw[Zo (by rw[f];exact Zh)];exact Zr (Zk (Zr (wpAny_dictEntries a L (Zr (wpAny_dictEpoch a L (Zr (Vn (Zk ⟨_,rfl, "dict_keyiterator",_,⟨_,ZK _ L,rfl⟩,X0.lookup,q⟩))))))))
def uO{A:SC}{s:KB}{h:Array DictEntry}(u:A.handled=J)(l:s.heap.get? I=Y (kO d i h.size m))(n:s.heap.get? d=Y (dO h m))(z:∀e,h[i]?=Y e->∀a,Heap.SameBut I s.heap a->a.get? I=Y (kO d (i+1) h.size m)->Q (Y e.key) { s with heap:=a })(y:h[i]?=J->∀a,(∀b o,b≠I->s.heap.get? b=Y o->a.get? b=Y o)->Q J { s with heap:=a }):Pi (KF prog w) A (pyNext (.ref I)) Q E s:=by
 have ty:s.TypeIs (.ref I) "dict_keyiterator" := ⟨_,l,rfl⟩
 refine Zr (wpAny_attempt (wpAny_callSpecial?_slot ty X0 (WO X0 ty F.entry_dict_keyiterator_next (Xw
  (Q:=λf j=>∃v,f=.done (.ret v)/\Q (Y v) j) (E:=λe j=>∃x,e=.ref x/\(∃o,j.heap.get? x=Y o/\o.cls=.type "StopIteration")/\Q J j) ?_ (λf j ⟨v,e,q⟩=>⟨v,e,Zk q⟩) λe j ⟨x,e1,⟨o,g,c⟩,q⟩=>?_) (F.args_dict_keyiterator_next_1 _))))
 ·refine Zr (Zk (Zr (Zr (Zr (WI ty (Zk (Zr (wpAny_fieldsOf l L ?_))))))));have own:Builtin.Dict_items.ownsTuple "dict_keyiterator" = B:=rfl;refine(show Pi _ _ (if (Value.ref d==Value.none)=M then _ else _) _ _ s from ?_);rw[Zo (λe:(Value.ref d==Value.none)=true=>Zh e)];refine Zr (Zk (Zr (wpAny_dictEntries n L ?_)));rw[Zo (by simp)];refine Zr (Zk (Zr (wpAny_dictEpoch n L ?_)));rw[Zo (by simp)];refine Zk ?_;simp only[show ¬((i:Int)<0) from by lia,↓reduceIte,Y7];cases he:h[i]? with
  |some e =>
   have p:(s.heap.update I (Obj.mapFields (·.setIfInBounds 1 (rawInt ((i:Int)+1))))).get? I=Y (kO d (i+1) h.size m):=WQ _ l L;refine Zr (Zr (WI ty (Zk (Zr (wpAny_isOneOf_keyiter ty ?_)))));refine(Zr (wpAny_setField l L (by show 1<4;decide) (Zr (Y2 ?_))));refine Zr (wpAny_isOneOf_keyiter ⟨_,p,rfl⟩ ?_);refine(Zk (Zk ⟨_,rfl,z e he _ (W5 ..) p⟩))
  |none =>
   refine Zr (Zr (WI ty (Zk ?_)));refine(Zr (wpAny_setField l L (by show 0<4;decide) (Jk u λa x kp r=>⟨x,rfl,r,y he a λb o hb e=>kp b o ?_⟩)));rw[VW _ _ (Y4 hb)];exact e
 ·subst e1;exact Zr (wpAny_isInstance ⟨o,g,c⟩ isSubtype_stop (Zk q))
end ST
end
section
namespace L2
open PySem PySem.Spec PyProof.Rows TS
section
theorem Bg:∀{b:List Key}{a:Vz},aP (b.map kV) a->Mj b a
 |[],[],_=>.nil
 |k :: b,v :: a,h=>by
  cases h with
  |cons r q =>
   refine .cons ?_ (Bg q);cases k with
   |inl i=>exact r
   |inr x=>exact r
def wA{b:List Key}(d:LA P w H h)(e:H a=Y (.tup (b.map kV))):hJ h (.ref a) b:=by
 obtain⟨_,f,r,_,o,j,i,n,g⟩:=(d a _ e)
 exact⟨a,o,f.toArray,n,rfl,j,i,g,Bg r⟩
def hJ.kept{h d:XAA}(k:∀b o,h.get? b=Y o->d.get? b=Y o)(x:hJ h v a):hJ d v a:=by
 obtain⟨b,o,items,n,e,g,r⟩:=x;exact⟨b,o,items,n,e,k _ _ g,r⟩
inductive At(H:Hp):List (List Key)->W9->Prop where
 |nil:At H [] []
 |cons {k:List Key} {a:On} {ks:List (List Key)} {as:W9}:H a=some (.tup (k.map kV))->At H ks as->At H (k :: ks) (a :: as)
theorem At.get:∀{b:List (List Key)}{d:W9},At H b d->∀(i:Nat){a:On},d[i]?=Y a->∃k,b[i]?=Y k/\H a=Y (.tup (k.map kV))
 |_,_,.nil,i,a,e=>by simp at e
 |_,_,.cons h q,0,a,e=>by cases e;exact⟨_,rfl,h⟩
 |_,_,.cons h q,i+1,a,e=>by
  obtain⟨k,g,f⟩:=q.get i (by simpa using e);exact⟨k,by simpa using g,f⟩
def At.len(h:At H a b):a.length=b.length:=by
 induction h with
 |nil=>rfl
 |cons _ _ d=>simp[d]
def At.mem(h:At H b d)(g:a∈d):∃k∈b,H a=Y (.tup (k.map kV)):=by
 obtain⟨i,f,e⟩:=Yf g;obtain⟨k,l,j⟩:=h.get i (by rw[Zq f,e]);exact⟨k,Yr l,j⟩
def At.keep(k:∀a b,H a=Y (.tup b)->g a=Y (.tup b))(h:At H d f):At g d f:=by
 induction h with
 |nil=>exact .nil
 |cons e _ i=>exact .cons (k _ _ e) i
def At.perm{m:W9}(p:m.Perm j):∀{a:List (List Key)},At H a j->∃b,At H b m/\b.Perm a:=by
 induction p with
 |nil=>intro a h;cases h;exact⟨[],.nil,XY _⟩
 |cons x _ r =>
  intro a h;cases h with
  |cons e q =>
   obtain⟨b,i,g⟩:=r q;exact⟨_,.cons e i,g.cons _⟩
 |swap x y l =>
  intro a h;cases h with
  |cons e q =>
   cases q with
   |cons v n=>exact⟨_,.cons v (.cons e n),List.Perm.swap _ _ _⟩
 |trans _ _ f d =>
  intro a h;obtain⟨b,i,g⟩:=d h;obtain⟨o,u,s⟩:=f i;exact⟨o,u,s.trans g⟩
theorem qm:∀(b:W9),aP (b.map V.ref) (b.map Value.ref)
 |[]=>.nil
 |a :: b=>.cons L (qm b)
def DX:∀{b:Vz}{bs:W9},b.Perm (bs.map Value.ref)->∃g:W9,b=g.map Value.ref/\g.Perm bs:=by
 intro b bs p;have h:∀v∈b,∃a,v=Value.ref a:=λv d=>by
  obtain⟨a,_,e⟩:=ZC.mp (p.mem_iff.mp d);exact⟨a,e.symm⟩
 let f:PP->Addr:=λv=>match v with | .ref a=>a | _=>0
 refine⟨b.map f,(by
  rw[LU]
  conv=>lhs;rw[← W4 b]
  refine Xr λv d=>?_;obtain⟨a,rfl⟩:=h v d;rfl),?_⟩
 have:=p.map f;rw[LU]at this;have e:(f ∘ Value.ref)=id:=rfl;rw[e,W4]at this;exact this
end
section
def wj{b:List Key}(f:LA P w H h)(e:H a=Y (.tup (b.map kV)))(m:SB)(d:XAB):(tupleKind (aS m d)).is h b a:=by
 obtain⟨_,g,r,_,o,l,j,n,i⟩:=(f a _ e)
 refine⟨o,g.toArray,n,l,j,i,?_⟩;simpa using lZ r
noncomputable def QM(k:List Key)(a:List (List Key)):Bool:=a.any λz=>decide (z=k)
def Jg(b:Bool):R2:=λx y H Q=>∃(a p:On)(k:List Key)(d:List (List Key))(e:W9),x=.ref a/\y=.ref p/\H a=Y (.tup (k.map kV))/\H p=Y (.lst (e.map V.ref))/\At H d e/\Q (.bl (b != QM k d)) H
open Classical in
def CP{X:Cx}(G:X.A.units+1<cLine){k:List Key}{d:W9}(I:Inv X j O H s)(N:H a=Y (.tup (k.map kV)))(L:H p=Y (.lst (d.map V.ref)))(C:At H g d) :
  ∃(f:Array PP)(e:PP->Bool),s.heap.IsList p f/\(∀w∈f,SeqAt.EqAt X.A.in1 s w (.ref a) (e w))/\f.any e=QM k g:=by
 obtain⟨f,D,F,R⟩:=I.list (Kt.of L);have m:f=d.map Value.ref:=by
  have:∀{d:W9}{f:Vz},aP (d.map V.ref) f->f=d.map Value.ref:=λ{d}=>by
   induction d with
   |nil=>intro f h;cases h;rfl
   |cons b d n =>
    intro f h;cases h with
    |cons r q=>rw[n q,show _=Value.ref b from r];rfl
  exact this D
 subst m;let e:PP->Bool:=λw=>match w with | .ref b=>decide (H b=some (.tup (k.map kV))) | _=>false
 have he:∀w∈(d.map Value.ref).toArray,SeqAt.EqAt X.A.in1 s w (.ref a) (e w):=λw hw=>by
  have o:w∈d.map Value.ref:=by simpa using hw
  obtain⟨b,hb,rfl⟩:=ZC.mp o;obtain⟨i,_,v⟩:=C.mem hb;intro prog w E Q u;refine(tupleKind (aS prog w)).eqBool (x:=i) (y:=k) (XD G) (wj I.Kd v prog w) (wj I.Kd N prog w) ?_;have:e (.ref b)=decide (i=k):=by
   show decide (H b=Y (.tup (k.map kV)))=_;rw[v];by_cases z:i=k
   ·simp[z]
   ·rw[ZS z];exact ZS λq=>z (rX (by injection q with q;injection q))
  rw[this]at u;exact u
 have l:(d.map Value.ref).toArray.any e=QM k g:=by
  have gen:∀{g:List (List Key)}{d:W9},At H g d->(d.map Value.ref).any e=QM k g:=λh=>by
   induction h with
   |nil=>rfl
   |@cons i b g d P q n =>
    rw[Zm,YK,n];have:e (.ref b)=decide (i=k):=by
     show decide (H b=Y (.tup (k.map kV)))=_;rw[P];by_cases z:i=k
     ·simp[z]
     ·rw[ZS z];exact ZS λq=>z (rX (by injection q with q;injection q))
    rw[this];unfold QM;rw[YK]
  simpa using gen C
 exact⟨_,e,F.isList,he,l⟩
def t8{X:Cx}(i:X.A.units+1<cLine):OpR X (UV .NotIn) (Jg M):=by
 intro b s O H x y v u Q I f d h;refine L2.ai λD g=>?_;obtain⟨a,p,k,w,C,rfl,rfl,l,j,r,q⟩:=h;cases f;cases d;obtain⟨z,e,o,n,m⟩:=CP i I l j r;refine g ?_;refine SeqAt.notIn_listAt e o n ⟨.bl _,H,I,rfl,?_⟩;rw[m];simpa using q
end
end L2
end
section
namespace VS
open PySem PySem.Spec PyProof.Rows L2 TS
section
def kT(k:List Key):T:=.tup (k.map aK)
theorem tW:∀(k k':List Key),oJ (k'.map aK) (k.map aK)=M↔k'=k
 |[],[]=>by simp[oJ]
 |[],_ :: _=>by simp[oJ]
 |_ :: _,[]=>by simp[oJ]
 |a :: k,b :: k'=>by
  simp only[Zm,oJ,Yj,tW k k',jD,Wx]
def G3(k d:List Key):eqT (kT d) (kT k)=M↔d=k:=by
 exact tW k d
def xU(k d:List Key):eqT (kT d) (kT k)=decide (d=k):=by rw[Ww,decide_eq_true_eq];exact G3 k d
def yJ:T->Bool
 |.tup l=>l.all iu
 |_=>B
theorem t9:∀{f:List V}{l:Ut}{i:Yx},RpL G H f l i->l.all iu=M->∃d:List Key,f=d.map kV/\l=d.map aK
 |_,_,_,.nil,_=>⟨[],rfl,rfl⟩
 |_,_,_,.cons r q,h=>by
  rw[Xe,Yj]at h;obtain⟨k,rfl,e⟩:=dg r h.1;obtain⟨d,rfl,g⟩:=t9 q h.2;exact⟨k :: d,rfl,by rw[e,g];rfl⟩
def q9(r:Rp G H v t F)(h:yJ t=M):∃(a:On)(d:List Key),v=.ref a/\t=kT d/\H a=Y (.tup (d.map kV)):=by
 cases t with
 |tup l =>
  obtain⟨a,i,j,rfl,_,g,f⟩:=r.Lr;obtain⟨d,rfl,rfl⟩:=t9 f h;exact⟨a,d,rfl,rfl,g⟩
 |_=>cases h
theorem pY:∀{g:List V}{l:Ut}{n:Yx},RpL G H g l n->l.all yJ=M->∃(f:W9)(d:List (List Key)),g=f.map V.ref/\l=d.map kT/\At H d f
 |_,_,_,.nil,_=>⟨[],[],rfl,rfl,.nil⟩
 |_,_,_,.cons r q,h=>by
  rw[Xe,Yj]at h;obtain⟨a,k,rfl,e,i⟩:=q9 r h.1;obtain⟨f,d,rfl,j,m⟩:=pY q h.2;exact⟨a :: f,k :: d,rfl,by rw[e,j];rfl,.cons i m⟩
def BH(r:Rp G H v (.dct 1 l) F):∃(a:On)(f:List (List Key))(d:List V)(g:Ut)(i:Yx),v=.ref a/\F=a :: i.flatten/\H a=Y (.dT (f.zip d))/\f.length=d.length/\l=(f.map kT).zip g/\RpL G H d g i:=by
 cases r with
 |dctT h j q=>exact⟨_,_,_,_,_,rfl,rfl,h,j,rfl,q⟩
theorem pb{k:List Key}:∀{ks:List (List Key)}{vs:List V}{ts:Ut},ks.length=vs.length->ks.length=ts.length->(eA ((ks.map kT).zip ts) (kT k)).isSome=(eW (ks.zip vs) k).isSome
 |[],_,_,_,_=>by simp[eA,eW]
 |k' :: ks,v :: vs,t :: ts,f,d=>by
  unfold eA eW at *;rw[Zm,ZJ,ZJ,Yh,Yh];rw[(xU k k')];cases decide (k'=k) with
  |true=>rfl
  |false=>exact(pb (k:=k) (ks:=ks) (vs:=vs) (ts:=ts) (by simpa using f) (by simpa using d))
 |_ :: _,[],_,h,_=>by simp at h
 |_ :: _,_ :: _,[],_,h=>by simp at h
@[simp] def C1(x y:Val):Uu:=match y.2 with
 |.dct 1 l=>if yJ x.2 then Y (.fr,.bl (eA l x.2).isSome) else J
 |.lst l=>if yJ x.2&&l.all yJ then Y (.fr,.bl (l.any λz=>eqT z x.2)) else J
 |_=>J
@[simp] def iB(x y:Val):Uu:=match C1 x y with
 |some (_,.bl b)=>Y (.fr,.bl (!b))
 |_=>J
def I0(d:Bool):R2:=λx y H Q=>Jg d x y H Q\/∃a o,y=.ref a/\fK H a x o/\Q (.bl (d != o.isSome)) H
theorem zP(k:List Key):∀d:List (List Key),(d.map kT).any (λz=>eqT z (kT k))=QM k d
 |[]=>rfl
 |a :: d=>by
  unfold QM;rw[Zm,YK,zP k d,xU,YK];rfl
def yd{L:W9}(g:SK G Z U D H x y u w L F)(e:C1 x y=Y (m,t)) :
  ∃b,m=.fr/\t=.bl b/\((∃a p k d i,u=.ref a/\w=.ref p/\H a=Y (.tup (k.map kV))/\H p=Y (.lst (i.map V.ref))/\At H d i/\QM k d=b)\/∃a o,w=.ref a/\fK H a u o/\o.isSome=b):=by
 obtain⟨O,y⟩:=y;simp only[C1]at e;split at e
 ·split at e
  ·rename_i f;refine L2.ai λA j=>?_;cases e;obtain⟨a,d,n,N,E,rfl,rfl,z,r,rfl,q⟩:=BH g.r2;obtain⟨b,h,rfl,l,hb⟩:=q9 g.r1 f;refine j ?_;refine⟨_,rfl,rfl,.inr ⟨a,eW (d.zip n) h,rfl,fK.t z hb,?_⟩⟩;rw[l];exact(pb r (r.trans q.len.1)).symm
  ·cases e
 ·split at e
  ·rename_i f;refine L2.ai λA j=>?_;cases e;rw[Yj]at f;obtain⟨p,n,E,rfl,rfl,v,s⟩:=g.r2.lst_inv;obtain⟨b,h,rfl,l,hb⟩:=q9 g.r1 f.1;obtain⟨i,d,rfl,rfl,C⟩:=pY s f.2;refine j ?_;refine⟨_,rfl,rfl,.inl ⟨b,p,h,d,i,rfl,rfl,hb,v,C,?_⟩⟩;rw[l];exact(zP h d).symm
  ·cases e
 ·cases e
def Eb:eT G (I0 M) iB:=by
 intro Z U D H x y u w F E m t Q f e k;unfold iB at e;split at e
 ·rename_i C d v;cases e;obtain⟨b,rfl,A,h⟩:=yd f v;cases A;rcases h with⟨a,p,j,i,z,s,r,q,n,l,hb⟩ | ⟨a,o,rfl,g,hb⟩
  ·refine .inl ⟨a,p,j,i,z,s,r,q,n,l,?_⟩;rw[hb,show (M != d)=!d by cases d<;>rfl];exact bE k (.bl (!d))
  ·refine .inr ⟨a,o,rfl,g,?_⟩;rw[hb,show (M != d)=!d by cases d<;>rfl];exact bE k (.bl (!d))
 ·cases e
def vQ:Tells iB:=by
 intro x y m t e;unfold iB at e;split at e
 ·cases e;exact⟨_,rfl⟩
 ·cases e
def Ew{X:Cx}(f:X.A.units+1<cLine):OpR X (UV .NotIn) (I0 M):=(t8 f).or λd s O H x y v u Q I i h ⟨a,o,e,g,q⟩=>uf f d s O H x y v u Q I i h ⟨a,o,e,g,by simpa using q⟩
end
end VS
namespace VS
open PySem PySem.Spec PyProof.Rows L2
def ES{i:Int}:PV G X (.UnaryOp .USub (.Constant (.int i) j p) a) (Q3 (-i)) :=
 PE.weak (HU FQ qJ) λO H Q b=>by
  obtain⟨Z,U,m,t,s,e,k⟩:=b;cases (e);exact⟨i,rfl,k _ H [] (aO.refl _) (.int _) Fp.nil⟩
end VS
end
section
namespace VS
open PySem PySem.Spec PyProof.Rows L2
def nkI:T->Option Key
 |.int i=>Y (.inl i)
 |.str x=>Y (.inr (sx x))
 |_=>J
def Ru:T->Option (List Key)
 |.tup l=>l.mapM nkI
 |_=>J
def Cv(h:nkI t=Y i):t=aK i:=by cases t<;>simp[nkI]at h<;>subst h<;>rfl
theorem kA{α β:Type}{f:α->Option β}{g:β->α}(h:∀a b,f a=Y b->a=g b):∀{l:List α}{m:List β},l.mapM f=Y m->l=m.map g
 |[],m,e=>by simp at e;subst e;rfl
 |a :: l,m,e=>by
  simp only[List.mapM_cons,Option.pure_def,Option.bind_eq_bind]at e;obtain⟨b,hb,e⟩:=Zz.mp e;obtain⟨bs,d,e⟩:=Zz.mp e;cases e;rw[Zm,← h a b hb,← kA h d]
def xB(h:Ru t=Y k):t=.tup (k.map aK):=by
 cases t with
 |tup l=>exact congrArg T.tup (kA (λa b=>Cv) h)
 |_=>simp[Ru]at h
section
def Rp.Nb(r:Rp G H v (.tup g) F):∃b d f,v=.ref b/\H b=Y (.tup d)/\RpL G H d g f:=by
 obtain⟨a,d,f,j,_,h⟩:=r.inv;exact⟨a,d,f,j,h⟩
end
end VS
end
section
namespace L2
open PySem PySem.Spec PyProof.Rows
section
def zY{o:Obj}(h:o.ExactDict)(e:o.data=.dict a b):o=ST.dO a b:=by
 obtain⟨c,d,l,j⟩:=o;obtain⟨i,g,f⟩:=h;subst i g f e;rfl
end
end L2
end
section
namespace VS
open PySem PySem.Spec PyProof.Rows L2
section
def jo{b:Expr}(s:PV G X a i)(o:PV G X b f)(n:PV G X c d)(l:lastMarks [.LtE,.Lt] [b,c]=B):MA G X (.Compare a [.LtE,.Lt] [b,c] pos) (iA oLe oLt i f d) :=
 PT.weak (ux Gz se s o n l) λO H Q h=>nV h (λU m r e=>by
  obtain⟨x,C,e⟩:=Zz.mp e;obtain⟨y,A,e⟩:=Zz.mp e;obtain⟨⟨u,z⟩,v,e⟩:=Zz.mp e;cases z with
  |bl q =>
   cases q with
   |false=>cases e;exact⟨_,rfl⟩
   |true =>
    obtain⟨j,w,e⟩:=Zz.mp (e);exact kW y j m r e
  |_=>cases e) λQ h=>ug JE xw h
def vf{pos:Pos}(h:PV G X e a)(i:swapsWith e J pos.line X.env=pure B):PSV G X (.Expr e pos) (sX (xP a)) :=
 PS.weak (jz h i) λD O H d=>by
  obtain⟨Z,U,out,s,e,k⟩:=d;obtain⟨⟨v,l⟩,e1,e2⟩:=Zy.mp e;obtain⟨⟨m,t⟩,e3,f⟩:=Zy.mp e1;cases f;cases e2;exact⟨Z,U,m,t,s,e3,λv j F e1 r1 f1=>k Z O j (s.same e1) (Ku.same e1)⟩
@[simp] def uU(i:Nat)(c:Ex)(f:Kx)(U:VS.Env):Option (Val×VS.Env):=match U[i]? with
 |some (some (.ow (.lst l)))=>(c U).bind λd=>(int? d.2).bind λn=>(Ll l.length n).bind λj=>(l[j]?).bind λx=>(f U).bind λa=>(aJ x a).map λz=>(z.2,U.set i (Y (.ow (.lst (l.set j z.1)))))
 |_=>J
def G6{X:Cx}{pos apos:Pos}(i:Nat)(hN:X.N[i]?=Y x)(hv:M7 X.env.scope x)(hd:K3 x)(r:K4 x)(hb:PV G X b cb)(q:fX b)(ha:Lv G X [e] cs)(hK:X.K=G.K)(Kv:XAC (.Subscript (.Name x p1) b p2) "append" X.env (eval (.Subscript (.Name x p1) b p2) X.env)=eval (.Subscript (.Name x p1) b p2) X.env)(K5:((backTo oe (P3 [e] X.env)).all (λx=>!x.1)&&(backToKw oe (SZ [] X.env)).all (λx=>x.1.isSome)
   && decide ([e].length+([]:List Keyword).length+(if ([]:List Keyword).isEmpty then 0 else 1)<30))=M)(Kr:(apos.endLine==oe.line)=M)(hs:K1 e [] X)(Kl:(backTo oe (P3 [] X.env)).any (·.1)=B)(MU:swapsWith (.Call (.Attribute (.Subscript (.Name x p1) b p2) "append" apos) [e] [] oe) J pos.line X.env=pure B) :
  PSV G X (.Expr (.Call (.Attribute (.Subscript (.Name x p1) b p2) "append" apos) [e] [] oe) pos) (sX (uU i cb cs)) :=
 PS.weak (jz (qk Wq Wy Wz iw (mO wt (fh hN hv hd r) hb q) ha Kv K5 Kr hs Kl) MU) λD O H hq=>by
  refine L2.ai λR d=>?_;obtain⟨Z,U,out,s,e,k⟩:=hq;unfold sX uU at e;obtain⟨⟨y',U'⟩,e1,e2⟩:=Zy.mp e;refine d ?_;split at e1
  ·rename_i l0 o;refine L2.ai λR d=>?_;obtain⟨⟨mk,tk⟩,O5,e3⟩:=Zz.mp e1;obtain⟨n,P,e3⟩:=Zz.mp e3;obtain⟨j,h1,e3⟩:=Zz.mp e3;obtain⟨x0,h2,e3⟩:=Zz.mp e3;obtain⟨l,el,e3⟩:=Zz.mp e3;obtain⟨⟨x3,y3⟩,z,e6⟩:=Zy.mp e3;cases e6;cases e2;refine d ?_;cases tk with
   |int n0 =>
    refine L2.ai λR d=>?_;cases (P);obtain⟨v,L,g2⟩:=s.rp _ _ o;have nd:=s.nd i _ o;obtain⟨a,vs,Fs,rfl,Q,f,m⟩:=g2.lst_inv;obtain⟨u,Fj,E,C,A⟩:=m.get j h2;refine d ?_;rw[Q]at nd;refine⟨.ref a,L,Z,U,mk,_,s,O5,λy H1 F1 h r1 f1=>?_⟩;refine⟨a,vs,_,u,rfl,r1.int_inv,Kt.of (h a _ f),jt (by rw[m.len.1];exact h1) E,by rw[hK];exact je (A.same h) z,Z,U,l,s.same h,el,λUL H4 w q1 q2 F=>?_⟩;refine mh Z U H H4 u x0 x3 Fj l UL w y3 _ A (((ZY.mp nd).2).sublist (b6 C)) ⟨h.trans q1,q2,⟨λn v' S a1 a2=>(F.each n v' S a1 a2).back h,F.nd⟩⟩ z λu' H5 S g=>?_;obtain⟨s1,s2,s3,s4,s5⟩:=nq f m nd E C g;obtain⟨z1,z2⟩:=s.mut o L (by
     rw[Q];exact⟨g.kept,s5,g.Kw,.lst s1 s2,s3,s4⟩)
    exact k _ O H5 z1 z2
   |_=>cases P
  ·cases e1
end
section
def Ac{j pos'}(g:PV G X a ca):MA G X (.Compare a [.Is] [.Constant .none j pos'] pos) (HH ca) :=
 PT.weak (zr (Gp g)) λO H Q h=>Fe h (λU m r e=>by
  obtain⟨x,_,e⟩:=Zz.mp e;cases e;exact⟨_,rfl⟩) λQ f=>by
   obtain⟨Z,U,m,r,s,e,q⟩:=f;obtain⟨⟨n,x⟩,i,e⟩:=Zz.mp e;cases e;refine⟨Z,U,n,x,s,i,λv d F e1 r1 f1=>?_⟩;show Q (.bl (decide (v=.non))) d;rw[xf r1];exact q _ d _ e1 (.bl _) Fp.nil
def kj{j pos'}(g:PV G X a ca):MA G X (.Compare a [.IsNot] [.Constant .none j pos'] pos) (fP ca) :=
 PT.weak (zr (DH g)) λO H Q h=>Fe h (λU m r e=>by
  obtain⟨x,_,e⟩:=Zz.mp e;cases e;exact⟨_,rfl⟩) λQ f=>by
   obtain⟨Z,U,m,r,s,e,q⟩:=f;obtain⟨⟨n,x⟩,i,e⟩:=Zz.mp e;cases e;refine⟨Z,U,n,x,s,i,λv d F e1 r1 f1=>?_⟩;show Q (.bl (!decide (v=.non))) d;rw[xf r1];exact q _ d _ e1 (.bl _) Fp.nil
def wb(i:Nat)(k e:Ex)(U:VS.Env):Option Out:=(e U).bind λv=>match U[i]? with
 |some (some (.ow (.dct 0 l)))=>(k U).bind λd=>if iu d.2/\Kh v.2/\l.length<fI then Y (.nx (U.set i (Y (.ow (.dct 0 (dput l d.2 v.2)))))) else J
 |_=>J
def FY{X:Cx}{pos:Pos}(i:Nat)(hr:p0 kr X.A)(hk:PV G X b ck)(he:PV G X e ce)(hN:X.N[i]?=Y x)(hv:M7 X.env.scope x)(hd:K3 x)(n:K4 x)(ha:∀v,assign (.Subscript (.Name x p1) b pos') X.env v=(do
   let h ← holding [v] (eval (.Name x p1) X.env)
   let iv ← holding [v,h] (eval b X.env)
   standAt pos'
   holding [v,h,iv] (setItem h iv v)
   release [v,h,iv] []))(hs:swapsWithSole [.Subscript (.Name x p1) b pos'] e pos.line X.env=pure B)(hw:swappedStores [.Subscript (.Name x p1) b pos'] e X.env=pure J)(h1:(assignEach [.Subscript (.Name x p1) b pos'] X.env).map (·.2)=[assign (.Subscript (.Name x p1) b pos') X.env]):PSV G X (.Assign [.Subscript (.Name x p1) b pos'] e pos) (wb i ck ce) :=
 PS.weak (vP he (vU (fh hN hv hd n) hk (zi (jL hr)) ha) hs hw h1) λD O H hq=>by
  obtain⟨Z,U,out,s,e,k⟩:=hq;obtain⟨⟨mv,p⟩,ev,e⟩:=Zz.mp e;split at e
  ·rename_i l m;obtain⟨⟨mk,tk⟩,O5,e⟩:=Zz.mp e;split at e
   ·rename_i hc;obtain⟨c1,c2,c3⟩:=hc;cases e;obtain⟨w,C,w2⟩:=s.rp _ _ m;have o:=s.nd i _ m;refine⟨Z,U,mv,p,s,ev,λxv H1 Fv P rv fv=>⟨w,C,Z,U,mk,tk,s.same P,O5,λkv Q Fk L rk fk=>?_⟩⟩;have j:=P.trans L;have E:=rv.same L;have eF:=E.Kh c2;refine L2.ai λP_ k_=>?_;subst eF;obtain⟨a,ns,vs,q,Fs,rfl,d,Kq,hl,rfl,r⟩:=fj w2;rw[d]at o;obtain⟨y,rfl,O0⟩:=dg rk c1;subst O0;have F:=j a _ Kq;have u:Kn (Q a):=by rw[F];exact True.intro
    have nd:=ZY.mp o;obtain⟨NX,Ml,LC,Mg,q1,q2,q3,q4,f⟩:=rz E hl (r.same j);refine k_ ?_;refine .inr ⟨a,_,rfl,vv.k F (by
     have:((ns.map aK).zip q).length<16777216:=c3;rw[YL,Zw]at this;rw[YL];have:=r.len.1;have:(KM:Nat)=16777216:=rfl;lia),?_⟩
    have g:Chg G H (.ref a) (Z i) (.dct 0 (dput ((ns.map aK).zip q) (aK y) p)) (upd Q a (.dK (putK (ns.zip vs) y xv))) (a :: Mg.flatten):=by
     rw[d,q1,q3];refine Chg.upd j Zv u (.dct aw q2 (q4.off u λz=>nd.1 (f.subset z))) ?_ ?_
     ·exact ZY.mpr ⟨λz=>nd.1 (f.subset z),nd.2.sublist f⟩
     ·intro bb hb;rcases Zi.mp hb with rfl | hb
      ·exact .inl Zv
      ·exact .inl (Zx _ (f.subset hb))
    obtain⟨S,R⟩:=s.mut m C g;exact k _ O _ S R
   ·cases e
  ·cases e
end
end VS
end
section
namespace DP
open PySem PySem.Spec PyProof.Rows
def CS:typeLookup (.type "tuple") "keys" = pure J:=by rw[typeLookup_type,builtinLookup_eq_fast];kernel_rfl
def DW{A:SC}{h:XAA}{os}(l:h.get? a=Y { cls:=.type "tuple",dict:=J,data:=.seq i k,slots:=j })(q:A.handled=J)(p:∀f b e,Heap.NewExcOf h f e "AttributeError" → E (.ref e) ⟨f,g,d,b,os⟩):Pi (KF prog w) A (getAttrBy (.ref a) (.str "keys" u) B) Q E ⟨h,g,d,o,os⟩:=by
 have m:∀b,(⟨h,g,d,b,os⟩:KB).TypeIs (.ref a) "tuple" := λ_=>⟨_,l,rfl⟩
 have f1:=sub_AttributeError;have x:=Vo.lookup;have v:=Vo.bind (.ref a);have f5:=am_tuple_getattr_none
 repeat (any_goals (first | assumption | exact m _ | ((with_reducible show Pi _ _ (call (Value.builtin "tuple.__getattribute__") _ _) _ _ _);refine call_meets Vo (m _) am_entry_tuple_getattribute (F.args_tuple_getattribute_2 _ _) (meets_getattribute_miss_tuple a i k j "keys" _ CS (by decide +kernel)) ⟨l,q,λf b e n=>?_⟩) | wp_step))
 obtain⟨s,r,he⟩:=n.there;unfold getattributeRaised
 repeat (any_goals (first | assumption | wp_step))
 exact p _ _ _ n.of
end DP
end
section
namespace DP
open PySem PySem.Spec PyProof.Rows L2
def yQ{A:SC}{h:XAA}{os}(o:h.get? a=Y { cls:=.type "tuple",dict:=J,data:=.seq j k,slots:=m })(s:A.handled=J)(p:∀b i e,Heap.NewExcOf h b e "AttributeError" → Q J ⟨b,g,d,i,os⟩):Pi (KF prog w) A (getAttr? (.ref a) "keys") Q E ⟨h,g,d,l,os⟩:=by
 have f1:=sub_AttributeError
 repeat (any_goals (first | assumption | (with_reducible refine DW o (by assumption) λb i e f=>?_) | wp_step))
 obtain⟨⟨oc,r,n,u⟩,q,ge,ce,_,_⟩:=f.there;dsimp only at ce;subst ce
 repeat (any_goals (first | assumption | wp_step))
 exact p _ _ _ f
def oH:entryFor table "dict.update.loop" = Y Builtin.«dict.update.loop» := entryFor_of_tree (by kernel_rfl)
def iF:plainId "dict.update.loop" = M:=by decide +kernel
section
theorem loop{prog:SB}{w:XAB}{A:SC}{R:Result->KB->Prop}{I:On}{fp wr:W9}{G:Array GenState->Array GenState->Prop}{n:Nat}{P:Nat->PP->Prop}{St:Nat->KB->Prop}(W:WalksS prog w A.in1 I fp wr G n P St)(d:On)(QT:d∉fp)(h0:XAA)(a:Nat->Key×PP)(hP:∀i v,P i v->∃p m sl C,v=.ref p/\h0.get? p=Y { cls:=.type "tuple",dict:=J,data:=.seq #[C,(a i).2] m,slots:=sl }/\(aS prog w).is (a i).1 C=M/\p∉d :: wr)(f:n<=KM) :
  ∀(k i:Nat)(s:KB),n-i=k->i<=n->St i s->(∀b o,b∉d :: wr->h0.get? b=Y o->s.heap.get? b=Y o)->s.heap.DictOf (aS prog w) d (merged [] ((List.range i).map a)) →
   (∀g,Moved (d :: wr) G s g->g.heap.DictOf (aS prog w) d (merged [] ((List.range n).map a))->R (.ok (.ret .none)) g) →
   codeAny (KF prog w) A (.builtin "dict.update.loop" ⟨[.ref d,.ref I,rawInt i,.none],[]⟩) R s:=by
 have x:=λh=>QT (W.sub _ h);have D:∀b∈wr,b∈d :: wr:=λb f=>Zx _ f;intro k
 induction k with
 |zero =>
  intro i s hk hi Mn N O S;have L7:i=n:=by lia
  subst L7;refine XB oH ?_;rw[XW iF _];refine Zr (W.done s _ _ Mn λg j=>?_);refine Zr (Zk ?_);exact Zk (S g (j.mono D) (by
   obtain⟨o,X,Z,H,rest⟩:=O;exact⟨o,X,Z,j.heap d _ x H,rest⟩))
 |succ k ih =>
  intro i s hk hi Mn N O S;have Lp:i<n:=by omega
  refine XB oH ?_;rw[XW iF _];refine Zr (W.item i s _ _ Lp Mn λv g U l j=>?_);refine L2.ai λP_ k_=>?_;obtain⟨p,m,sl,C,rfl,hp,L,q⟩:=hP i v U;refine k_ ?_;have WH:=j.heap p _ (λz=>q (D p z)) (N p _ q hp);refine Zr (Y2 ?_);refine Zr (thn (Q:=λr F=>r=[C,(a i).2]/\F=g) ?pair λr F hr=>?rest)
  case pair =>
   refine wpAny_tryCatch ?_
   repeat (any_goals (first | assumption | wp_step))
   exact⟨rfl,rfl⟩
  case rest =>
   obtain⟨rfl,rfl⟩:=hr;refine Y2 ?_;refine wpAny_dictSet_pairs L (by
   obtain⟨o,X,Z,H,rest⟩:=O;exact⟨o,X,Z,j.heap d _ x H,rest⟩) (λh' dd sb=>?_) (by have:=merged_length_le [] ((List.range i).map a);simp at this;lia)
   have e1:((i:Int)+1)=((i+1:Nat):Int):=by lia
   rw[e1];refine Zk ⟨Vk iF _,ih (i+1) _ (by omega) Lp (W.frame _ F _ _ l (W0 _) λb f o e=>?_) (λb o f e=>?_) (by
    rw[List.range_succ,Yy,show merged ([]:List (Key×PP)) ((List.range i).map a++[i].map a)=stored (merged [] ((List.range i).map a)) (a i).1 (a i).2 by unfold merged;rw[List.foldl_append];rfl];exact dd) λS9 u y=>?_⟩
   ·rw[sb.2 b (λh:b=d=>QT (by rw[← h];exact f))];exact e
   ·rw[sb.2 b (λh:b=d=>f (by rw[h];exact Zv))];exact j.heap b _ (λz=>f (D b z)) (N b o f e)
   ·refine S S9 (Moved.trans W.gtrans ((j.mono D).then_heap (W0 _) λb o f e=>?_) u) y;rw[sb.2 b (λh:b=d=>f (by rw[h];exact Zv))];exact e
end
end DP
end
section
namespace DP
open PySem PySem.Spec PyProof.Rows L2
def uB:mroOf (.type "dict")=pure [.type "dict",.type "object"]:=by rw[mroOf_type];kernel_rfl
def mW:typeLookup (.type "dict") "__new__" = pure (Y (.builtin "dict.__new__")):=by rw[typeLookup_type,builtinLookup_eq_fast];kernel_rfl
def uY:TypeCalled "dict" "dict.__new__" "dict.__init__" :=
 ⟨by decide +kernel,by decide +kernel,⟨_,_,uB⟩,madeBy_type uB mW (by decide +kernel),by decide +kernel,by rw[isSubtype_type];kernel_rfl,F.slot_dict_init⟩
def mY(a:PP):checkTypeCall "dict" ⟨[a],[]⟩=pure ():=by kernel_rfl
def oV(a:PP):checkBuiltinCall "dict.__new__" ⟨[.type "dict",a],[]⟩=pure ():=by kernel_rfl
def o9:entryFor table "dict.__new__" = Y Builtin.«dict.__new__» := entryFor_of_tree (by kernel_rfl)
def i7:plainId "dict.__new__" = M:=by decide +kernel
def pD:isSubtype (.type "dict") (.type "dict")=pure M:=by rw[isSubtype_type];kernel_rfl
def pQ{s:KB}(a:PP)(h:b (.ref s.heap.objs.size) { s with heap:=s.heap.push { cls:=.type "dict",data:=.dict #[] } }) :
  codeAny (KF prog w) A (.call (.builtin "dict.__new__") ⟨[.type "dict",a],[]⟩) (wants b E) s:=by
 refine codeAny_of_tree (Zr (wpAny_of_eq (oV a) (Zk ⟨Vk i7 _,XB o9 ?_⟩)));rw[XW i7];have own:=pD;cases s
 wp_walk
 exact h
def yG{A:SC}{s:KB}{kv:Nat->Key×PP}(O:A.handled=J)(N:s.heap.get? a=Y { cls:=.type "tuple",dict:=J,data:=.seq l H,slots:=y })(hz:l.size<=KM)(hp:∀(i:Nat)(v:PP),l[i]?=Y v->∃p m z x,v=.ref p/\s.heap.get? p=Y { cls:=.type "tuple",dict:=J,data:=.seq #[x,(kv i).2] m,slots:=z }/\(aS prog w).is (kv i).1 x=M)(h:∀(u:XAA)(D:Nat),u.DictOf (aS prog w) s.heap.objs.size (merged [] ((List.range l.size).map kv))->(∀b o,s.heap.get? b=Y o->u.get? b=Y o)->Q (.ref s.heap.objs.size) { s with heap:=u,toks:=D }) :
  Pi (KF prog w) A (call (.type "dict") [.ref a]) Q E s:=by
 refine callType_codes (Q₁:=λobj G=>obj=.ref s.heap.objs.size/\G={ s with heap:=s.heap.push { cls:=.type "dict",data:=.dict #[] } }) uY (mY _) F.entry_dict_init (pQ _ ⟨rfl,rfl⟩) λobj G hq=>?_;obtain⟨rfl,rfl⟩:=hq;refine⟨(⟨_,ZK _ L,rfl⟩),F.args_dict_init_2 _ _,?_⟩;obtain⟨n,g,d,D,os⟩:=s;have R:=Zj { cls:=.type "dict",data:=.dict #[] } N;unfold Builtin.«dict.__init__» Builtin.Dict.updateCommon Builtin.Dict.updateFrom;generalize eP:pyIter=itr;generalize eG:getAttr?=ga
 repeat (any_goals (first | assumption | wp_step))
 subst eG;refine yQ R (by simp[O]) λC U e ne=>?_;refine Zr (wpAny_rule ?_);subst eP;have f:=ZO (ne.keeps n.objs.size { cls:=.type "dict",data:=.dict #[] } (ZK _ L));have j:∀{b:On}{o:Obj},n.get? b=Y o->b<n.objs.size:=λe=>ZO e;have r:∀b o,n.get? b=Y o->C.get? b=Y o:=λb o e=>ne.keeps _ _ (Zj _ e);have tup:C.IsTuple a l:=⟨_,(ne.keeps _ _ R),rfl,H,rfl⟩
 refine Zr (wpAny_pyIter_tuple tup (Zk ⟨Vk iF _,?_⟩));have alt:=j N;refine loop ((Walks.tuple (by simp[O]) C.objs.size a (Za (X4 alt f)) l).toS) n.objs.size (by simp only[Zi,WX,or_false,not_or];exact⟨Za f,Wk alt⟩) n kv (λi v hv=>?_) hz l.size 0 _ (by lia) (ZA _) ?_ (λb o hb e=>Zj _ (r b o e)) (by
  refine L2.ai λP_ Z=>?_;obtain⟨o,es,ep,ho,rest⟩:=(Heap.DictOf.new (knd:=aS prog w) n)
  refine Z ?_;exact⟨o,es,ep,Zj _ (ne.keeps _ _ ho),rest⟩) λX mv dd=>?_
 ·obtain⟨p,m,z,x,rfl,P,g2⟩:=hp i v hv;have:=j P;exact⟨p,m,z,x,rfl,P,g2,by simp only[Zi,WX,or_false,not_or];exact⟨Za this,Za (X4 this f)⟩⟩
 ·exact⟨⟨_,ZK _ L,rfl,rfl⟩,tup.push _⟩
 ·obtain⟨u,g',d',OE,Sq⟩:=X;have e1:g'=g:=mv.gens;have e2:d'=d:=mv.drawn;have e3:=mv.os;subst e1 e2 e3;refine⟨rfl,h u OE dd λb o e=>mv.heap b o (λS=>?_) (Zj _ (r b o e))⟩;have:=j e;simp only[Zi,WX,or_false]at S;rcases S with q | q
  ·exact Za this q
  ·exact Za (X4 this f) q
end DP
end
section
namespace L2
open PySem PySem.Spec PyProof.Rows
section
abbrev Oy:=On×Key×V
def Dn(I:Inv X a O H s){q:Oy}(h:H q.1=Y (.tup [kV q.2.1,q.2.2])):∃b m e d,RelV q.2.2 b/\s.heap.get? q.1=Y { cls:=.type "tuple",dict:=J,data:=.seq #[d,b] m,slots:=e }/\(aS X.prog X.w).is q.2.1 d=M:=by
 refine L2.ai λv j=>?_;obtain⟨_,u,f,nd,⟨oc,r,i,p⟩,g,o,n,l⟩:=(I.Kd _ _ h)
 have hd:=nd _ g;subst o l hd;obtain⟨d,b,rfl,r1,r2⟩:=vals2 f;refine j ?_;exact⟨b,n,p,d,r2,g,mL r1⟩
theorem uh(I:Inv X a O H s):∀(ps:List Oy),(∀q∈ps,H q.1=Y (.tup [kV q.2.1,q.2.2])) →
  ∃f:List (Key×PP),Paired (λ(q:Oy) (d:Key×PP)=>q.2.1=d.1/\RelV q.2.2 d.2/\∃m e b,s.heap.get? q.1=Y { cls:=.type "tuple",dict:=J,data:=.seq #[b,d.2] m,slots:=e }/\(aS X.prog X.w).is d.1 b=M) ps f
 |[],_=>⟨[],.nil⟩
 |q :: ps,h=>by
  refine L2.ai λn j=>?_;obtain⟨i,m,e,b,r,g,k⟩:=Dn I (h q Zv);obtain⟨f,p⟩:=uh I ps λx l=>h x (Zx _ l);refine j ?_;exact⟨(q.2.1,i) :: f,.cons ⟨rfl,r,m,e,b,g,k⟩ p⟩
theorem pS(e:∀q d,R q d->q.2.1=d.1/\RelV q.2.2 d.2):∀{ps:List Oy}{f:List (Key×PP)},Paired R ps f->∀{a:List (Key×V)}{b:List (Key×PP)},KV a b->KV (ps.foldl (λacc q=>putK acc q.2.1 q.2.2) a) (merged b f)
 |_,_,.nil,_,_,r=>r
 |_,_,.cons (a:=q) (b:=d) h t,a,b,r=>by
  obtain⟨e1,e2⟩:=e _ _ h;have:=pS e t (r.put d.1 e2);simp only[Y9,merged];rw[e1];exact this
theorem sZ:∀(ps:List Oy)(a:List (Key×V)),(ps.foldl (λacc q=>putK acc q.2.1 q.2.2) a).length<=a.length+ps.length
 |[],a=>Zn _
 |q :: ps,a=>by
  have d:=sZ ps (putK a q.2.1 q.2.2);have b:=gQ a q.2.1 q.2.2;simp only[Y9,Zf];lia
def Paired.at_{α β:Type}{R:α->β->Prop}:∀{l:List α}{m:List β},Paired R l m->∀(i:Nat){a:α},l[i]?=Y a->∃b,m[i]?=Y b/\R a b:=by
 intro l m p
 induction p with
 |nil=>intro i a h;cases h
 |cons r t d =>
  intro i a h;cases i with
  |zero=>cases h;exact⟨_,rfl,r⟩
  |succ i=>exact d i h
def vV{X:Cx}(N:X.calm=M):dw X (.type "dict") (λj H Q=>∃(p:On)(ps:List Oy),j=[.ref p]/\H p=Y (.tup (ps.map λq=>V.ref q.1))/\(∀q∈ps,H q.1=Y (.tup [kV q.2.1,q.2.2])) ∧
  ∀l,H l=J->Q (.ref l) (upd H l (.dK (ps.foldl (λacc q=>putK acc q.2.1 q.2.2) [])))):=by
 intro r s O H j us Q I C h;refine L2.ai λZ d=>?_;obtain⟨p,ps,rfl,L,G,q⟩:=h;obtain⟨u,rfl,D⟩:=C.one;cases D;obtain⟨y,x,o,nd,⟨oc,od,E,Nt⟩,g,R,n,P⟩:=(I.Kd _ _ L)
 have hd:=nd _ g;subst R P hd;obtain⟨b,pr⟩:=uh I ps G;refine d ?_;have l1:x.length=ps.length:=by have:=o.length;simpa using this.symm
 have l2:=pr.length.symm;rw[Zw]at y;have f:(List.range x.toArray.size).map (λi=>(b[i]?).getD (.inl 0,.none))=b:=by
  apply VA;intro i;rw[ZP];by_cases a:i<b.length
  ·rw[List.getElem?_range (by simp;lia),Zq a];simp[a]
  ·rw[Yo (by simp;lia),Yo (by exact ZD a)];rfl
 refine DP.yG (kv:=λi=>(b[i]?).getD (.inl 0,.none)) (I.ok.hd N) g (by simp;lia) (λi v e=>?_) λh' tk z kp=>?_
 ·rw[Wc]at e;have a:i<ps.length:=by have:=(Zb.mp e).1;lia
  refine L2.ai λZ d=>?_;obtain⟨w,e1,e2⟩:=Paired.at_ o i (by rw[ZP,Zq a];rfl);rw[e]at e1;cases e1;obtain⟨kv,e3,e4,_,m,A,F,U,S⟩:=Paired.at_ pr i (Zq a);refine d ?_;rw[e3];exact⟨ps[i].1,m,A,F,e2,U,S⟩
 ·rw[f]at z;have ln:=sZ ps [];exact⟨.ref s.heap.objs.size,_,I.laid kp (Zn _) (qW (by simp at ln;exact ZR ln y) (beq_eq_false_iff_ne.mpr (Y4 (Za I.big))) (pS (λ_ _ h=>⟨h.1,h.2.1⟩) pr (.nil:KV [] [])) z),rfl,q _ (I.Kd.fresh (Zn _))⟩
end
end L2
end
section
namespace VS
open PySem PySem.Spec PyProof.Rows L2
def sH:Ut->Option (List (T×T))
 |[]=>Y []
 |.tup [k,v] :: r=>if iu k/\Kh v then (sH r).map ((k,v) :: ·) else J
 |_=>J
def oT:Uv->Uu
 |[(_,.tup l)]=>(sH l).map λps=>(.fr,.dct 0 (ps.foldl (λd q=>dput d q.1 q.2) []))
 |_=>J
section
def Df(h:sH (t :: l)=Y d):∃k v a,t=.tup [k,v]/\iu k=M/\Kh v=M/\sH l=Y a/\d=(k,v) :: a:=by
 unfold sH at h;split at h
 ·rename_i b;cases b
 ·rename_i k v r b;cases b;split at h
  ·rename_i c;obtain⟨a,e1,e2⟩:=Zy.mp h;exact⟨k,v,a,rfl,c.1,c.2,e1,e2.symm⟩
  ·cases h
 ·cases h
theorem sN:∀{d:Ut}{i:List V}{C:Yx}{a:List (T×T)},RpL G H i d C->sH d=Y a →
  ∃ps:List Oy,i=ps.map (λq=>V.ref q.1)/\(∀q∈ps,H q.1=Y (.tup [kV q.2.1,q.2.2]))/\Paired (λ(q:Oy) (x:T×T)=>x.1=aK q.2.1/\Rp G H q.2.2 x.2 []) ps a
 |[],_,_,a,r,h=>by
  cases r;cases (h);exact⟨[],rfl,λq s=>by simp at s,.nil⟩
 |t :: d,_,_,a,r,h=>by
  obtain⟨k,v,m,rfl,u,o,w,rfl⟩:=Df h;cases r with
  |cons r1 r2 =>
   refine L2.ai λA f=>?_;obtain⟨ps,e1,e2,e3⟩:=sN r2 w;obtain⟨b,D,E,rfl,hb,q⟩:=Rp.Nb r1;refine f ?_;cases q with
   |cons l q =>
    cases q with
    |cons j q =>
     refine L2.ai λA f=>?_;cases q;obtain⟨n,rfl,y⟩:=dg l u;have z:=j.Kh o;subst z;refine f ?_;refine⟨(b,n,_) :: ps,by rw[e1];rfl,λx g=>?_,.cons ⟨y,j⟩ e3⟩;rcases Zi.mp g with rfl | g
     ·exact hb
     ·exact e2 x g
theorem tF:∀{ps:List Oy}{u:List (T×T)},Paired (λ(q:Oy) (x:T×T)=>x.1=aK q.2.1/\Rp G H q.2.2 x.2 []) ps u->∀{ns:List Key}{g:List V}{i:Ut}{j:Yx},ns.length=g.length->RpL G H g i j->j.flatten=[] →
  ∃(f:List Key)(l:List V)(s:Ut)(o:Yx),ps.foldl (λacc q=>putK acc q.2.1 q.2.2) (ns.zip g)=f.zip l/\u.foldl (λd q=>dput d q.1 q.2) ((ns.map aK).zip i)=(f.map aK).zip s/\f.length=l.length/\RpL G H l s o/\o.flatten=[]
 |_,_,.nil,ns,g,i,j,m,r,n=>⟨ns,g,i,j,rfl,rfl,m,r,n⟩
 |_,_,.cons (a:=q) (b:=x) h t,ns,g,i,j,m,r,n=>by
  refine L2.ai λR E=>?_;obtain⟨S,l,s,o,C,A,z,y,v⟩:=rz h.2 m r;rw[n]at v;obtain⟨D,w,t2,Q,P,O,N,L,F⟩:=tF t A y (List.sublist_nil.mp v);refine E ?_;refine⟨D,w,t2,Q,?_,?_,N,L,F⟩
  ·rw[Y9,C];exact P
  ·rw[Y9,h.1,z];exact O
def Bs:fF G (λn H Q=>∃(p:On)(ps:List Oy),n=[.ref p]/\H p=Y (.tup (ps.map λq=>V.ref q.1))/\(∀q∈ps,H q.1=Y (.tup [kV q.2.1,q.2.2])) ∧
  ∀l,H l=J->Q (.ref l) (upd H l (.dK (ps.foldl (λacc q=>putK acc q.2.1 q.2.2) [])))) oT:=by
 intro Z U S H l N Fs m t Q A e k;unfold oT at e;split at e
 ·rename_i P O;refine L2.ai λR s=>?_;obtain⟨o,e1,e2⟩:=Zy.mp e;cases e2;obtain⟨v,F,rfl,rfl,r⟩:=(A.rp).one;obtain⟨b,E,Gs,rfl,hb,q⟩:=Rp.Nb r;obtain⟨ps,rfl,a,pr⟩:=sN q e1;refine s ?_;refine⟨b,ps,rfl,hb,a,λl j=>?_⟩;obtain⟨ns,h,D,C,z,y,x,w,u⟩:=tF pr (ns:=[]) L .nil L;have g:ps.foldl (λacc q=>putK acc q.2.1 q.2.2) []=ns.zip h:=z;have f:o.foldl (λd q=>dput d q.1 q.2) []=(ns.map aK).zip D:=y;rw[g];have i:aO H (upd H l (.dK (ns.zip h))):=cF j;refine k _ _ (l :: C.flatten) i (by rw[f];exact .dct aw x (w.same i)) ?_;rw[u];exact Fp.new (A.same.free j) (by simp) Fp.nil
 ·cases e
def wg:bootBuiltins ("dict" : Str)=Y (.type "dict"):=by decide +kernel
def Ee{X:Cx}(a:X.mg "dict" = J)(f:Lv G X [e] cs)(b:{`q3,Gl X "dict"})(d:{`q3,X.calm=M})(he:{`q3,K1 e [] X}):PV G X (.Call (.Name "dict" p) [e] [] pos) (eN oT cs) :=
 jH (vV d) Bs b a wg f (he:=he)
end
end VS
end
section
namespace L2
open PySem PySem.Spec PyProof.Rows
section
variable{H:Hp}
def rW(I:Inv X pins O H s)(e:H d=Y (.dK a))(g:s.heap.get? d=Y o):Inv X pins O (upd H d (.frz o (.dK a))) s :=
 nL I (by rw[e];exact True.intro) ⟨rfl,λ_ _=>rfl⟩ ⟨o,g⟩ ⟨g,I.Kd d _ e⟩
end
def Itk(d:On)(o:Obj)(a:List (Key×V)):It :=
 ⟨λi H=>H d=Y (.frz o (.dK a))/\i<a.length,λi H x b=>b=H/\∃p,a[i]?=Y p/\x=kV p.1,λi H=>H d=Y (.frz o (.dK a))/\a.length<=i⟩
def Da(h:mI k v=M):RelV (kV k) v:=by
 rcases bO h with⟨i,t,rfl,rfl⟩ | ⟨x,t,rfl,rfl⟩
 ·exact⟨t,rfl⟩
 ·exact⟨t,rfl⟩
def p8{P:SB}{w:XAB}{a:List DictEntry}{m:List (Key×PP)}(r:Pairs (aS P w) a m){i:Nat}{e:DictEntry}(h:a[i]?=Y e):∃q,m[i]?=Y q/\mI q.1 e.key=M:=by
 induction r generalizing i with
 |nil=>simp at h
 |@cons j b a l f g _ d =>
  cases i with
  |zero =>
   simp at h;subst h;exact⟨b,rfl,f⟩
  |succ i=>simpa using d (by simpa using h)
def Ft{l:List (Key×V)}{m:List (Key×PP)}(r:KV l m){i:Nat}{q:Key×PP}(h:m[i]?=Y q):∃p,l[i]?=Y p/\p.1=q.1:=by
 induction r generalizing i with
 |nil=>simp at h
 |@cons a f ps e d t b =>
  cases i with
  |zero=>simp at h;subst h;exact⟨a,rfl,d.1⟩
  |succ i=>simpa using b (by simpa using h)
section
def GV{K:X2}(d f:On){G:Array DictEntry}(a:KV U N)(he:Pairs (aS P w) G.toList N) :
  Turn P w K tg (Itk d (ST.dO G S) U) [f] f (λi h=>h.get? f=Y (ST.kO d i G.size S)) where
 mem:=by simp
 obj:=λi h st b hb=>by
  rw[ZZ.mp hb];exact⟨_,st,λv z=>by cases z⟩
 keep:=λi h y st k=>k f (by simp) _ st
 item:=by
  intro X u hw x r i j s O H E I m st hg;subst u hw x;obtain⟨D,f1,f2,C,A,f5⟩:=m f (by simp);refine ST.uO (I.ok.hd r) st ((I.Kd d _ hg.1).1) (λe l y sb g=>?_) λQ=>?_
  ·rw[← Nw]at l;obtain⟨q,n,R⟩:=p8 he l;obtain⟨p,Z,hb⟩:=Ft a n;exact⟨_,rfl,uM g L L L ⟨kV p.1,H,(I.turned (t':=s.toks) (λb o hb e=>(sb.2 b hb).trans e) D f1 C A f5),by rw[hb];exact Da R,⟨rfl,p,Z,rfl⟩,g,λb hb=>(m b hb).1⟩⟩
  ·exfalso;rw[← Nw,YG,he.length,← Wp a]at Q;exact absurd hg.2 (by lia)
 done:=by
  intro X u hw x r i j s O H E I m st hg;subst u hw x;obtain⟨D,f1,f2,C,A,f5⟩:=m f (by simp);refine ST.uO (I.ok.hd r) st ((I.Kd d _ hg.1).1) (λe l y sb g=>?_) λQ y kp=>⟨rfl,I.turned (λb o hb e=>kp b o hb e) D f1 C A f5⟩
  exfalso;rw[← Nw]at l;obtain⟨q,n,R⟩:=p8 he l;have:=(Zb.mp n).1;have h2:=hg.2;rw[Wp a]at h2;lia
 self:=λ_ _ _ _ _ st hQ=>wpAny_pyIter_slot ⟨_,st,rfl⟩ F.slot_dict_keyiterator_iter (WO F.slot_dict_keyiterator_iter ⟨_,st,rfl⟩ F.entry_dict_keyiterator_iter (Zk ⟨_,rfl, "dict_keyiterator",_,⟨_,st,rfl⟩,X0.lookup,hQ⟩) (F.args_dict_keyiterator_iter_1 _))
def iDk(e:TE):TI:=λO H R=>e O H λx b=>∃d a,x=.ref d/\b d=Y (.dK a)/\∀o,R (Itk d o a) (upd b d (.frz o (.dK a)))
def Ic(n:PE X l i):PI X tg l (iDk i):=by
 intro a s O H R I h;refine thn (n a s O H _ I h) λv s1 p=>?_;obtain⟨x,F,f,r1,j⟩:=p;refine L2.ai λE m=>?_;obtain⟨d,D,ex,e,q⟩:=j;subst ex;cases r1;obtain⟨z,y,u,rel,o,A,C,g,ex,hd,_,he,w⟩:=uu f.Kd e;have eo:=zY ex hd;subst eo;refine m ?_;refine ST.BE y g ?_;refine⟨s1.heap.objs.size,[s1.heap.objs.size],_,_,_,rfl,(rW f e g).kept λb o e=>Zj _ e,GV d _ rel he,ZK _ L,λb hb=>?_,q _⟩;have r:b=s1.heap.objs.size:=by simpa using hb
 subst r;exact(rW f e g).OY (Zn _) ((rW f e g).Kd.fresh (Zn _))
end
end L2
namespace VS
open PySem PySem.Spec PyProof.Rows L2
noncomputable def sca:T->Bool
 |.non=>M
 |.bl _=>M
 |.int _=>M
 |.str _=>M
 |_=>B
end VS
end
section
namespace L2
def GF{α:Type}{b:List α}(d:b.length=n+1):∃a t,b=a :: t/\t.length=n:=by
 obtain⟨a,t,e⟩:=List.exists_cons_of_length_eq_add_one d;subst e;exact⟨a,t,rfl,VI d⟩
def pL{α:Type}{b:List α}(d:b.length=1):∃a,b=[a]:=List.length_eq_one_iff.mp d
def dW{α:Type}{d:List α}(f:d.length=2):∃a b,d=[a,b]:=by
 obtain⟨a,t,rfl,e⟩:=GF f;obtain⟨b,rfl⟩:=pL e;exact⟨a,b,rfl⟩
def t5{α:Type}{d:List α}(f:d.length=3):∃a b c,d=[a,b,c]:=by
 obtain⟨a,t,rfl,e⟩:=GF f;obtain⟨b,c,rfl⟩:=dW e;exact⟨a,b,c,rfl⟩
def JC{α:Type}{e:List α}(g:e.length=4):∃a b c d,e=[a,b,c,d]:=by
 obtain⟨a,t,rfl,f⟩:=GF g;obtain⟨b,c,d,rfl⟩:=t5 f;exact⟨a,b,c,d,rfl⟩
end L2
end
section
namespace VS
open PySem PySem.Spec PyProof.Rows L2
inductive Res where | ok (v:Val) | ex (x:Str)
inductive OutX where | ok (o:Out) | ex (x:Str) (U:VS.Env)
abbrev ExX:=VS.Env->Option Res
abbrev SxX:=VS.Env->Option OutX
end VS
end
section
namespace TS
open PySem PySem.Spec PyProof.Rows
def yp(o:∀v∈f,∃x t,v=Value.str x t){d:Array Pv}(g:d.Perm (pairsOf f))(p:SortedToK strKind d (pairsOf f).size):((d.map (·.2)).toList.map strOf).Pairwise (λa b=>¬b.cps.toList<a.cps.toList):=by
 obtain⟨n,m⟩:=lX g;rw[Y5,YH];intro i j r l u;have key:∀i (h:i<(d.map (·.2)).toList.length),KK strKind d i=(strOf (d.map (·.2)).toList[i]).cps.toList:=λi h=>by
  have e:d[i]?=Y ((d.map (·.2)).toList[i],(d.map (·.2)).toList[i]):=by
   rw[← Nw,← m,ZP,Zq h];rfl
  obtain⟨x,t,ex⟩:=o _ (n.mem_iff.mp (Yu h));unfold KK;rw[e];rw[ex];rfl
 have q:=p i j (ZQ u) (by rw[← g.size_eq];simpa using l);rw[key i r,key j l]at q;exact of_decide_eq_false q
def qX{A:SC}(u:∀(p:SC)(y:Ki),p.handled=A.handled->Pi (KF prog w) p (collect x) (λd s1=>(∀v∈d,∃x t,v=Value.str x t)/\d.length<64/\∀(out:Vz)(i:XAA)(e:Nat),out.Perm d->(out.map strOf).Pairwise (λa b=>¬b.cps.toList<a.cps.toList)->(∀b o,s1.heap.get? b=Y o->i.get? b=Y o)->i.get? s1.heap.objs.size=Y (seqObj "list" out.toArray e)->Q (.ref s1.heap.objs.size) { s1 with heap:=i }) y s) :
  Pi (KF prog w) A (call (.builtin "sorted") [x]) Q E s:=by
 refine Calls.call_function_entry kind_sorted plain_sorted entry_sorted (args_sorted1 _) (?_);refine Zr (Zk (Zr (Xw (u A.in1 (λ_ _=>False) L) ?_ λ_ _ e=>e.elim)));rintro l s1 ⟨f,g,h⟩;refine Zr (wpAny_newList ?_ (by rw[Xb];omega));have j:(s1.heap.push (seqObj "list" l.toArray 0)).get? s1.heap.objs.size=Y (seqObj "list" l.toArray 0):=ZK _ L;refine Zr (Y2 (WO slot_list_sort ⟨_,j,rfl⟩ entry_list_sort (list_sort_treeK strKind_oneLt j (strsAre_map _ f).keysOf (λC z rest e=>keyKind_strs (by rw[← e];exact strsAre_map _ f)) g λq n r=>⟨_,rfl,?_⟩) (args_list_sort _)));obtain⟨e,he⟩:=sortedHeap_at j;exact Zk ⟨_,rfl,h ((arrOf q).map (·.2)).toList _ e (lX n).1 (yp f n r) (λb o m=>by
  have hb:=ZO m;rw[sortedHeap_old (Za hb) (by rw[size_push'];exact M0 hb),XX _ _ _ (Za hb)];exact m) he⟩
end TS
namespace L2
open PySem PySem.Spec PyProof.Rows TS
section
def jW{X:Cx}(hc:X.calm=M):dw X (.builtin "sorted") (λD H Q=>∃p,∃(d:List Str)(j:List V),D=[.ref p]/\d.length<64/\d.length=j.length/\H p=Y (.dK ((d.map Sum.inr).zip j)) ∧
  ∀(l:On)(C:List Str),H l=J->C.Perm d->C.Pairwise (λa b=>¬b.cps.toList<a.cps.toList)->Q (.ref l) (upd H l (.lst (C.map V.str)))):=by
 intro f s O H D us Q I R h;refine L2.ai λP_ Z=>?_;obtain⟨p,d,j,rfl,h64,hl,hq,q⟩:=h;obtain⟨u,rfl,S⟩:=R.one;cases S;obtain⟨hz,hS,G,rel,A⟩:=uu I.Kd hq;obtain⟨ep,A⟩:=A.dictAt;refine Z ?_;have o:G.length=d.length:=by
  have:=rel.length;rw[YL,Zw]at this;lia
 refine TS.qX λA' E' hA=>PySem.W.kdu_collect (PySem.W.kdl_dict hS) (hA.trans (I.ok.hd hc)) A (by rw[YL,Zw]at hz;lia) λF P acc kp L=>?_;have N:Inv X f O H { s with heap:=F,toks:=P }:=I.kept kp;have r:acc.toList.length=d.length:=by rw[Ym,L.1,o]
 have each:∀i v,acc.toList[i]?=Y v->∃x t,v=Value.str x t/\d[i]?=Y x:=λi v g=>by
  rw[Nw]at g;obtain⟨k,x,e1,e2⟩:=L.2 i v g;have e3:=(λi=>by
  have E:((G.map (·.1)))[i]?=(d.map (Sum.inr:Str->Key))[i]?:=by
   rw[← rel.keys];rw[V6 (by rw[Zw];exact X5 hl)]
  rw[ZP,ZP]at E;exact E) i
  rw[e1]at e3;cases z:d[i]? with
  |none=>rw[z]at e3;cases e3
  |some y =>
   rw[z]at e3;have e5:=Zl e3;subst e5;obtain⟨t,rfl⟩:=Value.isStrOf_shape (e2);exact⟨y,t,rfl,z⟩
 have g:∀v∈acc.toList,∃x t,v=Value.str x t:=λv n=>by
  obtain⟨i,hi,e⟩:=Yf n;obtain⟨x,t,e1,_⟩:=each i v (by rw[Zq hi,e]);exact⟨x,t,e1⟩
 have es:acc.toList.map strOf=d:=by
  apply VA;intro i;rw[ZP];cases e:acc.toList[i]? with
  |none =>
   have:=YG.mp e;rw[YG.mpr (by lia)];rfl
  |some v =>
   obtain⟨x,t,rfl,e1⟩:=each i v e;rw[e1];rfl
 refine⟨g,by omega,λout h2 e m U Lx he=>?_⟩;exact⟨.ref F.objs.size,_,N.laid Lx (Zn _) (show du X.prog X.w _ h2 _ (.lst ((out.map strOf).map V.str)) from⟨(by rw[Zw,Zw,m.length_eq,r,Xb];omega),out,e,t6 (λv n=>g v (m.mem_iff.mp n)),he⟩),rfl,q _ _ (N.Kd.fresh (Zn _)) (by rw[← es];exact m.map _) U⟩
end
end L2
namespace VS
open PySem PySem.Spec PyProof.Rows L2
section
def g6:Uv->Uu
 |[(_,.dct 0 l)]=>(strs? (l.map (·.1))).bind λa=>if a.length<64/\a.all Sk=M then Y (.fr,.lst ((fE a).map .str)) else J
 |_=>J
def zW:fF G (λn H Q=>∃p,∃(d:List Str)(f:List V),n=[.ref p]/\d.length<64/\d.length=f.length/\H p=Y (.dK ((d.map Sum.inr).zip f)) ∧
  ∀(l:On)(g:List Str),H l=J->g.Perm d->g.Pairwise (λa b=>¬b.cps.toList<a.cps.toList)->Q (.ref l) (upd H l (.lst (g.map V.str)))) g6:=by
 intro Z U L H l f O m t Q A e k;unfold g6 at e;split at e
 ·rename_i D x;obtain⟨d,e1,e2⟩:=Zz.mp e;split at e2
  ·rename_i hb;refine L2.ai λE w=>?_;cases e2;obtain⟨v,F,rfl,rfl,q⟩:=(A.rp).one;obtain⟨a,u,j,o,N,rfl,rfl,z,h,rfl,r⟩:=fj q;refine w ?_;have C:u.length=o.length:=by rw[h,r.len.1]
   rw[(V6 (by rw[Zw];exact X5 C))]at e1;have i:=keys_str e1;refine⟨a,d.map sx,j,rfl,by rw[Zw];exact hb.1,?_,by rw[← i];exact z,Bk k A.same λs y=>Hu (Mz.mp hb.2 s y)⟩;rw[← h,i,Zw,Zw,Zw]
  ·cases e2
 ·cases e
def xo{X:Cx}(a:X.mg "sorted" = J)(f:Lv G X [e] cs)(b:{`q3,Gl X "sorted"})(g:{`q3,X.K=G.K})(d:{`q3,X.calm=M})(he:{`q3,K1 e [] X}):PV G X (.Call (.Name "sorted" p) [e] [] pos) (eN g6 cs) :=
 lE (jW d) zW b a p7 f (he:=he)
end
noncomputable def RB:T->Bool
 |.bl true=>M
 |_=>B
mutual
def fD:T->Bool
 |.tup l=>bX l
 |.lst l=>bX l
 |.dct _ l=>uX l
 |.obj _ l=>ft l
 |_=>M
def bX:Ut->Bool
 |[]=>M
 |t :: r=>fD t&&bX r
def uX:List (T×T)->Bool
 |[]=>M
 | (_,v) :: r=>fD v&&uX r
def ft:List (Nat×T)->Bool
 |[]=>M
 | (n,v) :: r=>(fD v && !(n==0&&RB v))&&ft r
end
theorem ij:∀{b:Ut}{a:Ut},b.length=a.length->uX (b.zip a)=M->bX a=M
 |[],[],_,_=>rfl
 |_ :: _,[],h,_=>nomatch h
 |[],_ :: _,h,_=>nomatch h
 |k :: b,t :: a,h,e=>by
  have e:=ZX.mp (e);exact ZX.mpr ⟨e.1,ij (VI h) e.2⟩
theorem eX:∀{b:Uz}{a:Ut},b.length=a.length->ft (b.zip a)=M->bX a=M
 |[],[],_,_=>rfl
 |_ :: _,[],h,_=>nomatch h
 |[],_ :: _,h,_=>nomatch h
 |k :: b,t :: a,h,e=>by
  have e:=ZX.mp (e);exact ZX.mpr ⟨(ZX.mp e.1).1,eX (VI h) e.2⟩
section
variable{H:Hp}
theorem Rp.at{v:V}(m:Me)(r:Rp G H v t F):fD t=M->Rp (G.at m) H v t F :=
 Rp.rec (G:=G) (H:=H) (motive_2:=λvs e Fs _=>bX e=M->RpL (G.at m) H vs e Fs)
  (λ_=>.non) (λb _=>.bl b) (λi _=>.int i) (λs h _=>.str s h) (λh _=>.scr h) (λh _ d f=>.tup h (d f)) (λh _ d f=>.lst h (d f))
  (λh l q d f=>.dct h l (d (ij (by rw[Zw,l];exact q.len.1) f))) (λh l q d f=>.dctT h l (d (ij (by rw[Zw,l];exact q.len.1) f)))
  (λh l n q d f=>.dctN h l n (d (ij (by rw[Zw,l];exact q.len.1) f))) (λh l q d f=>.dctZ h l (d (ij (by rw[Zw,l];exact q.len.1) f))) (λh o _=>.exc h o)
  (λ{c a w b u vs e Fs} h l p q d f=>by
   have f:=ZX.mp (f);have hb:b=B:=by
    cases b with
    |false=>rfl
    |true=>exact nomatch f.1
   refine .ins h l (λz=>?_) (d (eX (by rw[l];exact q.len.1) f.2));rw[hb]at z;cases z)
  (λ_ _ _ f=>nomatch f)
  (λ_=>.nil) (λ_ _ j g f=>by
   have f:=ZX.mp f;exact .cons (j f.1) (g f.2)) r
theorem RpL.at(m:Me):∀{vs:List V}{a:Ut}{Fs:Yx},RpL G H vs a Fs->bX a=M->RpL (G.at m) H vs a Fs:=by
 intro vs a
 induction a generalizing vs with
 |nil=>intro Fs r f;cases r;exact .nil
 |cons t a b =>
  intro Fs r f;cases r with
  |cons r q=>exact .cons (r.at m (ZX.mp f).1) (b q (ZX.mp f).2)
mutual
theorem lQ:∀t:T,Kh t=M->fD t=M
 |.non,_=>rfl
 |.bl _,_=>rfl
 |.int _,_=>rfl
 |.str _,_=>rfl
 |.scr _,_=>rfl
 |.tup l,h=>wD l h
 |.lst _,h=>by cases h
 |.dct _ _,h=>by cases h
 |.obj _ _,h=>by cases h
theorem wD:∀l:Ut,gE l=M->bX l=M
 |[],_=>rfl
 |t :: l,h=>by
  have h:=ZX.mp h;exact ZX.mpr ⟨lQ t h.1,wD l h.2⟩
end
end
def qG(k:Nat):T->Option T
 |.obj (_+1) (_ :: fs)=>(fs.findIdx? λp=>p.1==k).bind λi=>(fs[i]?).map (·.2)
 |_=>J
def bj(k:Nat)(a:Ex):Ex:=λU=>(a U).bind λx=>(qG k x.2).map λt=>sub x.1 t
section
def w_fld{X:Cx}(J:ke G)(F:LB G X.K k f)(ha:PV G X a ca)(A:{`q8,XAC a f X.env (eval a X.env)=eval a X.env}):PV G X (.Attribute a f pos) (bj k ca) :=
 PE.weak (Bi ha A) λO H Q hq=>by
  refine L2.ai λP_ l=>?_;obtain⟨Z,U,m,t,s,e,kq⟩:=hq;obtain⟨⟨mx,y⟩,ea,e1⟩:=Zz.mp e;obtain⟨z,d,e2⟩:=Zy.mp e1;refine l ?_;refine⟨Z,U,mx,y,s,ea,λv H' F' sm r1 f1=>?_⟩;unfold qG at d;split at d
  ·rename_i c q0 fs hy;refine L2.ai λP_ l=>?_;subst hy;obtain⟨j,D,e3⟩:=Zz.mp d;obtain⟨p,C,e4⟩:=Zy.mp e3;subst e4;obtain⟨c',a,dx,b,ns,vs,S,Fs,ec,rfl,rfl,rfl,rfl,hA,w,A,r⟩:=d6 r1;cases ec;obtain⟨q,g,L,E,g3,g4⟩:=k8 (λn=>n==k) (w.trans r.len.1) D;have ek:q=k:=by simpa using g3
   subst ek;have ep:p=(q,g):=by
    have:(ns.zip S)[j]?=Y (q,g):=by rw[Xl];exact⟨L,E⟩
    rw[this]at C;exact(Zl C).symm
   subst ep;obtain⟨u,Fi,R,P,h⟩:=r.get j E;refine l ?_;have N:=ua (G:=G) (c:=c+1) J w D L R;rw[F.nm c]at N;refine⟨a,_,dx,_,u,rfl,hA,F.cl c,F.no c,N,?_⟩;have fp:=((f1.sub (YT _ _)).sub (b6 P)).up h;unfold VS.sub at e2;rw[e2]at fp;have et:g=t:=congrArg Prod.snd e2;rw[et]at h;exact kq u H' Fi sm h fp
  ·cases d
def jP(i k:Nat)(e:Ex)(U:VS.Env):Option Out:=(e U).bind λv=>match U[i]? with
 |some (some (.ow (.obj (c+1) (q :: fs))))=>(fit v).bind λt=>if fs.length<900/\(fs.all λp=>!(p.1==k))=M then Y (.nx (U.set i (Y (.ow (.obj (c+1) (q :: (fs++[(k,t)]))))))) else J
 |_=>J
theorem tJ{k:Nat}{v:V}(J:∀k m:Nat,g k=g m->k=m):∀{b:Uz}{d:List V}{j:Ut},b.length=d.length->b.length=j.length->((b.zip j).all λp=>!(p.1==k))=M->jb (g k) v ((b.map g).zip d)=((b++[k]).map g).zip (d++[v])
 |[],[],_,_,_,_=>rfl
 |[],_ :: _,_,h,_,_=>by simp at h
 |_ :: _,[],_,h,_,_=>by simp at h
 |_ :: _,_ :: _,[],_,h,_=>by simp at h
 |u :: b,r :: d,s :: j,q,n,l=>by
  rw[ZJ,Xe,Yj]at l;rw[Zm,ZJ,jb,Zo (λz=>by
   have:=J _ _ z;subst this;simp at l),tJ J (by simpa using q) (by simpa using n) l.2]
  rfl
def lW{X:Cx}{pos:Pos}(i k:Nat)(J:ke G)(F:LB G X.K k f)(he:PV G X e ce)(hN:{`q8,X.N[i]?=Y x})(hv:{`q9,M7 X.env.scope x})(hd:{`q8,K3 x})(A:{`q8,K4 x})(hs:{`q8,swapsWith e (Y (.Attribute (.Name x p1) f pos')) pos.line X.env=pure B}):PSV G X (.Assign [.Attribute (.Name x p1) f pos'] e pos) (jP i k ce) :=
 PS.weak (GY (fh hN hv hd A) he hs) λD O H hq=>by
  obtain⟨Z,U,out,s,e,kq⟩:=hq;obtain⟨⟨mv,h⟩,ev,e⟩:=Zz.mp e;split at e
  ·rename_i c q0 fs u;obtain⟨t,et,e⟩:=Zz.mp e;cases (nj et);split at e
   ·rename_i j;cases e;obtain⟨v,P,g2⟩:=s.rp _ _ u;refine⟨Z,U,.fr,h,s,ev,λy H1 Fy p ry l=>⟨v,P,?_⟩⟩;refine L2.ai λP_ k_=>?_;obtain⟨c',a,S,b,ns,vs,n,Fs,ec,rfl,rfl,rfl,R,C,w,hb,q⟩:=d6 g2;cases ec;refine k_ ?_;have nd:=s.nd i _ u;rw[R]at nd;have E:=ZY.mp nd;have LR:=p a _ C;have r:Kn (H1 a):=by rw[LR];exact True.intro
    have Rw:=w.trans q.len.1;have na:a∉Fy:=λz=>by rw[l.2 a z]at C;cases C
    refine⟨a,_,S,_,rfl,LR,F.cl c,F.no c,(by
     have:=j.1;rw[YL]at this ⊢;rw[Zw];lia),?_⟩
    have Q:=tJ (k:=k) (v:=y) (J (c+1)) w Rw j.2;rw[F.nm c]at Q;rw[Q];have off:=λd hb hw=>Kn.pe (q.Kw d hb) (l.2 d hw);have g:Chg G H (.ref a) (Z i) (.obj (c+1) ((0,.bl b) :: (ns.zip n++[(k,h)]))) (upd H1 a (.ins (G.ct (c+1)).1 S (((ns++[k]).map (G.ct (c+1)).2).zip (vs++[y])))) (a :: (Fs++[Fy]).flatten):=by
     rw[R,show ns.zip n++[(k,h)]=(ns++[k]).zip (n++[h]) from by rw[List.zip_append Rw];rfl];refine Chg.upd p Zv r (.ins aw (by simp[w]) hb (((q.same p).off r E.1).append (.cons (ry.keep (Kept.upd (.inl r)) λd hb o ho=>by rw[aD (λz=>na (by rw[← z];exact hb))];exact ho) .nil))) ?_ ?_
     ·rw[YX];refine ZY.mpr ⟨λm=>?_,ZF.mpr ⟨E.2,by simpa using l.1,λb hb c j z=>?_⟩⟩
      ·rcases Zc.mp m with m | m
       ·exact E.1 m
       ·exact na (by simpa using m)
      ·subst z;exact off b hb (by simpa using j)
     ·intro d hb;rcases Zi.mp hb with rfl | hb
      ·exact .inl Zv
      ·rw[YX]at hb;rcases Zc.mp hb with hb | hb
       ·exact .inl (Zx _ hb)
       ·exact .inr (l.2 d (by simpa using hb))
    obtain⟨z1,z2⟩:=s.mut u P g;exact kq _ O _ z1 z2
   ·cases e
  ·cases e
end
noncomputable abbrev sO:=List (Nat×T)
noncomputable def Nu(a:On):Me:=λk=>if k=0 then Y (.ref a) else J
abbrev Mt:=sO->Ut->Option (sO×T)
noncomputable def Lh:List Bool->Yx->W9
 |b :: bs,F :: a=>(if b then F else [])++Lh bs a
 |_,_=>[]
noncomputable def NB:List Bool->Yx->W9
 |b :: bs,F :: a=>(if b then [] else F)++NB bs a
 |_,_=>[]
theorem gS:∀{mv:List Bool}{e:Yx}{j:Nat}{F:W9},mv[j]?=Y M->e[j]?=Y F->F.Sublist (Lh mv e)
 |[],_,_,_,h,_=>by simp at h
 |_ :: _,[],_,_,_,h=>by simp at h
 |b :: bs,f :: e,0,F,d,a=>by
  simp at d a;subst d a;rw[Lh,Zp L];exact List.sublist_append_left _ _
 |b :: bs,f :: e,j+1,F,d,a=>by
  rw[Lh];exact(gS (by simpa using d) (by simpa using a)).trans (Xm _ _)
theorem qF:∀{mv:List Bool}{e:Yx}{j:Nat}{F:W9},mv[j]?=Y B->e[j]?=Y F->F.Sublist (NB mv e)
 |[],_,_,_,h,_=>by simp at h
 |_ :: _,[],_,_,_,h=>by simp at h
 |b :: bs,f :: e,0,F,d,a=>by
  simp at d a;subst d a;rw[NB];exact List.sublist_append_left _ _
 |b :: bs,f :: e,j+1,F,d,a=>by
  rw[NB];exact(qF (by simpa using d) (by simpa using a)).trans (Xm _ _)
theorem xX:∀{mv:List Bool}{d:Yx}{i j:Nat}{F m:W9},(Lh mv d).Nodup->mv[i]?=Y M->mv[j]?=Y M->d[i]?=Y F->d[j]?=Y m->i≠j->∀a∈F,a∉m
 |[],_,_,_,_,_,_,h,_,_,_,_=>by simp at h
 |_ :: _,[],_,_,_,_,_,_,_,h,_,_=>by simp at h
 |b :: bs,q :: d,0,0,F,m,_,_,_,_,_,n=>absurd L n
 |b :: bs,q :: d,0,j+1,F,m,nd,l,g,f,e,n=>λa o p=>by
  simp at l f;subst l f;rw[Lh,Zp L,ZF]at nd;exact nd.2.2 a o a ((gS (by simpa using g) (by simpa using e)).subset p) L
 |b :: bs,q :: d,i+1,0,F,m,nd,l,g,f,e,n=>λa o p=>by
  simp at g e;subst g e;rw[Lh,Zp L,ZF]at nd;exact nd.2.2 a p a ((gS (by simpa using l) (by simpa using f)).subset o) L
 |b :: bs,q :: d,i+1,j+1,F,m,nd,l,g,f,e,n=>by
  rw[Lh,ZF]at nd;exact xX nd.2.1 (by simpa using l) (by simpa using g) (by simpa using f) (by simpa using e) (by lia)
theorem xQ:∀{mv:List Bool}{d:Yx}{a:On},a∈Lh mv d->∃(j:Nat)(F:W9),mv[j]?=Y M/\d[j]?=Y F/\a∈F
 |[],_,_,h=>by simp[Lh]at h
 |_ :: _,[],_,h=>by simp[Lh]at h
 |b :: bs,l :: d,a,h=>by
  rw[Lh]at h;rcases Zc.mp h with h | h
  ·cases b with
   |true=>exact⟨0,l,rfl,rfl,h⟩
   |false=>simp at h
  ·refine L2.ai λm e=>?_;obtain⟨j,F,i,g,f⟩:=xQ h;refine e ?_;exact⟨j+1,F,by simpa using i,by simpa using g,f⟩
noncomputable def jM(b:Bool)(t:T):Uw:=Y (if b then .ow t else .pu t)
def BK(c:Nat)(U:VS.Env):Option sO:=match (U[(0:Nat)]?:Option (Uw)) with
 |some (some (.ow (.obj a ((0,.bl true) :: fs))))=>if a=c+1 then Y fs else J
 |_=>J
def Mm(c d f:Nat)(e:List Bool)(body:Sx):Mt:=λfs a=>if a.length+1=d/\e.length=a.length then
 (body ((Y (.ow (.obj (c+1) ((0,.bl M) :: fs))) :: List.zipWith jM e a)++List.replicate (f-d) J)).bind λo=>match o with
  |.rt v U=>(BK c U).bind λb=>if Kh v.2 then Y (b,v.2) else J
  |.nx U=>(BK c U).map λb=>(b,.non)
  |_=>J else J
def Oa(G:Gx)(c:Nat)(d:List Bool)(g:Mt):Sp:=λl H Q _=>∃(a:On)(i:List V)(fs:sO)(f:Ut)(F:W9)(e:Yx)(j:sO)(x:T),l=.ref a :: i/\Rp (G.at (Nu a)) H (.ref a) (.obj (c+1) ((0,.bl M) :: fs)) F ∧
 RpL (G.at (Nu a)) H i f e/\d.length=f.length/\(F++Lh d e).Nodup/\(∀b∈F++Lh d e,b∉NB d e)/\g fs f=Y (j,x) ∧
 ∀u h m,Chg (G.at (Nu a)) H (.ref a) (F++Lh d e) (.obj (c+1) ((0,.bl M) :: j)) h m->Rp (G.at (Nu a)) h u x []->Q u h
section
variable{H:Hp}
def uP{f:List Bool}(r0:Rp G H v t F)(r:RpL G H E d l)(hm:f.length=d.length)(x:(F++Lh f l).Nodup)(U:∀b∈F++Lh f l,b∉NB f l)(n X:Nat)(hn:X=E.length+1) :
  SR G (λi=>(F :: l).getD i []) ((Y (.ow t) :: List.zipWith jM f d)++List.replicate (n-(d.length+1)) J) ((v :: E).map Y++List.replicate (n-X) J) H ∧
  ∀a,bW (λi=>(F :: l).getD i []) ((Y (.ow t) :: List.zipWith jM f d)++List.replicate (n-(d.length+1)) J) a->a∈F++Lh f l:=by
 subst hn;have hl:=r.len;have O:(List.zipWith jM f d).length=d.length:=by rw[List.length_zipWith,hm,Wj]
 have back:∀{i:Nat}{c:Cell},((Y (Cell.ow t) :: List.zipWith jM f d)++List.replicate (n-(d.length+1)) J)[i]?=Y (Y c)->(i=0/\c=.ow t)\/∃(j:Nat)(b:Bool)(u:T),i=j+1/\f[j]?=Y b/\d[j]?=Y u/\c=(if b then .ow u else .pu u):=λ{i c} h=>by
  cases i with
  |zero=>exact .inl ⟨rfl,(Zl (Zl h)).symm⟩
  |succ j =>
   rw[Vs,Vt]at h;by_cases N:j<d.length
   ·rw[Yt (by rw[O];exact N),List.getElem?_zipWith]at h;have e1:=Zq (by rw[hm];exact N);have e2:=Zq N;rw[e1,e2]at h;exact .inr ⟨j,_,_,rfl,e1,e2,(Zl (Zl h)).symm⟩
   ·rw[Yq (by rw[O];exact ZD N),Y3]at h;split at h<;>cases h
 have fp:∀{j:Nat}{u:T},d[j]?=Y u->∃w s,E[j]?=Y w/\l[j]?=Y s/\Rp G H w u s:=λ{j u} h=>r.get j h;have ow:∀{i:Nat}{u:T},((Y (Cell.ow t) :: List.zipWith jM f d)++List.replicate (n-(d.length+1)) J)[i]?=Y (Y (.ow u))->i=0\/∃j:Nat,i=j+1/\f[j]?=Y M/\d[j]?=Y u:=λ{i u} h=>by
  rcases back h with⟨p,g⟩ | ⟨j,b,S,p,g,o,y⟩
  ·exact .inl p
  ·cases b with
   |true=>cases y;exact .inr ⟨j,p,g,o⟩
   |false=>cases y
 rw[ZF]at x;refine⟨⟨?_,λi c h=>?_,λi u h=>?_,λi j u c p g n=>?_⟩,λa ⟨i,u,p,g⟩=>?_⟩
 ·simp[O];lia
 ·rcases back h with⟨rfl,rfl⟩ | ⟨j,b,u,rfl,g,o,y⟩
  ·exact⟨v,rfl,r0⟩
  ·obtain⟨w,s,A,e,C⟩:=fp o;refine⟨w,?_,?_⟩
   ·rw[Zm,Vs,Vt,Yt (by rw[Zw];exact(Zb.mp A).1),ZP,A];rfl
   ·rw[Xc,Zt,e,y];cases b<;>exact C
 ·rcases ow h with rfl | ⟨j,rfl,g,o⟩
  ·exact x.1
  ·obtain⟨w,s,A,e,C⟩:=fp o;rw[Xc,Zt,e];exact x.2.1.sublist (gS g e)
 ·rcases ow p with rfl | ⟨Z,rfl,R,a3⟩
  ·rcases back g with⟨rfl,_⟩ | ⟨j',b,S,rfl,D,Q,_⟩
   ·exact absurd L n
   ·obtain⟨w,s,A,e,C⟩:=fp Q;intro a m;rw[Xc,Zt,e];intro q;cases b with
    |true=>exact x.2.2 a m a ((gS D e).subset q) L
    |false=>exact U a (Yl _ m) ((qF D e).subset q)
  ·obtain⟨w,Fi,A,e,C⟩:=fp a3;have ei:(F :: l).getD (Z+1) []=Fi:=by rw[Xc,Zt,e];rfl
   show ∀a∈(F :: l).getD (Z+1) [],_;rw[ei];rcases back g with⟨rfl,_⟩ | ⟨j',b,S,rfl,D,Q,_⟩
   ·exact λa m q=>x.2.2 a q a ((gS R e).subset m) L
   ·obtain⟨w',s,k1,P,k3⟩:=fp Q;intro a m;rw[Xc,Zt,P];intro q;cases b with
    |true=>exact xX x.2.1 R D e P (λz=>n (by rw[z])) a m q
    |false=>exact U a (ZI _ ((gS R e).subset m)) ((qF D P).subset q)
 ·rcases ow p with rfl | ⟨j,rfl,o,y⟩
  ·exact Yl _ g
  ·obtain⟨w,s,A,e,C⟩:=fp y;have M6:a∈(F :: l).getD (j+1) []:=g;rw[Xc,Zt,e]at M6;exact ZI _ ((gS o e).subset M6)
def Ax(h:BK c U=Y a):U[0]?=Y (Y (.ow (.obj (c+1) ((0,.bl M) :: a)))):=by
 unfold BK at h;split at h
 ·rename_i d f e;split at h
  ·rename_i b;cases h;rw[e,b]
  ·cases h
 ·cases h
end
section
variable{K:X2}
def Jp{G:Gx}{Z:List Str}(ok:∀{sp:Sp},(∀j H Q E,sp j H Q E->j.length=Z.length)->(∀(p:PP)(A:SC)(outer:List PySem.Env)(s:KB)(H:Hp)(j:List V)(Q:VK)(E:XK),p0 k (A.deeper (envOfC d (ag x) s.heap.objs.size f p))->sp j H Q E →
   ∃t,Mr (jr La P w K mg base N d (ag x) f p A outer s H E).Nf (aX x) t/\t { nx:=λ_ g=>Q .non g,rt:=Q } (L2.start N j) H)->FnOk P w K mg base La (k+1) f fd Z sp)(hp:Z.length=np)(hn:N.length=R)(hb:∀(a:On)(p:PP)(A:SC)(outer:List PySem.Env)(s:KB)(H:Hp)(E:XK),p0 k (A.deeper (envOfC d (ag x) s.heap.objs.size f p))->hU (G.at (Nu a)) (jr La P w K mg base N d (ag x) f p A outer s H E).Nf (aX x) l) :
  FnOk P w K mg base La (k+1) f fd Z (Oa G c mv (Mm c np R mv l)):=by
 refine ok (λj H Q E h=>?_) λp A outer s H j Q E hr h=>?_
 ·refine L2.ai λP_ n=>?_;obtain⟨a,O,fs,ts,F,Fs,Mw,y,rfl,r0,r,hm,nd,sp,e,q⟩:=h;refine n ?_;unfold Mm at e;split at e
  ·rename_i hl;rw[Zf,r.len.1,hl.1,hp]
  ·cases e
 ·refine L2.ai λP_ n=>?_;obtain⟨a,O,fs,ts,F,Fs,Mw,y,rfl,r0,r,hm,nd,sp,e,q⟩:=h;refine n ?_;refine⟨_,hb a p A outer s H E hr,?_⟩;unfold Mm at e;split at e
  ·rename_i hl;obtain⟨o,e1,e2⟩:=Zz.mp e;obtain⟨s0,Oc⟩:=uP r0 r hm nd sp R (O.length+1) L;rw[hl.1]at s0 Oc;have e3:L2.start N (V.ref a :: O)=(V.ref a :: O).map Y++List.replicate (R-(O.length+1)) J:=by
    unfold L2.start;rw[hn];rfl
   rw[e3];have fin:∀{m:VS.Env}{D:Kk}{O':L2.St}{g:Hp},BK c m=Y Mw->SR (G.at (Nu a)) D m O' g->Ku (λi=>(F :: Fs).getD i []) ((Y (.ow (.obj (c+1) ((0,.bl M) :: fs))) :: List.zipWith jM mv ts)++List.replicate (R-np) J) H D m g →
     Chg (G.at (Nu a)) H (.ref a) (F++Lh mv Fs) (.obj (c+1) ((0,.bl M) :: Mw)) g (D 0):=λ{m D O' g} hme C fr=>by
    have h0:=Ax hme;refine L2.ai λP_ n=>?_;obtain⟨v',g1,g2⟩:=C.rp 0 _ h0;have SG:=g2;obtain⟨c',a',dx,b,ns,j,LC,Mg,ec,rfl,eb,_,eF,hA,hl',X,ra⟩:=d6 SG;have Og:b=M:=by cases eb;rfl
    cases (X Og);refine n ?_;refine⟨fr.kept,λU o' X ho=>(fr.keep U o' ho λz=>X (Oc U z)).1,fr.Kw,SG,C.nd 0 _ h0,λU X=>?_⟩;rcases fr.ow U ⟨0,_,h0,X⟩ with z | z
    ·exact .inl (Oc U z)
    ·exact .inr z
   refine⟨_,_,o,s0,e1,?_⟩;cases o with
   |nx m =>
    refine L2.ai λP_ n=>?_;obtain⟨fs2,e4,S⟩:=Zy.mp e2;cases S;refine n ?_;intro D O' g C fr;exact q .non g _ (fin e4 C fr) .non
   |rt v m =>
    obtain⟨fs2,e4,S⟩:=Zz.mp e2;split at S
    ·rename_i hi;cases S;intro u g F' D O' C fr r' rf;have:=r'.Kh hi;subst this;exact q u g _ (fin e4 C fr) r'
    ·cases S
   |bk m=>cases e2
   |ct m=>cases e2
  ·cases e
def fnM{G:Gx}(F:Kp K x d g f n)(S:gV N h (ag g))(p:h.length=i)(q:N.length=j)(r:∀(a:On)(o:PP)(A:SC)(outer:List PySem.Env)(s:KB)(H:Hp)(E:XK),p0 k (A.deeper (envOfC d (ag g) s.heap.objs.size f o))->hU (G.at (Nu a)) (jr La P w K mg base N d (ag g) f o A outer s H E).Nf (aX g) e) :
  FnOk P w K mg base La (k+1) f n h (Oa G c m (Mm c i j m e)):=Jp (λl b=>F.ok S l b) p q r
structure Ol(K:X2)(x qual:Str)(st:Stmt)(f:On)(fd:Re):Prop where
 ex:∃(T:On)(oc:PP)(od:Option On)(kV doc pm:PP)(an:Option On)(Kj ct:PP)(Nt:Array (V9))(o:Obj)(n:Nat),
  fd=PySem.W.fnOf x qual (cM st) (aX st) (ag st) (.ref T) kV doc pm an Kj ct/\K.lookup f=some ⟨oc,od,.func fd,Nt⟩/\PySem.W.codeIn K Kj qual=true/\K.lookup T=some o/\o.data=.seq #[.none] n
 kp:PySem.W.keepIn K (.ref f)=true
def Ol.ok(F:Ol K x a d f m)(S:gV N i (ag d))(j:∀b H Q E,g b H Q E->b.length=i.length)(v:∀(e:PP)(A:SC)(outer:List PySem.Env)(s:KB)(H:Hp)(b:List V)(Q:VK)(E:XK),p0 k (A.deeper (envOfC a (ag d) s.heap.objs.size f e))->g b H Q E →
   ∃t,Mr (jr La P w K mg base N a (ag d) f e A outer s H E).Nf (aX d) t/\t { nx:=λ_ y=>Q .non y,rt:=Q } (L2.start N b) H):FnOk P w K mg base La (k+1) f m i g:=by
 refine L2.ai λC p=>?_;obtain⟨T,oc,z,kV,doc,pm,an,e,ct,D,o,n,rfl,lk,l,_⟩:=F.ex;refine p ?_;refine Fc lk l S j λA outer s H b Q E r u=>?_;obtain⟨t,h,q⟩:=v e A outer s H b Q E r u;exact⟨t,h.Nf,q⟩
def Ol.binds{e:List Str}(F:Ol K x a d f j)(h:∀(s:KB)(T:On)(kV doc pm:PP)(an:Option On)(g ct:PP)(o:Obj)(n:Nat)(b:Vz),K.In s.heap->K.lookup T=Y o->o.data=.seq #[.none] n->b.length=e.length->BindsTo s (PySem.W.fnOf x a (cM d) (aX d) (ag d) (.ref T) kV doc pm an g ct) ⟨b,[]⟩ (e.zip b)):Binds K j e []:=by
 obtain⟨T,oc,q,kV,doc,pm,an,g,ct,r,o,n,rfl,lk,p,m,l⟩:=F.ex;intro s b X i;rw[ZM]at i ⊢;exact h s T kV doc pm an g ct o n b X m l i
end
def argsOk:List Bool->Uv->Bool
 |[],[]=>M
 |b :: bs,v :: a=>(if b then v.1 == .fr else Kh v.2)&&argsOk bs a
 |_,_=>B
def mM(c:Nat)(e:List Bool)(g:Mt)(a:Uv):T->Option (T×Val)
 |.obj d ((0,.bl b) :: fs)=>if d=c+1/\ft fs=M/\argsOk e a=M/\bX (trees a)=M then (g fs (trees a)).bind λz=>if ft z.1=M/\Kh z.2=M then Y (.obj d ((0,.bl b) :: z.1),(.fr,z.2)) else J else J
 |_=>J
def bN(i:Nat)(a:List Np)(c:Nat)(d:List Bool)(g:Mt)(f:Kx)(U:VS.Env):Option (Val×VS.Env):=match (U[i]?:Option (Uw)) with
 |some (some (.ow t))=>(keys a U).bind λe=>(f U).bind λb=>(pm (mM c d g b) e t).map λz=>(z.2,U.set i (Y (.ow z.1)))
 |_=>J
def tX(G:Gx)(x:Xx):TE:=λO H Q=>∃Z U v b,SR G Z U O H/\x U=Y (v,b)/\Kh v.2=M/\∀u a d,SR G d b O a->Ku Z U H d b a->Rp G a u v.2 []->Q u a
def PX(G:Gx)(X:Cx)(e:Expr)(x:Xx):Prop:=PE X e (tX G x)
theorem j3:∀{mv:List Bool}{a:Uv},argsOk mv a=M->mv.length=a.length
 |[],[],_=>rfl
 |[],_ :: _,h=>nomatch h
 |_ :: _,[],h=>nomatch h
 |b :: bs,v :: d,h=>by
  rw[Zf,Zf,j3 (ZX.mp h).2]
theorem ou:∀{mv:List Bool}{d:Uv}{Fs:Yx},argsOk mv d=M->(Lh mv Fs).Sublist (LS d Fs)
 |[],[],_,_=>by simp[Lh]
 |[],_ :: _,_,h=>nomatch h
 |_ :: _,[],_,h=>nomatch h
 |b :: bs,v :: e,[],h=>by simp[Lh]
 |b :: bs,(m,t) :: e,F :: Fs,h=>by
  have h:=ZX.mp h;have a:=ou (Fs:=Fs) h.2;rw[Lh];cases b with
  |true =>
   have:m=.fr:=by simpa using h.1
   subst this;exact List.Sublist.append (Wf _) a
  |false =>
   rw[Zo Zh,Ye];cases m with
   |fr=>exact a.trans (Xm _ _)
   |pu=>exact a
   |bo=>exact a
theorem qU:∀{mv:List Bool}{a:Uv}{e:List V}{d:Yx},argsOk mv a=M->RpL G H e (trees a) d->NB mv d=[]
 |[],[],_,_,_,_=>by simp[NB]
 |[],_ :: _,_,_,h,_=>nomatch h
 |_ :: _,[],_,_,h,_=>nomatch h
 |b :: bs,(m,t) :: g,_,_,h,r=>by
  have h:=ZX.mp h;cases r with
  |cons f q =>
   rw[NB,qU h.2 q,ZM];cases b with
   |true=>rfl
   |false=>exact f.Kh (by simpa using h.1)
def xn(h:argsOk e d=M)(f:Qx Z U H d m):∀a∈Lh e m,H a=J:=λa o=>by
 obtain⟨j,F,g,q,p⟩:=xQ o;have key:∀{e:List Bool}{d:Uv}{j:Nat},argsOk e d=M->e[j]?=Y M->∃v,d[j]?=Y v/\v.1=.fr:=by
  intro e
  induction e with
  |nil=>intro d j _ h;simp at h
  |cons b bs n =>
   intro d j h g;cases d with
   |nil=>exact nomatch h
   |cons v r =>
    have h:=ZX.mp h;cases j with
    |zero =>
     simp at g;subst g;exact⟨v,rfl,by simpa using h.1⟩
    |succ j =>
     obtain⟨w,l,i⟩:=n h.2 (by simpa using g);exact⟨w,by simpa using l,i⟩
 obtain⟨v,l,i⟩:=key h g;have:=f.each j v F l q;rw[i]at this;exact this.2 a p
section
def uT(J:ke G)(hn:∀k,(G.ct (c+1)).2 k≠m)(ht:∀Z U q O H (R:List V->Hp->Prop),SR G Z U O H->cs U=Y q->(∀j p Fs,aO H p->RpL G p j (trees q) Fs->Qx Z U H q Fs->R j p)->t O H R)(h:tX G (bN i way c mv g cs) O H Q):xp (G.ct (c+1)).1 m (Oa G c mv g) [] E (UO G i way) t O H Q:=by
 refine L2.ai λP_ l=>?_;obtain⟨Z,U,v,U',s,e,Po,kq⟩:=h;refine l ?_;unfold bN at e;split at e
 ·rename_i t0 L;refine L2.ai λP_ l=>?_;obtain⟨ks,ek,e3⟩:=Zz.mp e;obtain⟨q,el,e4⟩:=Zz.mp e3;obtain⟨⟨t',x2⟩,e5,e6⟩:=Zy.mp e4;cases e6;obtain⟨v0,h1,h2⟩:=s.rp _ _ L;obtain⟨w,x,F1,x3,w1,w2,w3,r,w5⟩:=nW ks J h2 (s.nd i t0 L) e5;refine l ?_;unfold mM at r;split at r
  ·rename_i c1 b fs;split at r
   ·rename_i hc;obtain⟨rfl,Oe,N,TX⟩:=hc;obtain⟨⟨Mw,y⟩,eg,e7⟩:=Zz.mp r;split at e7
    ·rename_i OT;refine L2.ai λP_ l=>?_;cases e7;obtain⟨c',a,dx,b',ns,j,ts,Fs,ec,rfl,eb,rfl,eF,hA,hl,hb,ra⟩:=d6 w2;cases ec;cases eb;refine l ?_;have Rw:=hl.trans ra.len.1;refine⟨Z,U,t0,ks,v0,.ref a,s,L,h1,ek,w1,λH1 F=>⟨a,dx,_,rfl,F a _ hA,?_,?_⟩⟩
     ·have key:∀(ns:Uz)(j:List V),((ns.map (G.ct (c+1)).2).zip j).lookup m=none:=by
       intro ns
       induction ns with
       |nil=>intro j;simp
       |cons n ns ih =>
        intro j;cases j with
        |nil=>simp
        |cons v j =>
         rw[Zm,ZJ,YR];have:(m==(G.ct (c+1)).2 n)=B:=by
          rw[beq_eq_false_iff_ne];exact λz=>hn n z.symm
         rw[this];exact ih j
      exact key ns j
     ·refine ht Z U q O H1 _ (s.same F) el λus H2 Gs Lu Sn RW=>?_;have C:=F.trans Lu;have Rv:=xn N (⟨λn v' P a1 a2=>(RW.each n v' P a1 a2).back F,RW.nd⟩);refine⟨a,us,ns.zip ts,trees q,F1,Gs,Mw,y,by rw[ZM],?_,Sn.at (Nu a) TX,?_,?_,?_,eg,λu p P A ru=>?_⟩
      ·rw[eF];exact .ins (C a _ hA) hl (λ_=>rfl) ((ra.same C).at (Nu a) (eX Rw Oe))
      ·rw[j3 N];simp[trees]
      ·refine ZF.mpr ⟨w3,RW.nd.sublist (ou N),λd D b2 RT z=>?_⟩;subst z;exact Kn.pe (w2.Kw d D) (Rv d RT)
      ·rw[qU N Sn];exact λd _ z=>nomatch z
      ·have back:Rp G p (.ref a) (.obj (c+1) ((0,.bl b) :: Mw)) P:=by
        refine L2.ai λP_ l=>?_;obtain⟨c2,a2,dx2,b2,ns2,UL,ts2,Fs2,RY,Ug,eb2,ef2,Ui,T6,Ma,RT,OH⟩:=d6 A.rp;cases RY;cases Ug;subst ef2;refine l ?_;rw[Ui];exact .ins T6 Ma hb (OH.at G.me (eX (Ma.trans OH.len.1) OT.1))
       obtain⟨F2,g2⟩:=w5 p P (⟨(Kept.of C).trans A.kept,λd o1 D S=>A.keep d o1 (λz=>(Zc.mp z).elim D λz=>by rw[Rv d z]at S;cases S) (C d o1 S),λd h=>A.Kw d λz=>h (C.free z),back,A.nd,λd D=>by
        rcases A.sub d D with z | z
        ·rcases Zc.mp z with z | z
         ·exact .inl z
         ·exact .inr (Rv d z)
        ·exact .inr (C.free z)⟩)
       obtain⟨z1,z2⟩:=s.mut L h1 g2;exact kq u p _ z1 z2 (ru.at G.me (lQ y OT.2))
    ·cases e7
   ·cases r
  ·cases r
 ·cases e
def DK(J:ke G)(p:∀k,(G.ct (c+1)).2 k≠m)(n:Nq G X o i way)(u:LX X.K (G.ct (c+1)).1)(q:Meth X.K (G.ct (c+1)).1 m f)(F:FnOk X.prog X.w X.K X.mg X.base La k f fd ps (Oa G c mv g))(l:p0 k' X.A)(r:k<=k')(v:Binds X.K fd ps [])(x:Lv G X (e :: es) cs)(y:K1 e es X)(z:K2 pos es X)(j:eval (.Call (.Attribute o m apos) (e :: es) [] pos) X.env=(do
   let a ← eval o X.env
   standAt apos.atName
   let (f,first) ← holding [a] (getMethod a m d)
   callWith pos f first (backTo pos (P3 (e :: es) X.env)) (backToKw pos (SZ [] X.env)))):PX G X (.Call (.Attribute o m apos) (e :: es) [] pos) (bN i way c mv g cs) :=
 PE.weak (rH n u q F (l.mono r) v .nil jT x y z j) λO H Q h=>uT J p (λZ U b O H R s e k=>⟨Z,U,b,s,e,k⟩) h
def Ay(J:ke G)(n:∀k,(G.ct (c+1)).2 k≠m)(l:Nq G X o i way)(r:LX X.K (G.ct (c+1)).1)(p:Meth X.K (G.ct (c+1)).1 m f)(F:FnOk X.prog X.w X.K X.mg X.base La k f fd ps (Oa G c mv g))(j:p0 k' X.A)(q:k<=k')(u:Binds X.K fd ps [])(d:eval (.Call (.Attribute o m apos) [] [] pos) X.env=(do
   let a ← eval o X.env
   standAt apos.atName
   let (f,first) ← holding [a] (getMethod a m b)
   callWith pos f first (backTo pos (P3 [] X.env)) (backToKw pos (SZ [] X.env)))):PX G X (.Call (.Attribute o m apos) [] [] pos) (bN i way c mv g aj) :=
 PE.weak (sJ l r p F (j.mono q) u .nil jT d) λO H Q h=>uT J n (λZ U x O H R s e k=>by
  cases (e);exact k [] H [] (aO.refl _) .nil ⟨λi v F h=>by simp at h,by simp[LS]⟩) h
def US(x:Xx):Sx:=λU=>(x U).bind λz=>if Kh z.1.2 then Y (.nx z.2) else J
def eJ(j:Nat)(x:Xx):Sx:=λU=>(x U).bind λz=>if Kh z.1.2=M/\j<z.2.length then Y (.nx (z.2.set j (Y (.pu z.1.2)))) else J
def mJ(x:Xx):Sx:=λU=>(x U).bind λz=>if Kh z.1.2 then Y (.rt (.fr,z.1.2) z.2) else J
def t4{pos:Pos}(h:PX G X e x)(n:swapsWith e J pos.line X.env=pure B):PSV G X (.Expr e pos) (US x) :=
 PS.weak (jz h n) λD O H b=>by
  obtain⟨Z,U,out,s,e,k⟩:=b;obtain⟨⟨v,l⟩,e1,e2⟩:=Zz.mp e;split at e2
  ·rename_i d;cases e2;exact⟨Z,U,v,l,s,e1,d,λu p j a f r=>k j O p a f⟩
  ·cases e2
def wa(h:PX G X e x):PSV G X (.Return (Y e) pos) (mJ x) :=
 PS.weak (rV h) λD O H d=>by
  obtain⟨Z,U,out,s,e,k⟩:=d;obtain⟨⟨v,n⟩,e1,e2⟩:=Zz.mp e;split at e2
  ·rename_i j;cases e2;exact⟨Z,U,v,n,s,e1,j,λu p l b f r=>k u p [] l O b f r ⟨Yn,λa h=>nomatch h⟩⟩
  ·cases e2
def fq{pos:Pos}(h:PX G X e x)(E:X.N.Nodup)(l:X.N[j]?=Y d)(y:Loc X.env.scope d)(z:{`q8,swapsWith e (Y (.Name d b)) pos.line X.env=pure B})(C:{`q9,X.fn d=M\/X.env.scope.names.lookup d=Y .local}) :
  PSV G X (.Assign [.Name d b] e pos) (eJ j x) :=
 PS.weak (rB E l y h z C) λD O H A=>by
  obtain⟨Z,U,out,s,e,k⟩:=A;obtain⟨⟨v,F⟩,e1,e2⟩:=Zz.mp e;split at e2
  ·rename_i l;cases e2;refine⟨Z,U,v,F,s,e1,l.1,λu n P p f r=>?_⟩;obtain⟨w,q⟩:=p.val (m:=.fr) l.2 (aO.refl n) r ⟨Yn,λa h=>nomatch h⟩ (.inl ⟨rfl,by decide⟩);exact k _ _ n w (f.trans q)
  ·cases e2
def ly(i:Nat)(a:List Np)(k:Ex)(x:Xx):Sx:=λU=>(x U).bind λz=>if Kh z.1.2 then fC i a k (λ_=>Y (.fr,z.1.2)) z.2 else J
def Af{mv:Md}(J:ke G)(s:SR G Z U O H)(R:U[i]?=Y (Y (.ow t)))(ek:keys way U=Y P)(O5:ck U=Y (mk,b))(e5:pm (lL (mk,b) (mv,p)) P t=Y (t',y'))(LD:aO H H1)(rv:Rp G H1 xv p Fv)(S:Fp Z U H mv Fv)(k:∀Z' H',SR G Z' (U.set i (Y (.ow t'))) O H'->Ku Z U H Z' (U.set i (Y (.ow t'))) H'->D O H'):Jj (UO G i way) (tE G ck) Fb xv O H1 D:=by
   refine L2.ai λP_ Q=>?_;obtain⟨v,g1,g2⟩:=s.rp _ _ R;obtain⟨w,x,F1,x3,w1,w2,w3,C,w5⟩:=nW P J g2 (s.nd i t R) e5;refine Q ?_;refine⟨Z,U,t,P,v,w,s.same LD,R,g1,ek,w1.same LD,λH2 Lu=>⟨Z,U,mk,b,(s.same LD).same Lu,O5,λkv H3 Fk Nd rk fk=>?_⟩⟩;have q:=(LD.trans Lu).trans Nd;have Pg:=(rv.same Lu).same Nd;have fin:∀L A,Chg G H w F1 x3 L A->D O L:=λL A g=>by
    obtain⟨F2,SG⟩:=w5 L A g;obtain⟨z1,z2⟩:=s.mut R g1 SG;exact k _ L z1 z2
   refine L2.ai λP_ Q=>?_;cases x with
   |lst l =>
    cases b with
    |int n =>
     obtain⟨tt,et,e7⟩:=Zz.mp (C);obtain⟨j,ej,e8⟩:=Zy.mp e7;cases e8;cases (nj et);obtain⟨a,vs,Fs,rfl,rfl,F,u⟩:=w2.lst_inv;have E:=q a _ F;have nd:=ZY.mp w3;have na:a∉Fv:=λz=>by rw[S.2 a z]at F;cases F
     have y:Kn (H3 a):=by rw[E];exact True.intro
     have off:=λd hb hv=>Kn.pe (u.Kw d hb) (S.2 d hv);refine Q ?_;refine .inl ⟨a,vs,n,j,rfl,rk.int_inv,E,by rw[← vJ,u.len.1];exact ej,fin _ (a :: (Fs.set j Fv).flatten) ?_⟩;refine Chg.upd q Zv y (.lst aw ((((u.same q).off y nd.1)).putAt j ((λr hn=>r.keep (Kept.upd (.inl y)) λd hb o' NI=>by rw[aD (λz=>hn (by rw[← z];exact hb))];exact NI) Pg na))) ?_ ?_
     ·rw[ZY];refine⟨λh=>?_,eE nd.2 S.1 λi' A _ hi d hb=>off d (de hi hb)⟩;rcases cI h with z | ⟨i',A,_,h1,h2⟩
      ·exact na z
      ·exact nd.1 (de h1 h2)
     ·intro d hb;rcases Zi.mp hb with rfl | hb
      ·exact .inl Zv
      ·rcases cI hb with z | ⟨i',A,_,h1,h2⟩
       ·exact .inr (S.2 d z)
       ·exact .inl (Zx _ (de h1 h2))
    |_=>cases C
   |dct kd l =>
    cases kd with
    |zero =>
     have hc:(iu b=M/\Kh p=M/\l.length<fI)/\x3=.dct 0 (dput l b p):=by
      have Rk:(if iu b/\Kh p/\l.length<fI then Y (T.dct 0 (dput l b p),()) else none)=Y (x3,y'):=C;split at Rk
      ·rename_i hc;cases Rk;exact⟨hc,rfl⟩
      ·cases Rk
     obtain⟨⟨c1,c2,c3⟩,rfl⟩:=hc;have eF:=Pg.Kh c2;subst eF;obtain⟨a,ns,vs,ts,Fs,rfl,rfl,F,hl,rfl,u⟩:=fj w2;obtain⟨kk,rfl,O0⟩:=dg rk c1;subst O0;have E:=q a _ F;have y:Kn (H3 a):=by rw[E];exact True.intro
     have nd:=ZY.mp w3;obtain⟨NX,Ml,LC,Mg,q1,q2,q3,q4,N⟩:=rz Pg hl (u.same q);refine Q ?_;refine .inr ⟨a,_,rfl,vv.k E (by
      have:((ns.map aK).zip ts).length<16777216:=c3;rw[YL,Zw]at this;rw[YL];have:=u.len.1;have:(KM:Nat)=16777216:=rfl;lia),fin _ (a :: Mg.flatten) ?_⟩
     rw[q1,q3];refine Chg.upd q Zv y (.dct aw q2 (q4.off y λz=>nd.1 (N.subset z))) ?_ ?_
     ·exact ZY.mpr ⟨λz=>nd.1 (N.subset z),nd.2.sublist N⟩
     ·intro d hb;rcases Zi.mp hb with rfl | hb
      ·exact .inl Zv
      ·exact .inl (Zx _ (N.subset hb))
    |succ n=>cases C
   |_=>cases C
def qY{X:Cx}{pos:Pos}(J:ke G)(E:p0 w X.A)(L:Nq G X o i way)(N:PV G X b l)(he:PX G X e x)(Q:∀v,assign (.Subscript o b d) X.env v=(do
   let j ← holding [v] (eval o X.env)
   let iv ← holding [v,j] (eval b X.env)
   standAt d
   holding [v,j,iv] (setItem j iv v)
   release [v,j,iv] []))(C:swapsWithSole [.Subscript o b d] e pos.line X.env=pure B)(hw:swappedStores [.Subscript o b d] e X.env=pure none)(R:(assignEach [.Subscript o b d] X.env).map (·.2)=[assign (.Subscript o b d) X.env]):PSV G X (.Assign [.Subscript o b d] e pos) (ly i way l x) :=
 PS.weak (vP he (vU L N (zi (jL E)) Q) C hw R) λD O H F=>by
  refine L2.ai λP_ y=>?_;obtain⟨Z,U,out,s,e,k⟩:=F;obtain⟨⟨v,U'⟩,e1,e2⟩:=Zz.mp e;refine y ?_;split at e2
  ·rename_i P;refine⟨Z,U,v,U',s,e1,P,λu H' Z' q f r=>?_⟩;obtain⟨⟨mv,tv⟩,ev,e2⟩:=Zz.mp e2;cases ev;split at e2
   ·rename_i t z;obtain⟨ks,S,e2⟩:=Zz.mp e2;obtain⟨⟨mk,tk⟩,O5,e2⟩:=Zz.mp e2;obtain⟨⟨t',y'⟩,e5,e6⟩:=Zy.mp e2;cases e6;exact Af J q z S O5 e5 (aO.refl H') r ⟨Yn,λa h=>nomatch h⟩ λZ2 H2 p n=>k _ O H2 p (f.trans n)
   ·cases e2
  ·cases e2
end
end VS
end
section
namespace L2
open PySem PySem.Spec PyProof.Rows
def vw:dw X (.type "dict") (λf H Q=>∃(d:On)(a:List (Key×V)),f=[.ref d]/\H d=Y (.dK a)/\∀l,H l=J->Q (.ref l) (upd H l (.dK a))):=by
 intro g s O H f w Q I j h;obtain⟨d,a,rfl,hd,q⟩:=h;obtain⟨u,rfl,m⟩:=j.one;cases m;obtain⟨i,r,v,rel,n⟩:=uu I.Kd hd;refine PySem.kt_call_dict r n (by rw[← Wp rel];exact i) λx p sb=>?_;exact⟨.ref s.heap.objs.size,_,I.laid (λb o e=>(sb.2 b (Za (ZO e))).trans (Zj _ e)) (Zn _) (qW i (beq_eq_false_iff_ne.mpr (Y4 (Za I.big))) rel p),rfl,q _ (I.Kd.fresh (Zn _))⟩
end L2
namespace VS
open PySem PySem.Spec PyProof.Rows L2
def n9:Uv->Uu
 |[(_,.dct 0 l)]=>if gE (l.map (·.2))=M then Y (.fr,.dct 0 l) else J
 |_=>J
section
def AL:fF G (λs H Q=>∃(d:On)(n:List (Key×V)),s=[.ref d]/\H d=Y (.dK n)/\∀l,H l=J->Q (.ref l) (upd H l (.dK n))) n9:=by
 intro Z U N H l z O m t Q A e k;unfold n9 at e;split at e
 ·rename_i D E;split at e
  ·rename_i j;refine L2.ai λL w=>?_;cases e;obtain⟨v,F,rfl,rfl,r⟩:=(A.rp).one;obtain⟨a,ns,u,C,y,rfl,rfl,x,i,rfl,f⟩:=fj r;refine w ?_;refine⟨a,_,rfl,x,λq h=>?_⟩;have g:aO H (upd H q (.dK (ns.zip u))):=cF h;rw[List.map_snd_zip (by rw[Zw,i,f.len.1];exact Zn _)]at j;refine k _ _ (q :: y.flatten) g (.dct aw i (f.same g)) ?_;rw[(f.Kh j)];exact Fp.new (A.same.free h) (by simp) Fp.nil
  ·cases e
 ·cases e
def CT{X:Cx}(d:X.mg "dict" = J)(g:Lv G X [e] cs)(f:Gl X "dict")(he:K1 e [] X):PV G X (.Call (.Name "dict" p) [e] [] pos) (eN n9 cs) :=
 jH vw AL f d wg g (he:=he)
def FJ{i d:Int}:PV G X (.Dict [Y (.Constant (.int i) j q)] [.Constant (.int d) l g] pos) (vh 0 [(Q3 i,Q3 d)]) :=
 PE.weak (CL (zq qJ qJ Cy) L L (by simp) (by show 1<=15;decide)) λO H Q n=>by
  refine L2.ai λu h=>?_;obtain⟨Z,U,m,r,s,e,k⟩:=n;cases (e);refine h ?_;intro p f;refine⟨aw,[(Sum.inl i,.int d)],rfl,(by show 1<=15;decide),?_⟩;rw[Et];have:Rp G (upd H p (.dK [(Sum.inl i,V.int d)])) (.ref p) (.dct 0 ((([Sum.inl i]:List Key).map aK).zip [.int d])) (p :: ([[]]).flatten) :=
   .dct aw L (.cons (.int d) .nil)
  exact k _ _ _ (cF f) this ⟨by simp,λb hb=>by simp at hb;rw[hb];exact f⟩
def yu(x y:Val):Uu:=match x.2 with
 |.dct 0 l=>if iu y.2 then Y (match eA l y.2 with | some t=>sub x.1 t | none=>(.fr,.non)) else none
 |_=>J
def w_get{X:Cx}{apos:Pos}(N:p0 kr X.A)(R:PV G X o ca)(he:PV G X e cb)(Kv:XAC o "get" X.env (eval o X.env)=eval o X.env)(K5:((backTo oe (P3 [e] X.env)).all (λx=>!x.1)&&(backToKw oe (SZ [] X.env)).all (λx=>x.1.isSome)
   && decide (([e]:List Expr).length+([]:List Keyword).length+(if ([]:List Keyword).isEmpty then 0 else 1)<30))=M)(Kr:(apos.endLine==oe.line)=M)(h:backTo oe (P3 [e] X.env)=[(B,eval e X.env)]):PV G X (.Call (.Attribute o "get" apos) [e] [] oe) (e2 yu ca cb) :=
 PE.weak (zH (jL N) R he ⟨Kv,K5,Kr,h⟩) λO H Q P=>by
  obtain⟨Z,U,m,r,s,e,w⟩:=P;obtain⟨⟨D,x⟩,ea,e⟩:=Zz.mp e;obtain⟨⟨C,y⟩,eb,e⟩:=Zz.mp e;unfold yu at e;split at e
  ·rename_i l L;subst L;split at e
   ·rename_i hk;have d:=Zl e;refine⟨Z,U,D,_,s,ea,λv H1 F1 u r1 f1=>?_⟩;refine L2.ai λP_ E=>?_;obtain⟨a,ks,vs,ts,Fs,rfl,rfl,j,S,rfl,q⟩:=fj r1;refine E ?_;refine⟨a,rfl,.inl ⟨_,.inl j⟩,Z,U,C,y,s.same u,eb,λv2 z F2 g r2 f2=>?_⟩;obtain⟨kk,rfl,ek⟩:=dg r2 hk;rw[ek]at d;rcases lJ S (q.same g) with⟨h1,h2⟩ | ⟨i,v,t2,F,a1,a2,a3,a4,n⟩
    ·rw[h1]at d;cases d;refine⟨_,fK.k (g a _ j),?_⟩;rw[h2];exact w .non z [] (u.trans g) .non Fp.nil
    ·rw[a1]at d;refine⟨_,fK.k (g a _ j),?_⟩;rw[a2];have f:=((f1.sub (YT _ _)).sub (b6 a4)).up n;unfold VS.sub at d;dsimp only at d;rw[d]at f;have et:t2=r:=congrArg Prod.snd d;rw[et]at n;exact w v z F (u.trans g) n f
   ·cases e
  ·cases e
def uw(x y:Val):Uu:=match x.2 with
 |.dct 3 l=>if iu y.2 then (eA l y.2).map (sub x.1) else J
 |_=>J
def tN(r:Rp G H v (.dct 3 l) F):∃(a:On)(o:Obj)(f:List Key)(d:List V)(g:Ut)(h:Yx),v=.ref a/\F=h.flatten/\H a=Y (.frz o (.dK (f.zip d)))/\f.length=d.length/\l=(f.map aK).zip g/\RpL G H d g h:=r.inv
def GG:eT G (Jw G.K) uw:=by
 intro Z U S H x y u w F1 F2 m t Q d e k;obtain⟨O,x⟩:=x;unfold uw at e;split at e
 ·rename_i l h;subst h;split at e
  ·rename_i n;obtain⟨N,e1,e2⟩:=Zy.mp e;obtain⟨a,o,P,E,L,Fs,rfl,rfl,r,j,rfl,q⟩:=tN d.r1;obtain⟨g,rfl,z⟩:=dg d.r2 n;rw[z]at e1;rcases lJ j q with⟨s,_⟩ | ⟨i,v,t2,F,D,C,R,A,f⟩
   ·rw[s]at e1;cases e1
   ·rw[D]at e1;cases e1;cases e2;refine .inr ⟨a,v,rfl,.inl ⟨_,g,.inr ⟨o,r⟩,rfl,C.symm⟩,?_⟩;exact k v H F (aO.refl _) f ((d.f1.sub (b6 A)).up f)
  ·cases e
 ·cases e
def EI{X:Cx}(f:p0 kr X.A)(i:PV G X a ca)(g:PV G X b cb)(d:fX b)(j:X.K=G.K):PV G X (.Subscript a b pos) (e2 uw ca cb) :=
 PE.weak (mO (Mf.or kg (qE (jL f))) i g d) λO H Q h=>by rw[j];exact mw GG h
end
def eNew(c:Nat)(g:Mt)(b:Kx):Ex:=λU=>(b U).bind λa=>if bX (trees a)=M then (g [] (trees a)).bind λz=>if ft z.1=M/\Sw z.2=M then Y (.fr,.obj (c+1) ((0,.bl B) :: z.1)) else J else J
def fN(c:Nat)(g:Fn)(d:Ex)(b:Kx):Ex:=λU=>(d U).bind λx=>match x.2 with
 |.obj e (_ :: _)=>if e=c+1 then (b U).bind λa=>(g (x.2 :: trees a)).bind λr=>match r.1 with
  |.fr=>Y r
  |_=>J else J
 |_=>J
theorem BN{α:Type}:∀(l:List α)(a:Yx),Lh (l.map λ_=>B) a=[]
 |[],_=>by simp[Lh]
 |_ :: _,[]=>by simp[Lh]
 |_ :: l,F :: a=>by
  rw[Zm,Lh,Zo Zh,Ye];exact BN l a
theorem AX:∀(mv:List Bool)(d:Yx),∀a∈NB mv d,a∈d.flatten
 |[],_,a,h=>by simp[NB]at h
 |_ :: _,[],a,h=>by simp[NB]at h
 |b :: bs,F :: d,a,h=>by
  rw[NB]at h;rw[ZG];rcases Zc.mp h with h | h
  ·cases b with
   |true=>simp at h
   |false=>exact Yl _ (by simpa using h)
  ·exact ZI _ (AX bs d a h)
section
def CH{G:Gx}(r:Rp G H u t F)(h:Sw t=M):u=.non:=by
 cases r with
 |non=>rfl
 |_=>cases h
def A9{X:Cx}(F:∀n,FnOk X.prog X.w X.K X.mg X.base La k f fd ps (Oa G c (List.replicate n B) g)->True)(ht:∀Z U d O H (R:List V->Hp->Prop),SR G Z U O H->cs U=Y d->(∀D C Fs,aO H C->RpL G C D (trees d) Fs->Qx Z U H d Fs->R D C)->t O H R)(n:Nat)(hn:∀U d,cs U=Y d->d.length=n)(hq:tE G (eNew c g cs) O H Q):BW (G.ct (c+1)).1 (Oa G c (List.replicate n B) g) [] E t O H Q:=by
 refine L2.ai λP_ P=>?_;obtain⟨Z,U,mo,r,s,e,kq⟩:=hq;obtain⟨d,el,e1⟩:=Zz.mp e;refine P ?_;split at e1
 ·rename_i TX;obtain⟨⟨Mw,y⟩,eg,e2⟩:=Zz.mp e1;split at e2
  ·rename_i hc;cases e2;refine ht Z U d O H _ s el λD H1 Gs LD l fp1 a dx ha S ne=>?_;have v:=LD.free ha;have Lu:aO H1 (upd (upd H1 dx (.own a)) a (.ins (G.ct (c+1)).1 dx [])):=λb N q=>by
    rw[aD (λz=>by rw[z,ha]at q;cases q),aD (λz=>by rw[z,S]at q;cases q)];exact q
   have em:List.replicate n B=(List.range n).map λ_=>B:=by rw[List.map_const',MH]
   have j:Lh (List.replicate n B) Gs=[]:=by rw[em];exact BN _ _
   refine⟨a,D,[],trees d,[a],Gs,Mw,y,by rw[ZM],.ins (ks:=[]) aw L (λ_=>rfl) .nil,(l.same Lu).at (Nu a) TX,?_,?_,?_,eg,λu C F' A ru=>⟨CH ru hc.2,?_⟩⟩
   ·simp[trees,(hn U d el)]
   ·rw[j];simp
   ·rw[j];intro b hb KR;have:b=a:=by simpa using hb
    subst this;exact Kn.pe (l.Kw b (AX _ _ b KR)) ha
   ·rw[j,ZM]at A;refine kq (.ref a) C F' (λb N q=>A.keep b N (λz=>?_) (Lu b N (LD b N q))) (by
     refine L2.ai λP_ P=>?_;obtain⟨c2,a2,dx2,b2,ns2,UL,ts2,Fs2,RY,Ug,eb2,ef2,Ui,T6,Ma,RT,OH⟩:=d6 A.rp;cases RY;cases Ug;subst ef2;refine P ?_;rw[Ui];exact .ins T6 Ma (λz=>nomatch z) (OH.at G.me (eX (Ma.trans OH.len.1) hc.1))) ⟨A.nd,λb hb=>?_⟩
    ·have:b=a:=by simpa using z
     rw[this,v]at q;cases q
    ·rcases A.sub b hb with z | z
     ·have:b=a:=by simpa using z
      rw[this];exact v
     ·exact(λb z=>LD.free (Lu.free z)) b z
  ·cases e2
 ·cases e1
def IS{G:Gx}{X:Cx}(n:Nat)(M:Mk X.K (G.ct (c+1)).1 f)(F:FnOk X.prog X.w X.K X.mg X.base La k f fd ps (Oa G c (List.replicate n B) g))(b:p0 k' X.A)(l:k+1<=k')(q:Gl X x)(j:X.mg x=Y (.ref (G.ct (c+1)).1))(r:Binds X.K fd ps [])(u:Lv G X (e :: es) cs)(d:∀U a,cs U=Y a->a.length=n)(v:K3 x)(he:K1 e es X)(y:K2 pos es X):PV G X (.Call (.Name x p) (e :: es) [] pos) (eNew c g cs) :=
 PE.weak (Co M F (b.mono l) q j r .nil jT u v he y) λO H Q h=>A9 (X:=X) (k:=k) (f:=f) (fd:=fd) (ps:=ps) (λ_ _=>True.intro) (λZ U a O H R s e k=>⟨Z,U,a,s,e,k⟩) n d h
def FZ{G:Gx}{X:Cx}(M:Mk X.K (G.ct (c+1)).1 f)(F:FnOk X.prog X.w X.K X.mg X.base La k f fd ps (Oa G c [] g))(b:p0 k' X.A)(j:k+1<=k')(l:Gl X x)(d:X.mg x=Y (.ref (G.ct (c+1)).1))(n:Binds X.K fd ps [])(q:K3 x):PV G X (.Call (.Name x p) [] [] pos) (eNew c g aj) :=
 PE.weak (BS M F (b.mono j) l d n .nil jT q) λO H Q h=>A9 (X:=X) (k:=k) (f:=f) (fd:=fd) (ps:=ps) (λ_ _=>True.intro) (λZ U a O H R s e k=>by
  cases (e);exact k [] H [] (aO.refl _) .nil ⟨λi v F h=>by simp at h,by simp[LS]⟩) 0 (λU a e=>by
  cases (e);rfl) h
theorem xC{g:Nat->Str}(b:∀k,g k≠m):∀(ns:Uz)(a:List V),((ns.map g).zip a).lookup m=J
 |[],a=>by simp
 |_ :: _,[]=>by simp
 |n :: ns,v :: a=>by
  rw[Zm,ZJ,YR];have:(m==g n)=B:=by
   rw[beq_eq_false_iff_ne];exact λz=>b n z.symm
  rw[this];exact xC b ns a
def wo{G:Gx}(hn:∀k,(G.ct (c+1)).2 k≠m)(S:∀Z U d O H (R:List V->Hp->Prop),SR G Z U O H->cs U=Y d->(∀l j A,aO H j->RpL G j l (trees d) A->Qx Z U H d A->R l j)->t O H R)(hq:tE G (fN c h ca cs) O H Q):xp (G.ct (c+1)).1 m (M3 G h) [] E (tE G ca) t O H Q:=by
 refine L2.ai λP_ q=>?_;obtain⟨Z,U,mo,r,s,e,N⟩:=hq;obtain⟨⟨L,y⟩,ea,e1⟩:=Zz.mp e;refine q ?_;split at e1
 ·rename_i c' q0 fs P;subst P;split at e1
  ·rename_i hc;subst hc;obtain⟨d,el,e2⟩:=Zz.mp e1;obtain⟨⟨n,F⟩,eg,e3⟩:=Zz.mp e2;refine⟨Z,U,L,_,s,ea,λv H1 F1 z r1 f1=>?_⟩;refine L2.ai λP_ q=>?_;obtain⟨c2,a,dx,b,ns,l,ts,A,ec,rfl,eb,ef,eF,hA,hl,hb,ra⟩:=d6 r1;cases ec;refine q ?_;refine⟨a,dx,_,rfl,hA,xC hn _ _,S Z U d O H1 _ (s.same z) el λus H2 Gs w Sn RW=>?_⟩;rw[ZM];refine⟨_ :: trees d,F1 :: Gs,n,F,.cons (r1.same w) Sn,eg,λu j F' Nd D C=>?_⟩;cases n with
   |fr =>
    cases e3;exact N u j F' ((z.trans w).trans Nd) D ⟨C.1,λb hb=>z.free (w.free (C.2 b hb))⟩
   |pu=>cases e3
   |bo=>cases e3
  ·cases e1
 ·cases e1
def GA{G:Gx}(r:∀k,(G.ct (c+1)).2 k≠m)(n:PV G X o ca)(y:LX X.K (G.ct (c+1)).1)(u:Meth X.K (G.ct (c+1)).1 m f)(F:FnOk X.prog X.w X.K X.mg X.base La k f fd ps (M3 G h))(l:p0 k' X.A)(v:k<=k')(z:Binds X.K fd ps [])(C:Lv G X (e :: es) cs)(D:K1 e es X)(E:K2 pos es X)(j:eval (.Call (.Attribute o m apos) (e :: es) [] pos) X.env=(do
   let a ← eval o X.env
   standAt apos.atName
   let (f,first) ← holding [a] (getMethod a m d)
   callWith pos f first (backTo pos (P3 (e :: es) X.env)) (backToKw pos (SZ [] X.env)))):PV G X (.Call (.Attribute o m apos) (e :: es) [] pos) (fN c h ca cs) :=
 PE.weak (rH n y u F (l.mono v) z .nil jT C D E j) λO H Q q=>wo r (λZ U b O H R s e k=>⟨Z,U,b,s,e,k⟩) q
def DF{G:Gx}(n:∀k,(G.ct (c+1)).2 k≠m)(l:PV G X o ca)(y:LX X.K (G.ct (c+1)).1)(r:Meth X.K (G.ct (c+1)).1 m f)(F:FnOk X.prog X.w X.K X.mg X.base La k f fd ps (M3 G h))(j:p0 k' X.A)(u:k<=k')(z:Binds X.K fd ps [])(d:eval (.Call (.Attribute o m apos) [] [] pos) X.env=(do
   let a ← eval o X.env
   standAt apos.atName
   let (f,first) ← holding [a] (getMethod a m b)
   callWith pos f first (backTo pos (P3 [] X.env)) (backToKw pos (SZ [] X.env)))):PV G X (.Call (.Attribute o m apos) [] [] pos) (fN c h ca aj) :=
 PE.weak (sJ l y r F (j.mono u) z .nil jT d) λO H Q q=>wo n (λZ U C O H R s e k=>by
  cases (e);exact k [] H [] (aO.refl _) .nil ⟨λi v F h=>by simp at h,by simp[LS]⟩) q
end
def rJ(i:Nat)(a:List Np)(j:Nat)(U:VS.Env):Option Out:=match (U[i]?:Option (Uw)),(U[j]?:Option (Uw)) with
 |some (some (.ow t)),some (some (.ow u))=>if i≠j then (keys a U).bind λb=>(pm (λx=>aJ x [(.fr,u)]) b t).map λz=>.nx ((U.set j J).set i (Y (.ow z.1))) else J
 |_,_=>J
open Classical in
noncomputable def less(H:Hp)(F:W9):Hp:=λb=>if b∈F then J else H b
section
def qS(h:b∈F):less H F b=J:=Zp h
def iq(h:b∉F):less H F b=H b:=Zo h
def ic{o:HO}(h:less H F b=Y o):H b=Y o/\b∉F:=by
 by_cases q:b∈F
 ·rw[qS q]at h;cases h
 ·rw[iq q]at h;exact⟨h,q⟩
def yK(h:∀b∈F,Kn (H b)):Kept H (less H F) :=
 ⟨λb a e=>by
  rw[iq (λz=>by have:=h b z;rw[e]at this;exact this)];exact e,λb o u e=>by
  rw[iq (λz=>by have:=h b z;rw[e]at this;exact this)];exact e⟩
def Ef{apos pos:Pos}(J:ke G)(ho:Nq G X o i way)(hK:X.K=G.K)(hN:X.N[j]?=Y y)(hv:M7 X.env.scope y)(hd:K3 y)(hcd:K4 y)(Kv:XAC o "append" X.env (eval o X.env)=eval o X.env)(K5:((backTo oe (P3 [.Name y p1] X.env)).all (λx=>!x.1)&&(backToKw oe (SZ [] X.env)).all (λx=>x.1.isSome)
   && decide ([Expr.Name y p1].length+([]:List Keyword).length+(if ([]:List Keyword).isEmpty then 0 else 1)<30))=M)(Kr:(apos.endLine==oe.line)=M)(hs:P3 [.Name y p1] X.env=(B,eval (.Name y p1) X.env) :: P3 [] X.env)(Kl:(backTo oe (P3 [] X.env)).any (·.1)=B)(MU:swapsWith (.Call (.Attribute o "append" apos) [.Name y p1] [] oe) none pos.line X.env=pure B) :
  PSV G X (.Expr (.Call (.Attribute o "append" apos) [.Name y p1] [] oe) pos) (rJ i way j) :=
 PS.weak (jz (qk Wq Wy Wz iw ho (cZ (fh hN hv hd hcd) g8 hs) Kv K5 Kr hs Kl) MU) λD O H hq=>by
  obtain⟨Z,U,out,s,e,k⟩:=hq;unfold rJ at e;split at e
  ·rename_i t u ht P;split at e
   ·rename_i M5;refine L2.ai λP_ k_=>?_;obtain⟨C,ek,e3⟩:=Zz.mp e;obtain⟨⟨S,x2⟩,e5,e6⟩:=Zy.mp e3;cases e6;obtain⟨vj,j1,j2⟩:=s.rp _ _ P;have L:=j2;have ndj:=s.nd j u P;have kp:=yK L.Kw;have s0:SR G Z (U.set j none) O (less H (Z j)):=⟨(s.drop j).len,λi' c' h=>by
     obtain⟨n,h'⟩:=cP h;obtain⟨v,h1,h2⟩:=s.rp i' c' h';exact⟨v,h1,h2.keep kp λb hb d Sz=>by rw[iq ((λi' c' n h b hb KR=>s.sep j i' u c' P h (Y4 n) b KR hb) i' c' n h' b hb)];exact Sz⟩,(s.drop j).nd,(s.drop j).sep⟩
    have g:(U.set j none)[i]?=Y (Y (.ow t)):=by
     rw[YU (Y4 M5)];exact ht
    obtain⟨v,h1,h2⟩:=s0.rp _ _ g;obtain⟨w,x,F1,x3,w1,w2,w3,E,w5⟩:=nW C J h2 (s0.nd i t g) e5;refine k_ ?_;unfold aJ at E;dsimp only at E;split at E
    ·rename_i l yv heq;cases heq;obtain⟨z,ez,e7⟩:=Zz.mp E;cases (ez);split at e7
     ·rename_i hl;cases e7;obtain⟨a,us,Gs,rfl,rfl,ha,ra⟩:=w2.lst_inv;obtain⟨r,Q⟩:=ic ha;refine⟨Z,U,t,C,v,.ref a,s,ht,h1,ek,(by
       have:∀{C:List Ky}{v w:V},Mc G (less H (Z j)) C v w->Mc G H C v w:=by
        intro C v w p
        induction p with
        |nil v=>exact .nil v
        |fld h l _ f=>exact .fld (ic h).1 l f
        |ix h l m _ f=>exact .ix (ic h).1 l m f
        |key h l _ f=>exact .key (ic h).1 l f
        |un _ f=>exact .un f
       exact this w1),λH0 A=>⟨.inl ⟨rfl,us,by rw[hK];exact Kt.of (A a _ r)⟩,vj,j1,a,us,vj,rfl,rfl,A a _ r,by rw[ra.len.1];exact hl,?_⟩⟩
      have m0:Kn (H0 a):=by rw[A a _ r];exact True.intro
      have Tp:=ZY.mp w3;have F:=λb hb KR=>by
       have:=ra.Kw b hb;rw[qS KR]at this;exact this
      have R:∀b d,less H (Z j) b=Y d->H0 b=Y d:=λb d h=>A b d (ic h).1;have kl:Kept (less H (Z j)) H0:=⟨λb xs h=>R b _ h,λb d u h=>R b _ h⟩
      obtain⟨F2,g2⟩:=w5 _ _ (by
       refine⟨kl.trans (Kept.upd (.inl m0)),λb d hb h=>by rw[aD (λz=>hb (by rw[z];exact Zv))];exact R b d h,λb h z=>?_,.lst aw ((RpL.off (ra.keep kl λb hb d h=>R b d h) m0 Tp.1).append (.cons (((L.same A)).keep (Kept.upd (.inl m0)) λb hb d ho=>by rw[aD (λz=>Q (by rw[← z];exact hb))];exact ho) .nil)),?_,λb hb=>?_⟩
       ·by_cases q:b=a
        ·rw[q,aw]at z;cases z
        ·rw[aD q]at z;cases e:less H (Z j) b with
         |none=>exact h e
         |some d=>rw[R b d e]at z;cases z
       ·rw[YX];refine ZY.mpr ⟨λm=>?_,ZF.mpr ⟨Tp.2,by simpa using ndj,λb hb c hc z=>?_⟩⟩
        ·rcases Zc.mp m with m | m
         ·exact Tp.1 m
         ·exact Q (by simpa using m)
        ·subst z;exact F b hb (by simpa using hc)
       ·rcases Zi.mp hb with rfl | hb
        ·exact .inl Zv
        ·rw[YX]at hb;rcases Zc.mp hb with hb | hb
         ·exact .inl (Zx _ hb)
         ·exact .inr (qS (by simpa using hb)))
      obtain⟨z1,z2⟩:=s0.mut g h1 g2;have back:∀b,less H (Z j) b=none->bW Z U b\/H b=none:=λb h=>by
       by_cases q:b∈Z j
       ·exact .inl ⟨j,u,P,q⟩
       ·rw[iq q]at h;exact .inr h
      have Oc:∀b,bW Z (U.set j none) b->bW Z U b:=λb ⟨j',S,q1,q2⟩=>⟨j',S,(cP q1).2,q2⟩
      have pu0:∀b,dm Z (U.set j none) b->dm Z U b:=λb ⟨j',S,q1,q2⟩=>⟨j',S,(cP q1).2,q2⟩
      refine k _ O _ z1 ⟨λb d h n=>?_,λb h z=>?_,λb h=>?_,λb h=>?_,(Kept.of A).trans (Kept.upd (.inl m0))⟩
      ·exact z2.keep b d (by rw[iq (λz=>n ⟨j,u,P,z⟩)];exact h) λz=>n (Oc b z)
      ·by_cases q:b=a
       ·rw[q,aw]at z;cases z
       ·rw[aD q]at z;exact h (A.free z)
      ·rcases z2.ow b h with h | h
       ·exact .inl (Oc b h)
       ·exact back b h
      ·rcases z2.pu b h with h | h | h
       ·exact .inl (pu0 b h)
       ·exact .inr (.inl (Oc b h))
       ·exact(back b h).elim (λz=>.inr (.inl z)) λz=>.inr (.inr z)
     ·cases e7
    ·cases E
   ·cases e
  ·cases e
end
end VS
end
section
namespace VS
open PySem PySem.Spec PyProof.Rows L2
noncomputable def isInt:T->Bool
 |.int _=>M
 |_=>B
def wx(i:Nat):Nr:=λU=>match (U[i]?:Option (Uw)) with
 |some (some (.pu (.dct 3 l)))=>if (l.all λp=>isInt p.1)=M then Y (.fr,l.map (·.1)) else J
 |_=>J
def Bb(i:Nat)(a:Tg)(b:Ex):Sx:=λU=>match (U[i]?:Option (Uw)) with
 |some (some (.ow (.dct 0 l)))=>(dv 1 a (wx i) J b (U.set i (Y (.pu (.dct 3 l))))).bind λv=>match v.1 with
  |.fr=>Y (.rt v (U.set i J))
  |_=>J
 |_=>J
theorem zip_inj{α β:Type}:∀{a c:List α}{b d:List β},a.length=b.length->c.length=d.length->a.zip b=c.zip d->a=c
 |[],[],_,_,_,_,_=>rfl
 |[],_ :: _,_,[],_,h,_=>by simp at h
 |[],_ :: _,[],_ :: _,_,_,h=>by simp at h
 |[],_ :: _,_ :: _,_ :: _,h,_,_=>by simp at h
 |_ :: _,_,[],_,h,_,_=>by simp at h
 |_ :: _,[],_ :: _,[],_,_,h=>by simp at h
 |_ :: _,[],_ :: _,_ :: _,_,h,_=>by simp at h
 |_ :: _,_ :: _,_ :: _,[],_,h,_=>by simp at h
 |x :: a,y :: c,z :: b,w :: d,f,e,h=>by
  rw[ZJ,ZJ]at h;obtain⟨e1,e2⟩:=W8 h;rw[zip_inj (by simpa using f) (by simpa using e) e2,(XA e1).1]
section
def He{X:Cx}(i:Nat)(N:List Str)(KH:X.calm=M)(hN:X.N[i]?=Y x)(hv:M7 X.env.scope x)(hd:K3 x)(hcd:K4 x)(L7:pH 1 g)(hg:∀cl C s H fp,Ra G (bY X N sc cl C s H fp) tg g)(he:∀cl C s H fp,PV G (bY X N sc cl C s H fp) elt ce)(ME:oE X.env sc=M)(Ni:nO sc (N.drop 1) X.N=M)(Nm:1<=N.length)(hs:∀y,XAD (.Name x p1) X.env y=pure y) :
  PSV G X (.Return (Y (.ListComp elt [⟨tg,.Name x p1,[],0⟩] sc pos)) pos') (Bb i g ce) :=
 PS.weak (rV (nF KH (Ic (fh hN hv hd hcd)) ME Ni Nm (λcl C s H fp=>⟨hg cl C s H fp,lB,he cl C s H fp⟩) hs)) λD O H hq=>by
  obtain⟨Z,U,out,s,e,k⟩:=hq;unfold Bb at e;split at e
  ·rename_i l E;refine L2.ai λP_ k_=>?_;obtain⟨⟨mv,tv⟩,ev,e1⟩:=Zz.mp e;have QS:mv=.fr/\out=.rt (.fr,tv) (U.set i J):=by
    cases mv with
    |fr=>cases e1;exact⟨rfl,rfl⟩
    |pu=>cases e1
    |bo=>cases e1
   obtain⟨rfl,rfl⟩:=QS;obtain⟨v,g1,g2⟩:=s.rp _ _ E;obtain⟨a,ns,L,ts,Fs,rfl,eF,ha,m,rfl,ra⟩:=fj g2;refine k_ ?_;have nd:=s.nd i _ E;rw[eF]at nd;refine⟨.ref a,g1,a,ns.zip L,rfl,ha,λo=>?_⟩;have mu:Kn (H a):=by rw[ha];exact True.intro
   have kp:Kept H (upd H a (.frz o (.dK (ns.zip L)))):=Kept.upd (.inl mu);have es:O.set i (Y (.ref a))=O:=by
    obtain⟨h,e⟩:=Zb.mp g1;rw[← e];exact Vi h
   have aΦ:a∈Z i:=by rw[eF];exact Zv
   have sub:∀b∈Fs.flatten,b∈Z i:=λb hb=>by rw[eF];exact Zx _ hb
   have s1:SR G (mP Z i Fs.flatten) (U.set i (Y (.pu (.dct 3 ((ns.map aK).zip ts))))) O (upd H a (.frz o (.dK (ns.zip L)))):=by
    have:=s.put (c:=.pu (.dct 3 ((ns.map aK).zip ts))) ((Zb.mp E).1) (.dctZ aw m (ra.off mu (ZY.mp nd).1)) (λj c' n hj w q=>q.keep kp λb hb ob ho=>by
     rw[aD (λz=>s.sep i j _ c' E hj (Y4 n) a aΦ (by rw[← z];exact hb))];exact ho) (λ_ z=>nomatch z) (λ_ z=>nomatch z) λj u n hj b hb KR=>s.sep j i u _ hj E n b hb (sub b KR)
    rw[es]at this;exact this
   refine L2.ai λP_ k_=>?_;obtain⟨Z2,U2,m2,l2,s2,e2,k2⟩:=nG L7 (by
    refine⟨_,_,.fr,tv,s1,ev,λu H' F sm r f=>?_⟩;have ee:(U.set i (Y (.pu (.dct 3 ((ns.map aK).zip ts))))).set i J=U.set i J:=by rw[List.set_set]
    have sd:=(s1.drop i).same sm;rw[ee]at sd;have Oc:∀b,bW (mP Z i Fs.flatten) (U.set i J) b->bW Z U b:=λb ⟨j,t,A,d⟩=>by
     obtain⟨n,Tc⟩:=cP A;rw[fo n]at d;exact⟨j,t,Tc,d⟩
    refine k u H' F _ O sd ⟨λb ob h n=>?_,λb h z=>?_,λb h=>.inl (Oc b h),λb ⟨j,t,A,d⟩=>?_,kp.trans (Kept.of sm)⟩ r ⟨f.1,λb hb=>.inl ?_⟩
    ·have nb:b≠a:=λz=>n ⟨i,_,E,by rw[z];exact aΦ⟩;exact⟨sm b ob (by rw[aD nb];exact h),λz=>n (Oc b z)⟩
    ·have S:=sm.free z;by_cases q:b=a
     ·rw[q,aw]at S;cases S
     ·rw[aD q]at S;exact h S
    ·obtain⟨n,Tc⟩:=cP A;rw[fo n]at d;exact .inl ⟨j,t,Tc,d⟩
    ·have:=f.2 b hb;by_cases q:b=a
     ·rw[q,aw]at this;cases this
     ·rw[aD q]at this;exact this)
   refine k_ ?_;refine k2 (Itk a o (ns.zip L)) _ [] (aO.refl _) ?_ (λb hb=>nomatch hb);unfold wx at e2;split at e2
   ·rename_i l3 h3;split at e2
    ·rename_i hint;cases e2;obtain⟨v3,A,d⟩:=s2.rp _ _ h3;rw[g1]at A;cases A;obtain⟨a3,o3,ks3,vs3,P,Fs3,ea3,_,Nl,Mo,rfl,OH⟩:=tN d;cases ea3;rw[aw]at Nl;have ek:=zip_inj m Mo (HO.dK.inj (HO.frz.inj (Zl Nl)).2);subst ek;have em:((ns.map aK).zip P).map (·.1)=ns.map aK:=V6 (by rw[Zw,Mo,OH.len.1];exact Zn _);have zl:(ns.zip L).length=ns.length:=by rw[YL,m,Wj]
     refine⟨λH2 Lx _=>⟨λn t R=>?_,λn R=>?_⟩,λb hb=>nomatch hb⟩
     ·rw[em,ZP]at R;obtain⟨kk,N0,Mv⟩:=Zy.mp R;have Q:=(Zb.mp N0).1;refine⟨⟨Lx.frz _ _ _ aw,by rw[zl];exact Q⟩,λy H3 hy=>?_⟩;obtain⟨rfl,p,hp,rfl⟩:=hy;refine⟨aO.refl _,[],?_,λb hb=>nomatch hb⟩;have hp1:p.1=kk:=by
       have RE:=hp;rw[Xl]at RE;rw[N0]at RE;exact(Zl RE.1).symm
      have hi:isInt t=M:=by
       have:=Mz.mp hint (t,P[n]'(by rw[← OH.len.1,← Mo];exact Q)) (by
        refine Yr (i:=n) ?_;rw[Xl];exact⟨by rw[ZP,N0];exact congrArg Y Mv,Zq _⟩)
       exact this
      rw[hp1,← Mv];rw[← Mv]at hi;cases kk with
      |inl n=>exact .int n
      |inr z=>cases hi
     ·refine⟨Lx.frz _ _ _ aw,?_⟩;rw[em,Zw]at R;rw[zl];exact R
    ·cases e2
   ·cases e2
  ·cases e
end
noncomputable def Gr(c:Nat):Option (Uw)->Bool
 |some (some (.ow (.obj a (_ :: _))))=>a==c+1
 |_=>B
def qr(i c:Nat)(b:List Bool)(g:Mt)(x:Xx)(d:Kx)(U:VS.Env):Option (Val×VS.Env):=if Gr c (U[i]?:Option (Uw))=M then (x U).bind λz=>if Kh z.1.2=M then (match (z.2[i]?:Option (Uw)) with
 |some (some (.ow t))=>(d z.2).bind λa=>(mM c b g ((.fr,z.1.2) :: a) t).map λr=>(r.2,z.2.set i (Y (.ow r.1)))
 |_=>J) else J else J
section
def Ec{G:Gx}{X:Cx}(hn:∀k,(G.ct (c+1)).2 k≠m)(hN:X.N[i]?=Y y)(hv:M7 X.env.scope y)(hd:K3 y)(hcd:K4 y)(hc:LX X.K (G.ct (c+1)).1)(hm:Meth X.K (G.ct (c+1)).1 m f)(F:FnOk X.prog X.w X.K X.mg X.base La k f fd ps (Oa G c mv g))(hr:p0 k' X.A)(hk:k<=k')(hb:Binds X.K fd ps [])(h1:PX G X e x)(ha:Lv G X es cs)(Mn:K1 e es X)(KQ:K2 pos es X)(ht:eval (.Call (.Attribute (.Name y p1) m apos) (e :: es) [] pos) X.env=(do
   let ov ← eval (.Name y p1) X.env
   standAt apos.atName
   let (f,first) ← holding [ov] (getMethod ov m pl)
   callWith pos f first (backTo pos (P3 (e :: es) X.env)) (backToKw pos (SZ [] X.env)))):PX G X (.Call (.Attribute (.Name y p1) m apos) (e :: es) [] pos) (qr i c mv g x cs) :=
 PE.weak (rH (fh hN hv hd hcd) hc hm F (hr.mono hk) hb .nil jT (cZ h1 ha Mn) Mn KQ ht) λO H Q h=>by
  refine L2.ai λP_ j=>?_;obtain⟨Z,U,v,U',s,e,Po,kq⟩:=h;refine j ?_;unfold qr at e;split at e
  ·rename_i Sz;obtain⟨⟨S,U1⟩,e1,e2⟩:=Zz.mp e;split at e2
   ·rename_i E;unfold Gr at Sz;split at Sz
    ·rename_i c0 q0 fs0 h0;have ec0:c0=c+1:=by simpa using Sz
     refine L2.ai λP_ j=>?_;subst ec0;obtain⟨v0,g1,g2⟩:=s.rp _ _ h0;obtain⟨c',a,dx,b,ns,l,ts,Fs,ec,rfl,eb,ef,eF,hA,hl,hbb,ra⟩:=d6 g2;cases ec;refine j ?_;have key:∀(ns:Uz)(l:List V),((ns.map (G.ct (c+1)).2).zip l).lookup m=J:=by
      intro ns
      induction ns with
      |nil=>intro l;simp
      |cons n ns ih =>
       intro l;cases l with
       |nil=>simp
       |cons v l =>
        rw[Zm,ZJ,YR];have:(m==(G.ct (c+1)).2 n)=B:=by
         rw[beq_eq_false_iff_ne];exact λz=>hn n z.symm
        rw[this];exact ih l
     refine⟨.ref a,g1,a,dx,_,rfl,hA,key _ _,Z,U,S,U1,s,e1,E,λu1 H1 Z1 s1 f1 r1=>?_⟩;split at e2
     ·rename_i t1 o;refine L2.ai λP_ j=>?_;obtain⟨R,el,e3⟩:=Zz.mp e2;obtain⟨⟨x3,y3⟩,q,e4⟩:=Zy.mp e3;cases e4;obtain⟨va,q1,w2⟩:=s1.rp _ _ o;rw[g1]at q1;cases q1;refine j ?_;have w3:=s1.nd i t1 o;refine⟨Z1,U1,R,s1,el,λus H2 Gs p Sn RW=>?_⟩;show Oa G c mv g (V.ref a :: ((u1 :: us)++[])) H2 Q E0;rw[ZM];unfold mM at q;split at q
      ·rename_i c1 d fs;split at q
       ·rename_i hcc;obtain⟨rfl,Oe,OW,TX⟩:=hcc;obtain⟨⟨Mw,z⟩,eg,e7⟩:=Zz.mp q;split at e7
        ·rename_i OT;refine L2.ai λP_ j=>?_;cases e7;obtain⟨c2,a2,dx2,b2,ns2,UL,ts2,Fs2,RY,Ug,eb2,rfl,Ui,T6,Ma,RT,D⟩:=d6 w2;cases RY;cases Ug;cases eb2;refine j ?_;have L:Qx Z1 U1 H1 ((.fr,S.2) :: R) ([] :: Gs):=⟨λn v' F' a1 a2=>by
          cases n with
          |zero=>cases a1;cases a2;exact Fp.nil
          |succ n=>exact RW.each n v' F' (by simpa using a1) (by simpa using a2),by
          exact RW.nd⟩
         have Rv:=xn OW L;have C:RpL G H2 (u1 :: us) (trees ((.fr,S.2) :: R)) ([] :: Gs):=.cons (r1.same p) Sn;refine⟨a,u1 :: us,ns2.zip ts2,trees ((.fr,S.2) :: R),Z1 i,[] :: Gs,Mw,z,rfl,?_,C.at (Nu a) TX,?_,?_,?_,eg,λu H' F' r ru=>?_⟩
         ·rw[Ui];exact .ins (p a _ T6) Ma (λ_=>rfl) ((D.same p).at (Nu a) (eX (Ma.trans D.len.1) Oe))
         ·rw[j3 OW];simp[trees]
         ·refine ZF.mpr ⟨w3,L.nd.sublist (ou OW),λd P b2 RT z=>?_⟩;subst z;exact Kn.pe (w2.Kw d P) (Rv d RT)
         ·rw[qU OW C];exact λd _ z=>nomatch z
         ·have back:Rp G H' (.ref a) (.obj (c+1) ((0,.bl d) :: Mw)) F':=by
           refine L2.ai λP_ j=>?_;obtain⟨c3,a3,dx3,b3,ns3,vs3,ts3,Fs3,ec3,ea3,eb3,ef3,eF3,hA3,Mo,hb3,OH⟩:=d6 r.rp;cases ec3;cases ea3;subst ef3;refine j ?_;rw[eF3];exact .ins hA3 Mo RT (OH.at G.me (eX (Mo.trans OH.len.1) OT.1))
          obtain⟨z1,z2⟩:=s1.mut o g1 (⟨(Kept.of p).trans r.kept,λd o1 P ho=>r.keep d o1 (λz=>(Zc.mp z).elim P λz=>by rw[Rv d z]at ho;cases ho) (p d o1 ho),λd h=>r.Kw d λz=>h (p.free z),back,r.nd,λd P=>by
           rcases r.sub d P with z | z
           ·rcases Zc.mp z with z | z
            ·exact .inl z
            ·exact .inr (Rv d z)
           ·exact .inr (p.free z)⟩)
          exact kq u H' _ z1 (f1.trans z2) (ru.at G.me (lQ z OT.2))
        ·cases e7
       ·cases q
      ·cases q
     ·cases e2
    ·cases Sz
   ·cases e2
  ·cases e
end
noncomputable def QW(a:List Str)(k:Nat):Str:=match a[k]? with
 |some x=>x
 |none=>⟨#[k]⟩
def Pr(a:List Str)(K:X2)(C D:On):Gx:=⟨K,λc=>(if c=2 then D else C,QW a),λ_=>J⟩
def C9{a:List Str}(i:a.Nodup)(h:∀x∈a,x.cps.size≠1)(k b:Nat)(e:QW a k=QW a b):k=b:=by
 unfold QW at e;by_cases f:k<a.length
 ·by_cases d:b<a.length
  ·rw[Zq f,Zq d]at e;exact(V7 i).mp e
  ·rw[Zq f,Yo (ZD d)]at e;have g:a[k]=(⟨#[b]⟩:Str):=e;exact absurd (by rw[g];rfl) (h _ (Yu f))
 ·by_cases d:b<a.length
  ·rw[Yo (ZD f),Zq d]at e;have g:(⟨#[k]⟩:Str)=a[b]:=e;exact absurd (by rw[← g];rfl) (h _ (Yu d))
  ·rw[Yo (ZD f),Yo (ZD d)]at e;cases e;rfl
def Eg{a:List Str}{K:X2}(b:a.Nodup)(h:∀x∈a,x.cps.size≠1):ke ((Pr a K C D).at m):=λ_ k d e=>C9 b h k d e
def gf(h:x∉a)(d:x.cps.size≠1)(k:Nat):QW a k≠x:=λe=>by
 unfold QW at e;split at e
 ·rename_i y b;exact h (e ▸ Yr b)
 ·exact d (by rw[← e];rfl)
def yh{a:List Str}{K:X2}(b:a[k]?=Y f)(h:LX K C)(g:LX K D)(e:aY K C f)(d:aY K D f):LB ((Pr a K C D).at m) K k f :=
 ⟨λc=>by show QW a k=f;unfold QW;rw[b],λc=>by show LX K (if c+1=2 then D else C);split<;>assumption,λc=>by show aY K (if c+1=2 then D else C) f;split<;>assumption⟩
structure MtAt(P:SB)(w:XAB)(K:X2)(mg:Wv)(base:XAA)(k:Nat)(G:Gx)(c:Nat)(x:Str)(ps:List Str)(mv:List Bool)(g:Mt):Prop where
 ex:∃f fd,FnOk P w K mg base La k f fd ps (Oa G c mv g)/\Meth K (G.ct (c+1)).1 x f/\Binds K fd ps []
 cl:LX K (G.ct (c+1)).1
 no:∀k,(G.ct (c+1)).2 k≠x
structure MpAt(P:SB)(w:XAB)(K:X2)(mg:Wv)(base:XAA)(k:Nat)(G:Gx)(c:Nat)(x:Str)(ps:List Str)(h:Fn):Prop where
 ex:∃f fd,FnOk P w K mg base La k f fd ps (M3 G h)/\Meth K (G.ct (c+1)).1 x f/\Binds K fd ps []
 cl:LX K (G.ct (c+1)).1
 no:∀k,(G.ct (c+1)).2 k≠x
structure InAt(P:SB)(w:XAB)(K:X2)(mg:Wv)(base:XAA)(k:Nat)(G:Gx)(c n:Nat)(x:Str)(ps:List Str)(g:Mt):Prop where
 ex:∃f fd,FnOk P w K mg base La k f fd ps (Oa G c (List.replicate n false) g)/\Mk K (G.ct (c+1)).1 f/\Binds K fd ps []
 mg:mg x=some (.ref (G.ct (c+1)).1)
section
variable{K:X2}
theorem MtAt.at{m:Me}(h:MtAt P w K mg base k G c x ps mv g):MtAt P w K mg base k (G.at m) c x ps mv g:=⟨h.ex,h.cl,h.no⟩
theorem InAt.at{P:SB}{w:XAB}{mg:Wv}{base:XAA}{k c n:Nat}{G:Gx}{x:Str}{ps:List Str}{g:Mt}{m:Me}(h:InAt P w K mg base k G c n x ps g):InAt P w K mg base k (G.at m) c n x ps g:=⟨h.ex,h.mg⟩
def lN{G:Gx}(F:Kp K x b d f m)(q:Meth K (G.ct (c+1)).1 x f)(r:LX K (G.ct (c+1)).1)(v:∀k,(G.ct (c+1)).2 k≠x)(S:gV N ps (ag d))(o:ps.length=j)(p:N.length=l)(y:∀(kV doc pm:PP)(an:Option On)(h ct:PP)(i:Vz),i.length=ps.length->bindArgs (PySem.W.fnOf x b (cM d) (aX d) (ag d) .none kV doc pm an h ct) ⟨i,[]⟩=pure (ps.zip i))(u:∀(a:On)(h:PP)(A:SC)(outer:List PySem.Env)(s:KB)(H:Hp)(E:XK),p0 k (A.deeper (envOfC b (ag d) s.heap.objs.size f h))->hU (G.at (Nu a)) (jr La P w K mg base N b (ag d) f h A outer s H E).Nf (aX d) e) :
  MtAt P w K mg base (k+1) G c x ps mv (Mm c j l mv e):=⟨⟨f,m,fnM F S o p u,q,F.binds y⟩,r,v⟩
def Gi{G:Gx}(F:Kp K y b d f m)(q:Mk K (G.ct (c+1)).1 f)(r:mg x=Y (.ref (G.ct (c+1)).1))(S:gV N ps (ag d))(o:ps.length=j)(p:N.length=l)(v:∀(kV doc pm:PP)(an:Option On)(h ct:PP)(i:Vz),i.length=ps.length->bindArgs (PySem.W.fnOf y b (cM d) (aX d) (ag d) .none kV doc pm an h ct) ⟨i,[]⟩=pure (ps.zip i))(u:∀(a:On)(h:PP)(A:SC)(outer:List PySem.Env)(s:KB)(H:Hp)(E:XK),p0 k (A.deeper (envOfC b (ag d) s.heap.objs.size f h))->hU (G.at (Nu a)) (jr La P w K mg base N b (ag d) f h A outer s H E).Nf (aX d) e) :
  InAt P w K mg base (k+1) G c n x ps (Mm c j l (List.replicate n B) e):=⟨⟨f,m,fnM F S o p u,q,F.binds v⟩,r⟩
def CM{G:Gx}(F:Ol K y d e f q)(v:Mk K (G.ct (c+1)).1 f)(z:mg x=Y (.ref (G.ct (c+1)).1))(S:gV N ps (ag e))(r:ps.length=m)(u:N.length=p)(D:∀(s:KB)(T:On)(kV doc pm:PP)(an:Option On)(i ct:PP)(o:Obj)(n:Nat)(j:Vz),K.In s.heap->K.lookup T=Y o->o.data=.seq #[.none] n->j.length=ps.length->BindsTo s (PySem.W.fnOf y d (cM e) (aX e) (ag e) (.ref T) kV doc pm an i ct) ⟨j,[]⟩ (ps.zip j))(C:∀(a:On)(i:PP)(A:SC)(outer:List PySem.Env)(s:KB)(H:Hp)(E:XK),p0 k (A.deeper (envOfC d (ag e) s.heap.objs.size f i))->hU (G.at (Nu a)) (jr La P w K mg base N d (ag e) f i A outer s H E).Nf (aX e) h) :
  InAt P w K mg base (k+1) G c n x ps (Mm c m p (List.replicate n B) h):=⟨⟨f,q,Jp (λl b=>F.ok S l b) r u C,v,F.binds D⟩,z⟩
def nU{G:Gx}(F:Kp K x a b f l)(p:Meth K (G.ct (c+1)).1 x f)(q:LX K (G.ct (c+1)).1)(u:∀k,(G.ct (c+1)).2 k≠x)(S:gV N ps (ag b))(m:ps.length=i)(o:N.length=j)(v:∀(kV doc pm:PP)(an:Option On)(e ct:PP)(h:Vz),h.length=ps.length->bindArgs (PySem.W.fnOf x a (cM b) (aX b) (ag b) .none kV doc pm an e ct) ⟨h,[]⟩=pure (ps.zip h))(r:∀(e:PP)(A:SC)(outer:List PySem.Env)(s:KB)(H:Hp)(E:XK),p0 k (A.deeper (envOfC a (ag b) s.heap.objs.size f e))->hU G (jr La P w K mg base N a (ag b) f e A outer s H E).Nf (aX b) d) :
  MpAt P w K mg base (k+1) G c x ps (fn i j d):=⟨⟨f,l,fnV F S m o r,p,F.binds v⟩,q,u⟩
end
section
def iP{X:Cx}(J:ke G)(F:MtAt X.prog X.w X.K X.mg X.base k G c m ps mv g)(q:p0 k' X.A)(s:k<=k')(r:Nq G X o i way)(u:Lv G X (e :: es) cs)(C:{`q8,K1 e es X})(D:{`q8,K2 pos es X})(l:{`q8,eval (.Call (.Attribute o m apos) (e :: es) [] pos) X.env=(do
   let a ← eval o X.env
   standAt apos.atName
   let (f,first) ← holding [a] (getMethod a m d)
   callWith pos f first (backTo pos (P3 (e :: es) X.env)) (backToKw pos (SZ [] X.env)))}):PX G X (.Call (.Attribute o m apos) (e :: es) [] pos) (bN i way c mv g cs):=by
 obtain⟨f,fd,z,y,v⟩:=F.ex;exact DK J F.no r F.cl y z q s v u C D l
def Bj{X:Cx}(J:ke G)(F:MtAt X.prog X.w X.K X.mg X.base k G c m ps mv g)(q:p0 k' X.A)(s:k<=k')(r:Nq G X o i way)(l:eval (.Call (.Attribute o m apos) [] [] pos) X.env=(do
   let a ← eval o X.env
   standAt apos.atName
   let (f,first) ← holding [a] (getMethod a m d)
   callWith pos f first (backTo pos (P3 [] X.env)) (backToKw pos (SZ [] X.env)))):PX G X (.Call (.Attribute o m apos) [] [] pos) (bN i way c mv g aj):=by
 obtain⟨f,fd,y,v,u⟩:=F.ex;exact Ay J F.no r F.cl v y q s u l
def Hj{X:Cx}(F:MtAt X.prog X.w X.K X.mg X.base k G c m ps mv g)(s:p0 k' X.A)(u:k<=k')(z:X.N[i]?=Y x)(q:M7 X.env.scope x)(v:K3 x)(a:K4 x)(H:PX G X e xc)(y:Lv G X es cs)(L:K1 e es X)(O:K2 pos es X)(r:eval (.Call (.Attribute (.Name x p1) m apos) (e :: es) [] pos) X.env=(do
   let d ← eval (.Name x p1) X.env
   standAt apos.atName
   let (f,first) ← holding [d] (getMethod d m l)
   callWith pos f first (backTo pos (P3 (e :: es) X.env)) (backToKw pos (SZ [] X.env)))):PX G X (.Call (.Attribute (.Name x p1) m apos) (e :: es) [] pos) (qr i c mv g xc cs):=by
 obtain⟨f,fd,E,D,C⟩:=F.ex;exact Ec F.no z q v a F.cl D E s u C H y L O r
def CB{X:Cx}(F:MpAt X.prog X.w X.K X.mg X.base k G c m ps h)(q:p0 k' X.A)(s:k<=k')(r:PV G X o ca)(u:Lv G X (e :: es) cs)(C:K1 e es X)(D:K2 pos es X)(l:eval (.Call (.Attribute o m apos) (e :: es) [] pos) X.env=(do
   let a ← eval o X.env
   standAt apos.atName
   let (f,first) ← holding [a] (getMethod a m d)
   callWith pos f first (backTo pos (P3 (e :: es) X.env)) (backToKw pos (SZ [] X.env)))):PV G X (.Call (.Attribute o m apos) (e :: es) [] pos) (fN c h ca cs):=by
 obtain⟨f,fd,z,y,v⟩:=F.ex;exact GA F.no r F.cl y z q s v u C D l
def om{X:Cx}(F:MpAt X.prog X.w X.K X.mg X.base k G c m ps h)(q:p0 k' X.A)(s:k<=k')(r:PV G X o ca)(l:eval (.Call (.Attribute o m apos) [] [] pos) X.env=(do
   let a ← eval o X.env
   standAt apos.atName
   let (f,first) ← holding [a] (getMethod a m d)
   callWith pos f first (backTo pos (P3 [] X.env)) (backToKw pos (SZ [] X.env)))):PV G X (.Call (.Attribute o m apos) [] [] pos) (fN c h ca aj):=by
 obtain⟨f,fd,y,v,u⟩:=F.ex;exact DF F.no r F.cl v y q s u l
def Ib{e:Ex}:∀(U:VS.Env)(d:Uv),ae e aj U=Y d->d.length=1:=λU d h=>by
 obtain⟨a,_,h⟩:=Zz.mp h;cases h;rfl
def Ga{X:Cx}(F:InAt X.prog X.w X.K X.mg X.base k G c n x ps g)(d:p0 k' X.A)(q:k+1<=k')(s:Lv G X (e :: es) cs)(l:∀U a,cs U=Y a->a.length=n)(r:Gl X x)(z:K3 x)(he:K1 e es X)(C:K2 pos es X):PV G X (.Call (.Name x p) (e :: es) [] pos) (eNew c g cs):=by
 obtain⟨f,fd,y,v,u⟩:=F.ex;exact IS n v y d q r F.mg u s l z he C
def Cq{X:Cx}(F:InAt X.prog X.w X.K X.mg X.base k G c 0 x ps g)(a:p0 k' X.A)(d:k+1<=k')(l:Gl X x)(u:K3 x):PV G X (.Call (.Name x p) [] [] pos) (eNew c g aj):=by
 obtain⟨f,fd,s,r,q⟩:=F.ex;exact FZ r s a d l F.mg q u
def rL{apos pos:Pos}(J:ke G)(d:Nq G X o i way)(q:Lv G X [e] cs)(s:{`q8,X.K=G.K})(w:{`q8,XAC o "append" X.env (eval o X.env)=eval o X.env})(C:{`q8,((backTo oe (P3 [e] X.env)).all (λx=>!x.1)&&(backToKw oe (SZ [] X.env)).all (λx=>x.1.isSome)
   && decide ([e].length+([]:List Keyword).length+(if ([]:List Keyword).isEmpty then 0 else 1)<30))=M})(y:{`q8,(apos.endLine==oe.line)=M})(a:{`q8,K1 e [] X})(A:{`q8,(backTo oe (P3 [] X.env)).any (·.1)=B})(u:{`q8,swapsWith (.Call (.Attribute o "append" apos) [e] [] oe) none pos.line X.env=pure B}) :
  PSV G X (.Expr (.Call (.Attribute o "append" apos) [e] [] oe) pos) (sX (iT i way aJ cs)) :=
 Ar J Wq Wy Wz iw mh (λH v t F l z r h=>je r h) d q s w C y a A u
end
noncomputable def PJ(m:Nat)(t:T):T:=.obj 0 [(0,.bl M),(m,t)]
noncomputable def OC:T->Option (Nat×T)
 |.obj 0 [(0,.bl true),(m,t)]=>Y (m,t)
 |_=>J
def nt(h:OC t=Y (m,u)):t=PJ m u:=by
 unfold OC at h;split at h
 ·cases h;rfl
 ·cases h
noncomputable def zx(a:List V):Me:=λk=>match k with
 |0=>J
 |k+1=>a[k]?
def markL:Nat->List Bool->Ut->Ut
 |k,b :: bs,t :: a=>(if b then PJ (k+1) t else t) :: markL (k+1) bs a
 |_,_,_=>[]
def mH(U:VS.Env):Nat->List Bool->Option (Ut)
 |_,[]=>Y []
 |k,true :: bs=>match (U[k]?:Option (Uw)) with
  |some (some (.ow t))=>(OC t).bind λz=>if z.1=k+1 then (mH U (k+1) bs).map (z.2 :: ·) else J
  |_=>J
 |k,false :: bs=>mH U (k+1) bs
noncomputable def dR{α:Type}:List Bool->List α->List α
 |true :: bs,x :: a=>x :: dR bs a
 |false :: bs,_ :: a=>dR bs a
 |_,_=>[]
noncomputable def RD(Z:Kk):Nat->List Bool->Yx
 |_,[]=>[]
 |k,true :: bs=>Z k :: RD Z (k+1) bs
 |k,false :: bs=>RD Z (k+1) bs
noncomputable def zE:T->Bool
 |.str _=>M
 |_=>B
def zU(b:Ut)(v:Val):Bool:=Kh v.2||(match b,v with
 |[.lst [.int _]],(.fr,.lst a)=>a.all zE
 |_,_=>B)
def CA(h:zU b v=M):Kh v.2=M\/∃n a,b=[.lst [.int n]]/\v=(.fr,.lst a)/\a.all zE=M:=by
 rcases Bool.or_eq_true_iff.mp h with h | h
 ·exact .inl h
 ·split at h
  ·exact .inr ⟨_,_,rfl,rfl,h⟩
  ·cases h
def vc{a:Ut}(h:a.all zE=M):gE a=M/\bX a=M:=by
 induction a with
 |nil=>exact⟨rfl,rfl⟩
 |cons t a b =>
  rw[Xe,Yj]at h;cases t<;>first | exact b h.2 | cases h.1
def OQ(e g:Nat)(a:List Bool)(b:Sx):Ut->Option (Ut×T)
 |f :: d=>if d.length+1=e/\a.length=d.length then
  (b ((Y (.ow (PJ 1 f)) :: List.zipWith jM a (markL 1 a d))++List.replicate (g-e) J)).bind λo=>match o with
   |.rt v U=>(mH U 0 (M :: a)).bind λos=>if zU os v=M/\bX os=M then Y (os,v.2) else J
   |.nx U=>(mH U 0 (M :: a)).bind λos=>if bX os=M then Y (os,.non) else J
   |_=>J else J
 |[]=>J
structure ChI(G:Gx)(H:Hp)(mv:List Bool)(vs:List V)(Fs:Yx)(os:Ut)(H2:Hp)(Gs:Yx):Prop where
 kept:Kept H H2
 keep:∀b o,b∉Lh mv Fs->H b=some o->H2 b=some o
 Kw:∀b,H b≠none->H2 b≠none
 rp:RpL G H2 (dR mv vs) os Gs
 nd:Gs.flatten.Nodup
 sub:∀a∈Gs.flatten,a∈Lh mv Fs\/H a=none
def S6(G:Gx)(d:List Bool)(g:Ut->Option (Ut×T)):Sp:=λm H Q _=>∃(a:On)(i:List V)(j:T)(f:Ut)(F:W9)(e:Yx)(os:Ut)(x:T),m=.ref a :: i/\Rp G H (.ref a) j F/\RpL G H i f e/\(∀v∈dR d i,∃b,v=.ref b)/\fD j=M/\bX f=M/\d.length=f.length ∧
 (F++Lh d e).Nodup/\(∀b∈F++Lh d e,b∉NB d e)/\g (j :: f)=Y (os,x)/\∀u l n h,ChI G H (M :: d) m (F :: e) os l n->Rp G l u x h->h.Nodup->(∀a∈h,a∉n.flatten)->(∀a∈h,H a=J\/a∈F++Lh d e)->Q u l
section
variable{H:Hp}
def new_apart{n:Int}(r:RpL G H d [.lst [.int n]] i)(q:Rp y H u (.lst e) F)(f:e.all zE=M):∀a∈F,a∉i.flatten:=by
 cases r with
 |cons j r1 =>
  cases r1;obtain⟨a,d,C,rfl,rfl,w,v⟩:=j.lst_inv;obtain⟨p,z,A,rfl,rfl,h,g⟩:=q.lst_inv;rw[g.Kh (vc f).1];intro b hb x;rw[ZZ]at hb;subst hb;cases v with
  |cons s o =>
   cases o;cases s;have:b=a:=by simpa using x
   subst this;rw[w]at h;cases h;cases g with
   |cons m l =>
    cases l;cases m;cases f
theorem wU{G:Gx}{m:Me}:∀{bs:List Bool}{d:List V}{e:Ut}{f:Yx}(k:Nat),RpL (G.at m) H d e f->(∀v∈dR bs d,∃b,v=.ref b)->(∀j,m (k+1+j)=d[j]?)->bs.length=e.length->RpL (G.at m) H d (markL k bs e) f
 |[],_,_,_,k,.nil,_,_,_=>.nil
 |[],_,_,_,k,.cons _ _,_,_,h=>by simp at h
 |_ :: _,_,_,_,k,.nil,_,_,h=>by simp at h
 |b :: bs,v :: d,t :: e,F :: f,k,.cons r q,i,l,n=>by
  have g:=wU (bs:=bs) (k+1) q (λw hw=>i w (by cases b<;>simp[dR,hw])) (λj=>by rw[show k+1+1+j=k+1+(j+1) by omega,l (j+1)];rfl) (by simpa using n);cases b with
  |false=>exact .cons r g
  |true =>
   obtain⟨a,rfl⟩:=i v (by simp[dR]);exact .cons (.mk (l 0) r) g
theorem vG{G:Gx}(s:SR (G.at (zx f)) Z U O H):∀(bs:List Bool)(k:Nat)(os:Ut),mH U k bs=Y os->bX os=M →
  RpL G H (dR bs (f.drop k)) os (RD Z k bs)/\(RD Z k bs).flatten.Nodup/\∀a∈(RD Z k bs).flatten,∃j t,k<=j/\U[j]?=Y (Y (.ow t))/\a∈Z j
 |[],k,os,h,_=>by
  cases h;refine⟨?_,Yn,λa h=>nomatch h⟩;cases f.drop k<;>exact .nil
 |false :: bs,k,os,h,g=>by
  obtain⟨d,o,n⟩:=vG s bs (k+1) os h g;refine⟨?_,o,λa D=>?_⟩
  ·rw[← List.drop_drop,List.drop_one]at d;cases q:f.drop k with
   |nil=>rw[q]at d;cases bs<;>(try rename_i b _;cases b)<;>exact d
   |cons v r=>rw[q]at d;exact d
  ·obtain⟨j,t,w,i⟩:=n a D;exact⟨j,t,by omega,i⟩
 |true :: bs,k,os,h,g=>by
  unfold mH at h;split at h
  ·rename_i t l;obtain⟨⟨m,u⟩,e1,e2⟩:=Zz.mp h;split at e2
   ·rename_i y;refine L2.ai λS x=>?_;obtain⟨Q,e3,rfl⟩:=Zy.mp e2;have g:=ZX.mp g;obtain⟨d,o,n⟩:=vG s bs (k+1) Q e3 g.2;have N:=nt e1;subst N;subst y;obtain⟨v,R,L⟩:=s.rp k _ l;obtain⟨a,rfl,F,E⟩:=oN (L);refine x ?_;have hd:f.drop k=.ref a :: f.drop (k+1):=by
     obtain⟨A,e⟩:=Zb.mp F;rw[YF A,e]
    refine⟨?_,?_,λb hb=>?_⟩
    ·rw[hd];exact .cons (E.at G.me g.1) d
    ·show (Z k++(RD Z (k+1) bs).flatten).Nodup;refine ZF.mpr ⟨s.nd k _ l,o,λb hb c C z=>?_⟩;subst z;obtain⟨j,p,w,i,P⟩:=n b C;exact s.sep k j _ _ l i (by omega) b hb P
    ·rcases Zc.mp (hb) with z | z
     ·exact⟨k,_,Zn _,l,z⟩
     ·obtain⟨j,p,w,i⟩:=n b z;exact⟨j,p,by omega,i⟩
   ·cases e2
  ·cases h
end
section
variable{K:X2}
def fnI{G:Gx}{st:Stmt}(F:Kp K x g st f fd)(S:gV N ps (ag st))(hp:ps.length=np)(hn:N.length=nn)(hb:∀(m:Me)(Kj:PP)(A:SC)(outer:List PySem.Env)(s:KB)(H:Hp)(E:XK),p0 k (A.deeper (envOfC g (ag st) s.heap.objs.size f Kj))->hU (G.at m) (jr La P w K mg base N g (ag st) f Kj A outer s H E).Nf (aX st) D) :
  FnOk P w K mg base La (k+1) f fd ps (S6 G p (OQ np nn p D)):=by
 refine F.ok S (λvs H Q E h=>?_) λKj A outer s H vs Q E hr h=>?_
 ·refine L2.ai λP_ k_=>?_;obtain⟨a,l,t0,d,F0,Fs,os,y,rfl,r0,r,rf,no,nos,hm,nd,sp,e,q⟩:=h;refine k_ ?_;dsimp only[OQ]at e;split at e
  ·rename_i hl;rw[Zf,r.len.1,hl.1,hp]
  ·cases e
 ·refine L2.ai λP_ k_=>?_;obtain⟨a,l,t0,d,F0,Fs,os,y,rfl,r0,r,rf,no,nos,hm,nd,sp,e,q⟩:=h;refine k_ ?_;refine⟨_,hb (zx (.ref a :: l)) Kj A outer s H E hr,?_⟩;dsimp only[OQ]at e;split at e
  ·rename_i hl;obtain⟨o,e1,e2⟩:=Zz.mp e;have hml:∀(bs:List Bool)(d:Ut)(k:Nat),bs.length=d.length->(markL k bs d).length=d.length:=by
    intro bs
    induction bs with
    |nil=>intro d k h;rw[XZ.mp h.symm];rfl
    |cons b bs ih =>
     intro d k h;cases d with
     |nil=>simp at h
     |cons t d=>exact congrArg (·+1) (ih d (k+1) (VI h))
   have m1:=wU 1 (r.at (zx (.ref a :: l)) nos) rf (λj=>by rw[show 1+1+j=(1+j)+1 by omega];rw[WK 1 j];rfl) hm;obtain⟨s0,Oc⟩:=uP (Rp.mk (m:=1) (rfl) (r0.at (zx (.ref a :: l)) no)) m1 (by rw[hml p d 1 hm];exact hm) nd sp nn (l.length+1) L;rw[hml p d 1 hm,hl.1]at s0 Oc;have e3:L2.start N (V.ref a :: l)=(V.ref a :: l).map Y++List.replicate (nn-(l.length+1)) J:=by
    unfold L2.start;rw[hn];rfl
   rw[e3];have So:=Oc;have fin:∀{O:VS.Env}{Z:Kk}{O':L2.St}{C:Hp}{os:Ut},mH O 0 (M :: p)=Y os->bX os=M->SR (G.at (zx (.ref a :: l))) Z O O' C->Ku (λi=>(F0 :: Fs).getD i []) ((Y (.ow (PJ 1 t0)) :: List.zipWith jM p (markL 1 p d))++List.replicate (nn-np) J) H Z O C →
     ChI G H (M :: p) (.ref a :: l) (F0 :: Fs) os C (RD Z 0 (M :: p)):=λ{O Z O' C os} ho Oe U fr=>by
    obtain⟨h1,h2,h3⟩:=vG U (M :: p) 0 os ho Oe;refine⟨fr.kept,λX o' KR ho=>(fr.keep X o' ho λz=>KR (So X z)).1,fr.Kw,h1,h2,λX KR=>?_⟩;obtain⟨j,t,_,a2,a3⟩:=h3 X KR;rcases fr.ow X ⟨j,t,a2,a3⟩ with z | z
    ·exact .inl (So X z)
    ·exact .inr z
   refine⟨_,_,o,s0,e1,?_⟩;cases o with
   |nx O =>
    obtain⟨os2,e4,R⟩:=Zz.mp e2;split at R
    ·rename_i hi;cases R;intro Z O' C U fr;exact q .non C _ [] (fin e4 hi U fr) .non Yn (λa h=>nomatch h) λa h=>nomatch h
    ·cases R
   |rt v O =>
    obtain⟨os2,e4,R⟩:=Zz.mp e2;split at R
    ·rename_i hi;cases R;intro u C F' Z O' U fr r' rf;rcases CA hi.1 with z | ⟨n,LC,rfl,rfl,z⟩
     ·have:=r'.Kh z;subst this;exact q u C _ [] (fin e4 hi.2 U fr) (r'.at G.me (lQ _ z)) Yn (λa h=>nomatch h) λa h=>nomatch h
     ·have ch:=fin e4 hi.2 U fr;exact q u C _ F' ch (r'.at G.me (vc z).2) rf.1 (new_apart ch.rp r' z) λa ha=>(rf.2 a ha).imp id (So a)
    ·cases R
   |bk O=>cases e2
   |ct O=>cases e2
  ·cases e
end
section
def SR.mutS{G:Gx}{Z x:Kk}{U N:VS.Env}{O:L2.St}{H F:Hp}{S:Nat->Prop}(s:SR G Z U O H)(hl:N.length=U.length)(m:∀j,¬S j->N[j]?=U[j]?/\x j=Z j)(D:∀j,S j->∃t P v,U[j]?=Y (Y (.ow t))/\N[j]?=Y (Y (.ow P))/\O[j]?=Y (Y v)/\Rp G F v P (x j)/\(x j).Nodup)(ap:∀i j,S i->S j->i≠j->∀a∈x i,a∉x j)(y:Kept H F)(A:∀b o,(∀j,S j->b∉Z j)->H b=Y o->F b=Y o)(Kw:∀b,H b≠J->F b≠J)(C:∀j,S j->∀a∈x j,(∃i,S i/\a∈Z i)\/H a=J) :
  SR G x N O F/\Ku Z U H x N F:=by
 have L:∀j c,¬S j->U[j]?=Y (Y c)->∀a∈Z j,∀i,S i->a∉Z i:=λj c d Q a u i f E=>by
  obtain⟨t,_,_,l,_⟩:=D i f;exact s.sep i j t c l Q (λe=>d (e ▸ f)) a E u
 have new:∀i,S i->∀a∈x i,∀j c,¬S j->U[j]?=Y (Y c)->a∉Z j:=λi f a u j c d Q E=>by
  rcases C i f a u with⟨k,hk,z⟩ | z
  ·exact L j c d Q a E k hk z
  ·obtain⟨w,_,q⟩:=s.rp j c Q;exact Kn.pe (q.Kw a E) z
 refine⟨⟨hl.trans s.len,λi c h=>?_,λi t h=>?_,λi j t c l r n=>?_⟩,⟨λa o h n=>⟨A a o (λj d z=>?_) h,λz=>?_⟩,Kw,λa h=>?_,λa h=>?_,y⟩⟩
 ·by_cases f:S i
  ·obtain⟨t,P,v,g,p,X,R,_⟩:=D i f;rw[p]at h;cases h;exact⟨v,X,R⟩
  ·obtain⟨g,p⟩:=m i f;rw[g]at h;obtain⟨v,q1,q2⟩:=s.rp i c h;rw[p];exact⟨v,q1,q2.keep y λa u o ho=>A a o (λj d=>L i c f h a u j d) ho⟩
 ·by_cases f:S i
  ·exact(D i f).choose_spec.choose_spec.choose_spec.2.2.2.2
  ·obtain⟨g,p⟩:=m i f;rw[g]at h;rw[p];exact s.nd i t h
 ·by_cases f:S i
  ·by_cases d:S j
   ·exact ap i j f d n
   ·obtain⟨g,p⟩:=m j d;rw[g]at r;rw[p];exact λa u=>new i f a u j c d r
  ·obtain⟨g,p⟩:=m i f;rw[g]at l;rw[p];by_cases d:S j
   ·exact λa u E=>new j d a E i _ f l u
   ·obtain⟨X,R⟩:=m j d;rw[X]at r;rw[R];exact s.sep i j t c l r n
 ·obtain⟨t,_,_,l,_⟩:=D j d;exact n ⟨j,t,l,z⟩
 ·obtain⟨j,t,l,r⟩:=z;by_cases d:S j
  ·rcases C j d a r with⟨i,f,z⟩ | z
   ·obtain⟨t,_,_,g,_⟩:=D i f;exact n ⟨i,t,g,z⟩
   ·rw[z]at h;cases h
  ·obtain⟨g,p⟩:=m j d;rw[g]at l;rw[p]at r;exact n ⟨j,t,l,r⟩
 ·obtain⟨j,t,l,r⟩:=h;by_cases d:S j
  ·rcases C j d a r with⟨i,f,z⟩ | z
   ·obtain⟨t,_,_,g,_⟩:=D i f;exact .inl ⟨i,t,g,z⟩
   ·exact .inr z
  ·obtain⟨g,p⟩:=m j d;rw[g]at l;rw[p]at r;exact .inl ⟨j,t,l,r⟩
 ·obtain⟨j,t,l,r⟩:=h;by_cases d:S j
  ·obtain⟨t,P,v,g,p,_⟩:=D j d;rw[p]at l;cases l
  ·obtain⟨g,p⟩:=m j d;rw[g]at l;rw[p]at r;exact .inl ⟨j,t,l,r⟩
end
inductive Ia where | io (i:Nat) (un:Bool) | ex (c:Ex)
def TC(a:Bool):Option (Uw)->Option T
 |some (some (.ow t))=>if a then (OC t).map (·.2) else if pd t then Y t else J
 |_=>J
def exV(v:Val):Option T:=match v.1 with
 |.bo=>if Kh v.2 then Y v.2 else J
 |_=>Y v.2
def pP(U:VS.Env):List Ia->Option (Ut)
 |[]=>Y []
 |.io i un :: a=>(TC un U[i]?).bind λt=>(pP U a).map (t :: ·)
 |.ex c :: a=>(c U).bind λv=>(exV v).bind λt=>(pP U a).map (t :: ·)
noncomputable def LI:List Ia->List Bool
 |[]=>[]
 |.io _ _ :: a=>M :: LI a
 |.ex _ :: a=>B :: LI a
noncomputable def Li:List Ia->Uz
 |[]=>[]
 |.io i _ :: a=>i :: Li a
 |.ex _ :: a=>Li a
def pZ(a:Bool)(c:Option (Uw))(o:T):T:=if a then (match c with
 |some (some (.ow t))=>(match OC t with
  |some z=>PJ z.1 o
  |none=>o)
 |_=>o) else o
def jv:List Ia->Ut->VS.Env->VS.Env
 |.io i un :: a,o :: os,U=>jv a os (U.set i (Y (.ow (pZ un U[i]? o))))
 |.ex _ :: a,os,U=>jv a os U
 |_,_,U=>U
def oA(a:List Ia)(g:Ut->Option (Ut×T)):Xx:=λU=>(pP U a).bind λb=>if bX b=M/\(Li a).Nodup then (g b).map λz=>((.fr,z.2),jv a z.1 U) else J
inductive Qw(Z:Kk)(U:VS.Env)(O:L2.St)(H:Hp):List Ia->List V->Yx->Prop
 |nil:Qw Z U O H [] [] []
 |io {i:Nat} {un:Bool} {a:On} {as:List Ia} {vs:List V} {Fs:Yx}:O[i]?=some (some (.ref a))->Qw Z U O H as vs Fs->Qw Z U O H (.io i un :: as) (.ref a :: vs) (Z i :: Fs)
 |ex {c:Ex} {v:V} {F:W9} {as:List Ia} {vs:List V} {Fs:Yx}:(∀a∈F,H a=none\/dm Z U a)->Qw Z U O H as vs Fs->Qw Z U O H (.ex c :: as) (v :: vs) (F :: Fs)
section
def HL(r:Rp G H v t F)(h:pd t=M):∃a,v=.ref a:=by
 cases r<;>first | exact⟨_,rfl⟩ | (cases h)
end
section
variable{H:Hp}
structure IaF(G:Gx)(Z:Kk)(U:VS.Env)(O:L2.St)(H:Hp)(as:List Ia)(ts:Ut)(vs:List V)(Fs:Yx):Prop where
 ref:∀v∈dR (LI as) vs,∃b,v=.ref b
 len:(LI as).length=ts.length
 mv:∀a,a∈Lh (LI as) Fs ↔ ∃j∈Li as,a∈Z j
 pu:∀a∈NB (LI as) Fs,H a=none\/dm Z U a
 ow:∀i un,Ia.io i un∈as->∃t a,U[i]?=some (some (.ow t))/\O[i]?=some (some (.ref a))/\(un=true->∃m u,OC t=some (m,u)/\G.me m=some (.ref a))
 nd:(Li as).Nodup->(Lh (LI as) Fs).Nodup
theorem jA:∀{a:List Ia}{i:Nat},i∈Li a ↔ ∃un,Ia.io i un∈a
 |[],i=>⟨(λh=>nomatch h),λ⟨_,h⟩=>nomatch h⟩
 |.io j un :: a,i=>by
  show i∈j :: Li a↔_;rw[Zi,jA];constructor
  ·rintro (rfl | ⟨u,h⟩)
   ·exact⟨un,Zv⟩
   ·exact⟨u,Zx _ h⟩
  ·rintro⟨u,h⟩;rcases Zi.mp h with h | h
   ·cases h;exact .inl L
   ·exact .inr ⟨u,h⟩
 |.ex c :: a,i=>by
  show i∈Li a↔_;rw[jA];exact⟨λ⟨u,h⟩=>⟨u,Zx _ h⟩,λ⟨u,h⟩=>by
   rcases Zi.mp h with h | h
   ·cases h
   ·exact⟨u,h⟩⟩
def BR(s:SR G Z U O H):∀{g:List Ia}{y:Ut}{o:List V}{n:Yx},pP U g=Y y->Qw Z U O H g o n->IaF G Z U O H g y o n:=by
 intro g
 induction g with
 |nil =>
  intro y o n e r;cases e;cases r;exact⟨(λv h=>nomatch h),rfl,λa=>⟨(λh=>nomatch h),λ⟨_,h,_⟩=>nomatch h⟩,(λa h=>nomatch h),(λi un h=>nomatch h),λ_=>Yn⟩
 |cons x g Q =>
  intro y o n e r;cases r with
  |@io i un a _ o n h r =>
   obtain⟨t,e1,e2⟩:=Zz.mp (e);obtain⟨P,e3,rfl⟩:=Zy.mp e2;have f:=Q e3 r;have hi:∃p,U[i]?=Y (Y (.ow p))/\(un=M->∃m u,OC p=Y (m,u)/\G.me m=Y (.ref a)):=by
    unfold TC at e1;split at e1
    ·rename_i p q;refine⟨p,q,λN=>?_⟩;rw[N,Zp L]at e1;refine L2.ai λP_ k_=>?_;obtain⟨⟨m,u⟩,A,g2⟩:=Zy.mp e1;obtain⟨v,R,h2⟩:=s.rp _ _ q;rw[h]at R;cases R;have S:=h2;rw[nt A]at S;obtain⟨a',q1,q2,_⟩:=oN S;cases q1;refine k_ ?_;exact⟨m,u,A,q2⟩
    ·cases e1
   obtain⟨p,q,N⟩:=hi;have C:∀b,b∈Z i++Lh (LI g) n ↔ ∃j∈i :: Li g,b∈Z j:=λb=>by
    rw[Zc,f.mv];constructor
    ·rintro (z | ⟨j,l,z⟩)
     ·exact⟨i,Zv,z⟩
     ·exact⟨j,Zx _ l,z⟩
    ·rintro⟨j,l,z⟩;rcases Zi.mp l with rfl | l
     ·exact .inl z
     ·exact .inr ⟨j,l,z⟩
   refine⟨λv E=>?_,?_,C,?_,λD w d=>?_,λnd=>?_⟩
   ·rcases Zi.mp (E) with rfl | E
    ·exact⟨a,rfl⟩
    ·exact f.ref v E
   ·show (LI g).length+1=P.length+1;rw[f.len]
   ·exact λb hb=>f.pu b hb
   ·rcases Zi.mp d with d | d
    ·cases d;exact⟨p,a,q,h,N⟩
    ·exact f.ow D w d
   ·have X:=ZY.mp (nd);show (Z i++Lh (LI g) n).Nodup;refine ZF.mpr ⟨s.nd i _ q,f.nd X.2,λb hb b' KR z=>?_⟩;subst z;obtain⟨j,l,z⟩:=(f.mv b).mp KR;obtain⟨w,Mi⟩:=jA.mp l;obtain⟨t',_,A,_⟩:=f.ow j w Mi;exact s.sep i j _ _ q A (λe=>X.1 (e ▸ l)) b hb z
  |@ex c v F _ o n h r =>
   obtain⟨⟨m,t⟩,e1,e2⟩:=Zz.mp (e);obtain⟨t',_,e4⟩:=Zz.mp e2;obtain⟨P,e5,rfl⟩:=Zy.mp e4;have f:=Q e5 r;refine⟨f.ref,?_,f.mv,λa ha=>?_,λD w d=>?_,f.nd⟩
   ·show (LI g).length+1=P.length+1;rw[f.len]
   ·rcases Zc.mp (ha) with z | z
    ·exact h a z
    ·exact f.pu a z
   ·rcases Zi.mp d with d | d
    ·cases d
    ·exact f.ow D w d
def yO{G:Gx}{O:L2.St}:∀{d:List Ia}{vs:List V}{Fs:Yx}{os:Ut}{s:Yx}{U:VS.Env},(∀i un,Ia.io i un∈d->∃t a,U[i]?=Y (Y (.ow t))/\O[i]?=Y (Y (.ref a))/\(un=M->∃m u,OC t=Y (m,u)/\G.me m=Y (.ref a)))->(Li d).Nodup →
  (∀(n:Nat)(v:V),(dR (LI d) vs)[n]?=Y v->∃i:Nat,(Li d)[n]?=Y i/\O[i]?=Y (Y v))->RpL G H2 (dR (LI d) vs) os s->(dR (LI d) vs).length=(Li d).length →
  (jv d os U).length=U.length/\(∀j:Nat,j∉Li d->(jv d os U)[j]?=U[j]?)/\∀(n j:Nat),(Li d)[n]?=Y j->∃(t l:T)(v:V)(F:W9),U[j]?=Y (Y (Cell.ow t))/\(jv d os U)[j]?=Y (Y (Cell.ow l))/\O[j]?=Y (Y v)/\s[n]?=Y F/\Rp G H2 v l F:=by
 intro d
 induction d with
 |nil=>intro vs Fs os s U _ _ _ r _;exact⟨rfl,λ_ _=>rfl,λn j h=>by simp[Li]at h⟩
 |cons x d C =>
  intro vs Fs os s U ow nd al r q;cases x with
  |ex c =>
   cases vs with
   |nil =>
    have e:(dR (LI (.ex c :: d)) ([]:List V))=[]:=rfl;have e2:Li d=[]:=XZ.mp (by rw[e]at q;exact q.symm);rw[e]at r;cases r;obtain⟨P,y,N⟩:=C (vs:=[]) (Fs:=Fs) (λi un h=>ow i un (Zx _ h)) nd (λn v h=>by cases LI d<;>(try rename_i b _;cases b)<;>simp[dR]at h) (by cases LI d<;>(try rename_i b _;cases b)<;>exact .nil) (by rw[e2];cases LI d<;>(try rename_i b _;cases b)<;>rfl);exact⟨P,y,N⟩
   |cons v vs=>exact C (Fs:=Fs) (λi un h=>ow i un (Zx _ h)) nd al r q
  |io i un =>
   have A:=ZY.mp (nd);cases vs with
   |nil=>simp[LI,dR,Li]at q
   |cons v vs =>
    cases r with
    |@cons _ o F _ os s Q r =>
     obtain⟨t,a,E,S,hu⟩:=ow i un Zv;have hv:v=.ref a:=by
      obtain⟨p,g,f⟩:=al 0 v L;cases (g);rw[S]at f;cases f;rfl
     subst hv;obtain⟨P,y,N⟩:=C (Fs:=Fs) (U:=U.set i (Y (.ow (pZ un U[i]? o)))) (λp X h=>by
      obtain⟨l,a',g,f⟩:=ow p X (Zx _ h);have ne:i≠p:=λe=>A.1 (e ▸ jA.mpr ⟨X,h⟩);exact⟨l,a',by rw[YU ne];exact g,f⟩) A.2 (λn w h=>by
      obtain⟨p,g,f⟩:=al (n+1) w h;exact⟨p,g,f⟩) r (by simpa[LI,dR,Li] using q)
     refine⟨by rw[show jv (.io i un :: d) (o :: os) U=jv d os (U.set i (Y (.ow (pZ un U[i]? o)))) from rfl,P,Yi],λj R=>?_,λn j D=>?_⟩
     ·have Mi:j≠i/\j∉Li d:=⟨λe=>R (e ▸ Zv),λz=>R (Zx _ z)⟩
      exact(y j Mi.2).trans (YU (Y4 Mi.1))
     ·cases n with
      |zero =>
       cases (D);refine⟨t,_,.ref a,F,E,(y i A.1).trans (XQ ((Zb.mp E).1)),S,rfl,?_⟩;cases un with
       |false=>exact Q
       |true =>
        obtain⟨m,u,g,f⟩:=hu L;have:pZ M U[i]? o=PJ m o:=by
         unfold pZ;rw[Zp L,E];show (match OC t with | some z=>PJ z.1 o | none=>o)=_;rw[g]
        rw[this];exact .mk f Q
      |succ n =>
       refine L2.ai λP_ k_=>?_;obtain⟨l,t2,v',F',g,f,g3,g4,g5⟩:=N n j D;refine k_ ?_;have ne:i≠j:=λe=>A.1 (e ▸ Yr (D));rw[YU ne]at g;exact⟨l,t2,v',F',g,f,g3,g4,g5⟩
def IF:∀{b:List Ia}{d:List V}{f:Yx},Qw Z U O j b d f->(∀(n:Nat)(v:V),(dR (LI b) d)[n]?=Y v->∃i:Nat,(Li b)[n]?=Y i/\O[i]?=Y (Y v))/\(dR (LI b) d).length=(Li b).length:=by
 intro b d f r
 induction r with
 |nil=>exact⟨λn v h=>by simp[LI,dR]at h,rfl⟩
 |@io i un a b d f h _ e =>
  refine⟨λn v g=>?_,by simpa[LI,dR,Li] using e.2⟩;cases n with
  |zero=>cases (g);exact⟨i,rfl,h⟩
  |succ n=>exact e.1 n v g
 |ex _ _ e=>exact e
end
section
structure UG(Z:Kk)(U:VS.Env)(H:Hp)(Z':Kk)(U':VS.Env)(F:W9):Prop where
 nd:F.Nodup
 ap:∀j c,U'[j]?=some (some c)->∀a∈F,a∉Z' j
 of:∀a∈F,H a=none\/bW Z U a
noncomputable def tXN(G:Gx)(x:Xx):TE:=λO H Q=>∃Z U v a,SR G Z U O H/\x U=Y (v,a)/\∀u b d F,SR G d a O b->Ku Z U H d a b->Rp G b u v.2 F->UG Z U H d a F->Q u b
def PXN(G:Gx)(X:Cx)(e:Expr)(x:Xx):Prop:=PE X e (tXN G x)
def PXN.px{x:Xx}(h:PXN G X e x):PX G X e x:=PE.weak h λO H Q b=>by
 obtain⟨Z,U,v,l,s,e,d,k⟩:=b;exact⟨Z,U,v,l,s,e,λu m j F a f r _=>k u m j a f (r.Kh d ▸ r)⟩
def UG.back(f:Ku Z U H b h l)(n:UG b h l d j F):UG Z U H d j F :=
 ⟨n.nd,n.ap,λa m=>(n.of a m).elim (λz=>.inl (f.none z)) λz=>(f.ow a z).elim .inr .inl⟩
def vk(s:SR G Z U O H)(e:oA (.io i un :: as) g U=Y (v,U'))(e0:pP U (.io i un :: as)=Y ts)(sm:aO H H1)(rp:RpL G H1 vs ts Fs)(ia:Qw Z U O H (.io i un :: as) vs Fs)(kq:∀u R Z' F,SR G Z' U' O R->Ku Z U H Z' U' R->Rp G R u v.2 F->UG Z U H Z' U' F->Q u R):S6 G (LI as) g vs H1 Q E:=by
 unfold oA at e;rw[e0,Zu]at e;have e2:=e;split at e2
 ·rename_i N;obtain⟨⟨os,y⟩,eg,e3⟩:=Zy.mp e2
  ·cases e3;have r:=BR s e0 ia;have al:=IF ia;cases ia with
   |@io _ _ a _ us Fs hσ ia =>
    cases rp with
    |@cons _ t0 _ _ LC _ r0 rp =>
     have no:fD t0=M/\bX LC=M:=by
      have:=N.1;exact(ZX.mp this)
     refine⟨a,us,t0,LC,Z i,Fs,os,y,rfl,r0,rp,λv hv=>r.ref v (Zx _ hv),no.1,no.2,by simpa[LI] using r.len,r.nd N.2,λb hb KR=>?_,eg,λu R Gs Fu ch ru fnd fap fof=>?_⟩
     ·obtain⟨j,d,z⟩:=(r.mv b).mp hb;obtain⟨N7,P⟩:=jA.mp d;obtain⟨t,_,A,_⟩:=r.ow j N7 P;rcases r.pu b KR with q | ⟨j2,t2,L,D⟩
      ·exact Kn.pe (s.KJ ⟨j,t,A,z⟩) q
      ·refine s.sep j j2 t _ A L (λe=>?_) b z D;rw[e,L]at A;cases A
     ·obtain⟨p1,p2,p3⟩:=yO (Fs:=[]) r.ow N.2 al.1 ch.rp al.2;have at_:∀j,j∈Li (.io i un :: as)->∃n F,(Li (.io i un :: as))[n]?=Y j/\n=(Li (.io i un :: as)).idxOf j/\Gs[n]?=Y F:=λj d=>by
       have:(Li (.io i un :: as))[(Li (.io i un :: as)).idxOf j]?=Y j:=by
        rw[Zq (YD.mpr d),Wr]
       obtain⟨_,_,_,F,_,_,_,q,_⟩:=p3 _ j this;exact⟨_,F,this,rfl,q⟩
      have S:∀j,j∈Li (.io i un :: as)->(if j∈Li (.io i un :: as) then Gs.getD ((Li (.io i un :: as)).idxOf j) [] else Z j)=Gs.getD ((Li (.io i un :: as)).idxOf j) []:=λj d=>Zp d;obtain⟨z1,z2⟩:=s.mutS p1 (λj d=>⟨p2 j d,Zo d⟩) (λj d=>by
       refine L2.ai λP_ k_=>?_;obtain⟨n,F,L,D,m⟩:=at_ j d
       obtain⟨t,t',v,F',w1,w2,w3,w4,w5⟩:=p3 n j L;rw[m]at w4;cases w4;refine k_ ?_;have eF:(if j∈Li (.io i un :: as) then Gs.getD ((Li (.io i un :: as)).idxOf j) [] else Z j)=F:=by rw[S j d,← D,Zt,m];rfl
       refine⟨t,t',v,w1,w2,w3,?_,?_⟩
       ·rw[eF];exact w5
       ·rw[eF];exact ch.nd.sublist (b6 m)) (λj j' d P n a l C=>by
       rw[S j d]at l;rw[S j' P]at C;obtain⟨n1,F,L,D,m⟩:=at_ j d
       obtain⟨n2,F',Tc,q2',q3'⟩:=at_ j' P
       rw[← D,Zt,m]at l;rw[← q2',Zt,q3']at C;exact sD ch.nd m q3' (λe=>n (by rw[e,Tc]at L;exact(Zl L).symm)) l C) ((Kept.of sm).trans ch.kept) (λb o hb ho=>ch.keep b o (λz=>by
       obtain⟨j,d,z'⟩:=(r.mv b).mp z;exact hb j d z') (sm b o ho)) (λb h=>ch.Kw b λz=>h (sm.free z)) (λj d a l=>by
       rw[S j d]at l;obtain⟨n1,F,L,D,m⟩:=at_ j d
       rw[← D,Zt,m]at l;rcases ch.sub a ((b6 m).subset l) with z | z
       ·exact .inl ((r.mv a).mp z)
       ·exact .inr (sm.free z))
      have T9:∀a∈Fu,H a=J\/∃j t,j∈Li (.io i un :: as)/\U[j]?=Y (Y (.ow t))/\a∈Z j:=λa l=>by
       rcases fof a l with z | z
       ·exact .inl (sm.free z)
       ·obtain⟨j,d,z'⟩:=(r.mv a).mp z;obtain⟨N7,P⟩:=jA.mp d;obtain⟨t,_,A,_⟩:=r.ow j N7 P;exact .inr ⟨j,t,d,A,z'⟩
      refine kq u R _ Fu z1 z2 ru ⟨fnd,λj c N a l C=>?_,λa l=>(T9 a l).imp id λ⟨j,t,_,A,g2⟩=>⟨j,t,A,g2⟩⟩;by_cases d:j∈Li (.io i un :: as)
      ·rw[S j d]at C;obtain⟨n1,F,L,D,m⟩:=at_ j d
       rw[← D,Zt,m]at C;exact fap a l ((b6 m).subset C)
      ·rw[Zo d]at C;rw[p2 j d]at N;rcases T9 a l with z | ⟨j2,t,g0,A,g2⟩
       ·obtain⟨w,_,q⟩:=s.rp j c N;exact Kn.pe (q.Kw a C) z
       ·exact s.sep j2 j t c A N (λe=>d (e ▸ g0)) a g2 C
 ·cases e2
end
def Uh(c:Ex):Ex:=λU=>(c U).bind λv=>(OC v.2).map λz=>(v.1,z.2)
abbrev Xt:=VS.Env->Option (Bool×VS.Env)
noncomputable def tXT(G:Gx)(x:Xt):TT:=λO H Q=>∃Z U b a,SR G Z U O H/\x U=Y (b,a)/\∀d e,SR G e a O d->Ku Z U H e a d->Q b d
def P9(G:Gx)(X:Cx)(e:Expr)(x:Xt):Prop:=PT X e (tXT G x)
def UE(G:Gx)(X:Cx)(e:Expr)(x:Xt):Prop:=PW X e (tXT G x)
noncomputable def Pd(x:Xx):Xt:=λU=>(x U).bind λz=>match z.1.2 with
 |.bl b=>Y (b,z.2)
 |_=>J
noncomputable def EH(x:Xt):Xt:=λU=>(x U).map λz=>(!z.1,z.2)
noncomputable def ub(x:Xt)(a b:Sx):Sx:=λU=>(x U).bind λz=>if z.1 then a z.2 else b z.2
section
def Jl(h:PV G X e c):PV G X e (Uh c):=PE.weak h λO H Q j=>by
 obtain⟨Z,U,m,t,s,e,k⟩:=j;obtain⟨⟨i,y⟩,e1,e2⟩:=Zz.mp e;obtain⟨⟨n,u⟩,e3,l⟩:=Zy.mp e2;cases l;refine⟨Z,U,i,y,s,e1,λv o F g r f=>k v o F g ?_ f⟩;have d:=r;rw[nt (show OC y=Y (n,u) from e3)]at d;obtain⟨a,rfl,_,q⟩:=oN d;exact q
def Eu(h:PX G X e x)(he:∀whole,isTrue e X.env whole=(do let v ← whole;standAt e.pos;holding [v] (truthy v))):P9 G X e (Pd x) :=
 PT.weak (FO h he) λO H Q g=>by
  obtain⟨Z,U,b,n,s,e,k⟩:=g;obtain⟨⟨⟨m,t⟩,l⟩,e1,e2⟩:=Zz.mp e;dsimp only at e2;split at e2
  ·cases e2;exact⟨Z,U,_,_,s,e1,rfl,λu j i d f r=>⟨b,r.Lf,k j i d f⟩⟩
  ·cases e2
def DD(h:P9 G X e xt):P9 G X (.UnaryOp .Not e pos) (EH xt):=PT.weak (Cj h) λO H Q d=>by
 obtain⟨Z,U,b,i,s,e,k⟩:=d;obtain⟨⟨f,g⟩,e1,e2⟩:=Zy.mp e;cases e2;exact⟨Z,U,f,_,s,e1,k⟩
def UE.pxt(h:UE G X e xt):P9 G X e xt:=PW.pt h
def vY(l:P9 G X e xt)(n:hU G X h c1)(m:hU G X f c2):PSV G X (.If e h f pos) (ub xt c1 c2):=PS.weak (EJ l n m) λD O H j=>by
 obtain⟨Z,U,o,s,e,k⟩:=j;obtain⟨⟨g,d⟩,e1,e2⟩:=Zz.mp e;refine⟨Z,U,g,d,s,e1,λp i s1 f1=>?_⟩;cases g with
 |true=>exact yI ⟨i,d,o,s1,e2,k.back f1⟩
 |false=>exact yT ⟨i,d,o,s1,e2,k.back f1⟩
end
structure IoAt(P:SB)(w:XAB)(K:X2)(mg:Wv)(base:XAA)(k:Nat)(x:Str)(ps:List Str)(G:Gx)(mv:List Bool)(g:Ut->Option (Ut×T)):Prop where
 ex:∃f fd,FnOk P w K mg base La k f fd ps (S6 G mv g)/\mg x=some (.ref f)/\PySem.W.keepIn K (.ref f)=true/\Binds K fd ps []
section
variable{K:X2}
def su{G:Gx}(F:Kp K x x a f i)(n:mg x=Y (.ref f))(S:gV N ps (ag a))(j:ps.length=g)(l:N.length=h)(p:∀(kV doc pm:PP)(an:Option On)(d ct:PP)(e:Vz),e.length=ps.length->bindArgs (PySem.W.fnOf x x (cM a) (aX a) (ag a) .none kV doc pm an d ct) ⟨e,[]⟩=pure (ps.zip e))(o:∀(m:Me)(d:PP)(A:SC)(outer:List PySem.Env)(s:KB)(H:Hp)(E:XK),p0 k (A.deeper (envOfC x (ag a) s.heap.objs.size f d))->hU (G.at m) (jr La P w K mg base N x (ag a) f d A outer s H E).Nf (aX a) b) :
  IoAt P w K mg base (k+1) x ps G mv (OQ g h mv b):=⟨f,i,fnI F S j l o,n,F.kp,F.binds p⟩
end
end VS
end
section
namespace VS
open PySem PySem.Spec PyProof.Rows L2
section
def oR{b:Expr}(o:PV G X a g)(n:PV G X b f)(l:PV G X c d)(j:lastMarks [.Lt,.Lt] [b,c]=B):MA G X (.Compare a [.Lt,.Lt] [b,c] pos) (iA oLt oLt g f d) :=
 PT.weak (ux se se o n l j) λO H Q h=>nV h (λU m r e=>by
  obtain⟨x,w,e⟩:=Zz.mp e;obtain⟨y,v,e⟩:=Zz.mp e;obtain⟨⟨p,z⟩,s,e⟩:=Zz.mp e;cases z with
  |bl q =>
   cases q with
   |false=>cases e;exact⟨_,rfl⟩
   |true =>
    obtain⟨i,u,e⟩:=Zz.mp (e);exact kW y i m r e
  |_=>cases e) λQ h=>ug xw xw h
end
def xI(c:Ex):Xx:=λU=>(c U).bind λv=>if Kh v.2=M then Y ((.fr,v.2),U) else J
def x2(f:Val->Val->Uu)(a b:Xx):Xx:=λU=>(a U).bind λz=>(b z.2).bind λw=>(f (.fr,z.1.2) (.fr,w.1.2)).bind λv=>if Kh z.1.2=M/\Kh w.1.2=M/\Kh v.2=M then Y ((.fr,v.2),w.2) else J
def jO(c:Ex)(x:Xt):Xt:=λU=>(c U).bind λv=>(Pe v.2).bind λb=>if b then x U else Y (B,U)
def mD(c:Ex)(b:Xx):Xx:=λU=>(c U).bind λx=>match x with
 | (.fr,.lst a)=>(b U).bind λz=>match z.1.2 with
  |.int i=>(Ll a.length i).bind λj=>(a[j]?).bind λt=>if gE a=M/\Kh t=M then Y ((.fr,t),z.2) else J
  |_=>J
 |_=>J
def uH(n:Nat)(b:Xx):Xx:=λU=>match (U[n]?:Option (Uw)) with
 |some (some _)=>(b U).bind λz=>match z.1.2,(z.2[n]?:Option (Uw)) with
  |.int i,some (some c)=>(match jN c with
   |.lst a=>(Ll a.length i).bind λj=>(a[j]?).bind λt=>if Kh t=M then Y ((.fr,t),z.2) else J
   |_=>J)
  |_,_=>J
 |_=>J
section
def bp(h:PV G X e ca):PX G X e (xI ca):=PE.weak h λO H Q g=>by
 obtain⟨Z,U,v,n,s,e,l,k⟩:=g;obtain⟨⟨m,t⟩,e1,e2⟩:=Zz.mp e;split at e2
 ·rename_i i;cases e2;refine⟨Z,U,m,t,s,e1,λu j F d r f=>k u j Z (s.same d) (Ku.same d) ?_⟩;have:=r.Kh i;subst this;exact r
 ·cases e2
def zh(u:eT G r f)(h:tX G (x2 f xa xb) O H Q):Sl r (tX G xa) (tX G xb) O H Q:=by
 refine L2.ai λR x=>?_;obtain⟨Z,U,v,P,s,e,L,k⟩:=h;obtain⟨z,C,e1⟩:=Zz.mp e;obtain⟨w,A,e2⟩:=Zz.mp e1;obtain⟨⟨m,t⟩,y,e3⟩:=Zz.mp e2;refine x ?_;split at e3
 ·rename_i d;cases e3;refine⟨Z,U,z.1,z.2,s,C,d.1,λp S D s1 f1 r1=>⟨D,z.2,w.1,w.2,s1,A,d.2.1,λo l j q f2 r2=>?_⟩⟩;refine u j w.2 l l (.fr,z.1.2) (.fr,w.1.2) p o [] [] m t Q ⟨aO.refl _,r1.keep f2.kept (λa h=>nomatch h),r2,Fp.nil,Fp.nil,λ_ _=>Yn⟩ y λn E F g i N=>k n E j (q.same g) ((f1.trans f2).trans (Ku.same g)) ?_;have:=i.Kh d.2.2;subst this;exact i
 ·cases e3
def sS(i:OpR X (binaryOp d) r)(g:eT G r f)(l:PX G X a xa)(j:PX G X b xb):PX G X (.BinOp a d b pos) (x2 f xa xb):=PE.weak (EN i l j) λO H Q h=>zh g h
def wG(l:OpR X (UV d) r)(i:eT G r f)(p:PX G X a xa)(o:PX G X b xb)(n:behindInMarks d b=B):P9 G X (.Compare a [d] [b] pos) (Pd (x2 f xa xb)):=PT.weak (xZ l p o n) λO H Q h=>by
 refine L2.ai λy j=>?_;obtain⟨Z,U,b,x,s,e,k⟩:=h;obtain⟨⟨⟨m,t⟩,w⟩,e1,e2⟩:=Zz.mp e;refine j ?_;dsimp only at e2;split at e2
 ·cases e2;exact zh i ⟨Z,U,_,_,s,e1,rfl,λu v q g f r=>⟨b,r.Lf,k v q g f⟩⟩
 ·cases e2
def Iw(i:PX G X a xa)(g:PX G X b xb)(d:fX b)(j:X.K=G.K):PX G X (.Subscript a b pos) (x2 aE xa xb):=PE.weak (mO kg i g d) λO H Q h=>by
 rw[j];exact zh vq h
def A8(h:P9 G X e xt):UE G X (.BoolOp .And [e] pos) xt:=nI h
def Dc{G:Gx}{X:Cx}{a:Expr}{rest:List Expr}{ca:Ex}{xt:Xt}{pos:Pos}(o:MA G X a ca)(n:UE G X (.BoolOp .And (b :: rest) pos) xt):UE G X (.BoolOp .And (a :: b :: rest) pos) (jO ca xt):=PW.weak (Bp o n) λO H Q l=>by
 refine L2.ai λw j=>?_;obtain⟨Z,U,r,q,s,e,k⟩:=l;obtain⟨⟨m,t⟩,e1,e2⟩:=Zz.mp e;obtain⟨h,e3,g⟩:=Zz.mp e2;refine j ?_;refine⟨Z,U,m,t,h,s,e1,e3,λu d=>?_⟩;cases h with
 |true=>exact yI ⟨Z,U,r,q,s.same d,g,λv p i f=>k v p i ((Ku.same d).trans f)⟩
 |false =>
  cases g;exact yT (k u Z (s.same d) (Ku.same d))
def sr(N:PV G X a ca)(L:PX G X b xb)(D:fX b:=by exact λ_ _=>rfl)(P:{`q8,X.K=G.K}):PX G X (.Subscript a b pos) (mD ca xb):=PE.weak (mO kg N L D) λO H Q E=>by
 refine L2.ai λP_ y=>?_;obtain⟨Z,U,v,U',s,e,hi,k⟩:=E;obtain⟨x,ea,e1⟩:=Zz.mp e;refine y ?_;split at e1
 ·rename_i p;obtain⟨z,eb,e2⟩:=Zz.mp e1;split at e2
  ·rename_i A m;obtain⟨j,S,e3⟩:=Zz.mp e2;obtain⟨t,R,d⟩:=Zz.mp e3;split at d
   ·rename_i F;cases d;refine⟨Z,U,.fr,.lst p,s,ea,λu H1 F1 i r1 f1=>⟨Z,U,z.1,z.2,s.same i,eb,by rw[m];rfl,λw H2 Z2 q f2 r2=>?_⟩⟩;obtain⟨a,n,Fs,rfl,rfl,QU,l⟩:=r1.lst_inv;have Oh:=(f2.keep a _ QU (λz=>Kn.pe (s.KJ z) (f1.2 a Zv))).1;obtain⟨x,Fx,o,u2,g⟩:=l.get j R;have C:=g.Kh F.2;subst C;rw[m]at r2;refine .inl ⟨a,n,A,x,rfl,r2.int_inv,by rw[P];exact Kt.of Oh,jt (by rw[l.len.1];exact S) o,?_⟩;exact k x H2 Z2 q ((Ku.same i).trans f2) (g.keep f2.kept (λa h=>nomatch h))
   ·cases d
  ·cases e2
 ·cases e1
end
section
variable{H:Hp}
noncomputable def Td(Z:Kk):Kk:=λi=>match i with
 |0=>[]
 |i+1=>Z i
def zL:bW (Td Z) (Y (.pu t) :: U) a↔bW Z U a:=by
 constructor
 ·rintro⟨j,u,b,d⟩;cases j with
  |zero=>cases (b)
  |succ j=>exact⟨j,u,b,d⟩
 ·rintro⟨j,u,b,d⟩;exact⟨j+1,u,b,d⟩
def IW(h:dm (Td Z) (Y (.pu t) :: U) a):dm Z U a:=by
 obtain⟨j,u,d,b⟩:=h;cases j with
 |zero=>exact nomatch b
 |succ j=>exact⟨j,u,d,b⟩
def SR.ps{v:V}{t:T}(s:SR G Z U O H)(r:Rp G H v t []):SR G (Td Z) (Y (.pu t) :: U) (Y v :: O) H:=by
 refine⟨by rw[Zf,Zf,s.len],λi c h=>?_,λi u h=>?_,λi j u c b d n=>?_⟩
 ·cases i with
  |zero=>cases (h);exact⟨v,rfl,r⟩
  |succ i=>exact s.rp i c h
 ·cases i with
  |zero=>cases (h)
  |succ i=>exact s.nd i u h
 ·cases i with
  |zero=>cases (b)
  |succ i =>
   cases j with
   |zero=>exact λa _ h=>nomatch h
   |succ j=>exact s.sep i j u c b d (λe=>n (by rw[e]))
def SR.pop(s:SR G Z5 (c :: U5) (v :: O) H):SR G (λi=>Z5 (i+1)) U5 O H :=
 ⟨by have:=s.len;simpa using this,λi c h=>s.rp (i+1) c h,λi u h=>s.nd (i+1) u h,λi j u c b a n=>s.sep (i+1) (j+1) u c b a (λe=>n (by omega))⟩
def Ku.pop(f:Ku (Td Z) (Y (.pu t) :: U) H Z5 (c :: U5) H5):Ku Z U H (λi=>Z5 (i+1)) U5 H5:=by
 have ow:∀a,bW (λi=>Z5 (i+1)) U5 a->bW Z5 (c :: U5) a:=λa ⟨j,u,d,b⟩=>⟨j+1,u,d,b⟩
 refine⟨λa o h n=>?_,f.Kw,λa h=>?_,λa h=>?_,f.kept⟩
 ·obtain⟨d,b⟩:=f.keep a o h λz=>n (zL.mp z);exact⟨d,λz=>b (ow a z)⟩
 ·exact(f.ow a (ow a h)).imp zL.mp id
 ·obtain⟨j,u,d,b⟩:=h;rcases f.pu a ⟨j+1,u,d,b⟩ with z | z | z
  ·exact .inl (IW z)
  ·exact .inr (.inl (zL.mp z))
  ·exact .inr (.inr z)
end
def iS(x:Xx):Uy->VS.Env->Option (Ut×VS.Env)
 |[],U=>Y ([],U)
 |i :: r,U=>(x (Y (.pu (.int i)) :: U)).bind λz=>match z.2 with
  |_ :: a=>if Kh z.1.2=M then (iS x r a).map λw=>(z.1.2 :: w.1,w.2) else J
  |[]=>J
noncomputable def RC(i n:Nat):Uy:=(List.range' i n).map λ(k:Nat)=>(k:Int)
def tD(a x:Xx)(U:VS.Env):Option (Ut×VS.Env):=(a U).bind λz=>match z.1.2 with
 |.int j=>if 0<=j/\j<1000000 then iS x (RC 0 j.toNat) z.2 else J
 |_=>J
def tXL(G:Gx)(y:VS.Env->Option (Ut×VS.Env)):TE:=λO H Q=>∃Z U e a,SR G Z U O H/\y U=Y (e,a)/\∀D f b d,SR G d a O b->Ku Z U H d a b->b D=Y (.lst f)->RpL G b f e (List.replicate e.length [])->H D=J->¬bW d a D->¬dm d a D->Q (.ref D) b
theorem qL{α:Type}:∀n:Nat,(List.replicate n ([]:List α)).flatten=[]
 |0=>rfl
 |n+1=>by rw[X9,ZG,qL n];rfl
abbrev CxI(G:Gx)(x:Xx)(n:Nat)(j:Kk)(l:VS.Env)(q:Hp)(D:On)(g:Ut)(o:VS.Env)(O:L2.St):Nat->Nat->L2.St->Hp->Prop:=λi m p d=>m=n-i/\i<=n/\∃b a e f rest h,p=h :: O/\SR G b a O d/\Ku j l q b a d/\d D=Y (.lst f)/\¬bW b a D/\¬dm b a D/\RpL G d f e (List.replicate e.length [])/\iS x (RC i (n-i)) a=Y (rest,o)/\e++rest=g
section
def Bq(hg:∀v O H (R:L2.St->Hp->Prop),R (O.set 0 (Y v)) H->g v O H R)(h:tXL G (tD xa x) O H Q):uK 1 (E1 (Ez (tX G xa) Ea)) g (λO H Q=>Q M H) (tX G x) O H Q:=by
 refine L2.ai λP_ k_=>?_;obtain⟨Z,U,ts,U',s,e,kq⟩:=h;obtain⟨z,ea,e1⟩:=Zz.mp e;refine k_ ?_;split at e1
 ·rename_i j hj;split at e1
  ·rename_i hb;obtain⟨n,hn⟩:∃n:Nat,n=j.toNat:=⟨_,rfl⟩
   rw[← hn]at e1;refine⟨Z,U,z.1,z.2,s,ea,by rw[hj];rfl,λu H1 Z1 s1 f1 r1=>⟨j,by rw[hj]at r1;rw[r1.int_inv],by omega,by omega,λD f=>?_⟩⟩;rw[← hn];refine⟨CxI G x n Z1 z.2 H1 D ts U' O,⟨n,by omega,ZA _,Z1,z.2,[],[],ts,J,rfl,?_,Ku.same (cF f),aw,?_,?_,.nil,e1,rfl⟩,?_⟩
   ·exact s1.off (.inr f) (λq=>Kn.pe (s1.MS q) f) λq=>Kn.pe (s1.KJ q) f
   ·exact λq=>Kn.pe (s1.KJ q) f
   ·exact λq=>Kn.pe (s1.MS q) f
   ·rintro i m O' H' ⟨rfl,L7,Z2,U2,vs,xs,rest,c0,rfl,s2,f2,C,A,P,rp,E,ev⟩;by_cases Lp:i<n
    ·right;refine⟨Lp,λy H2 yl=>hg _ _ _ _ ?_⟩;obtain⟨rfl,rfl⟩:=yl;rw[show n-i=(n-(i+1))+1 by omega]at E;unfold RC at E;rw[Vw,Zm,iS]at E;obtain⟨w,ex,Ub⟩:=Zz.mp E;split at Ub
     ·rename_i c3 U3 hw;split at Ub
      ·rename_i Po;refine L2.ai λP_ k_=>?_;obtain⟨q,eq,e3⟩:=Zy.mp Ub;cases e3;refine k_ ?_;rw[Zp L];refine⟨Td Z2,Y (.pu (.int (i:Int))) :: U2,w.1,w.2,(s2.ps (v:=.int ((0:Int)+(i:Int))) (t:=.int (i:Int)) (by rw[Int.zero_add];exact .int _)),ex,Po,λu5 H5 Z5 s5 f5 r5=>?_⟩;rw[hw]at s5 f5;have f6:=f5.pop;obtain⟨T5,S⟩:=f6.keep D _ C A;have F:¬dm (λi=>Z5 (i+1)) U3 D:=λq=>by
        rcases f6.pu D q with q | q | q
        ·exact P q
        ·exact A q
        ·rw[C]at q;cases q
       have PL:Kn (H5 D):=by rw[T5];exact True.intro
       have lx:=rp.len.1;refine⟨xs,T5,?_,n-(i+1),by omega,rfl,Lp,λi=>Z5 (i+1),U3,vs++[w.1.2],xs++[u5],q.1,_,rfl,s5.pop.off (.inl PL) F S,?_,aw,S,F,?_,eq,?_⟩
       ·have:vs.length<=n:=by
         have hc:∀(l:Uy)(U:VS.Env)(r:Ut)(U':VS.Env),iS x l U=Y (r,U')->r.length=l.length:=by
          intro l
          induction l with
          |nil=>intro U r U' h;cases h;rfl
          |cons a l ih =>
           intro U r U' h;rw[iS]at h;obtain⟨w',_,b⟩:=Zz.mp h;split at b
           ·split at b
            ·obtain⟨q',h3,h4⟩:=Zy.mp b;cases h4;rw[Zf,Zf,ih _ _ _ h3]
            ·cases b
           ·cases b
         have d:=hc _ _ _ _ e1;unfold RC at d;rw[Zw,Ws]at d;rw[← ev,Zs]at d;omega
        have hs:(KM:Nat)=16777216:=rfl;omega
       ·have ff:=f2.trans f6;refine⟨λa o d b=>?_,λa d b=>?_,ff.ow,ff.pu,ff.kept.trans (Kept.upd (.inl PL))⟩
        ·obtain⟨q1,q2⟩:=ff.keep a o d b;exact⟨by rw[aD (λz=>by rw[z,f]at d;cases d)];exact q1,q2⟩
        ·by_cases q:a=D
         ·rw[q,aw]at b;cases b
         ·rw[aD q]at b;exact ff.Kw a d b
       ·have r2:Rp G (upd H5 D (.lst (xs++[u5]))) u5 w.1.2 []:=r5.keep (Kept.upd (.inl PL)) (λa h=>nomatch h);have:=((rp.keep f6.kept (by rw[qL];exact λa h=>nomatch h)).keep (Kept.upd (.inl PL)) (by rw[qL];exact λa h=>nomatch h)).append (.cons r2 .nil);rw[Zs,NN,List.replicate_succ'];exact this
       ·rw[Ze];exact ev
      ·cases Ub
     ·cases Ub
    ·left;have hni:n-i=0:=by omega
     rw[hni]at E;cases (E);rw[ZM]at ev;subst ev;refine⟨by show n<=i;omega,kq D xs H' Z2 s2 (f1.trans f2) C rp (f1.none f) A P⟩
  ·cases e1
 ·cases e1
end
def EZ(a:Tx)(y:VS.Env->Option (Ut×VS.Env)):Xx:=λU=>(y U).bind λz=>(lK (.fr,.str a) [(.fr,.lst z.1)]).map λv=>((.fr,v.2),z.2)
section
def C7{b:Pos}(C:PV G X a (eC (.str sep)))(g:PE X e (tXL G y))(n:X.K=G.K)(S:XAC a "join" X.env (eval a X.env)=eval a X.env)(K5:((backTo d (P3 [e] X.env)).all (λx=>!x.1)&&(backToKw d (SZ [] X.env)).all (λx=>x.1.isSome)
   && decide ([e].length+([]:List Keyword).length+(if ([]:List Keyword).isEmpty then 0 else 1)<30))=M)(Kr:(b.endLine==d.line)=M)(l:K1 e [] X)(Kl:(backTo d (P3 [] X.env)).any (·.1)=B) :
  PX G X (.Call (.Attribute a "join" b) [e] [] d) (EZ sep y) :=
 PE.weak (qk PySem.F.plainAttrs_str PySem.F.slot_str_join PySem.F.type_str_join ya C (cZ g g8 l) S K5 Kr l Kl) λO H Q h=>by
  refine L2.ai λP_ A=>?_;obtain⟨Z,U,v,U',s,e,hi,k⟩:=h;obtain⟨z,E,e1⟩:=Zz.mp e;obtain⟨v0,e2,e3⟩:=Zy.mp e1;cases e3;obtain⟨f,q,i⟩:=Zz.mp e2;refine A ?_;split at i
  ·rename_i m;cases i;refine⟨Z,U,.fr,.str sep,s,rfl,λu H1 F1 j r1 f1=>⟨by rw[n];exact t7 r1 ⟨_,rfl⟩,Z,U,z.1,z.2,s.same j,E,λD vs H2 L r f2 o rp QV no np=>?_⟩⟩;rw[rn rp q]at o;refine⟨sep,D,f,r1.str_inv.1,rfl,by rw[n];exact Kt.of o,m,k _ H2 L r ((Ku.same j).trans f2) (.str _ ⟨ZR (jZ sep f) m,λc g=>(j5 sep f c g).elim (r1.str_inv.2.2 c) λ⟨w,P,R⟩=>j4 rp q w P c R⟩)⟩
  ·cases i
end
inductive Ix where | io (i:Nat) (un:Bool) | px (x:Xx)
def lP:List Ix->VS.Env->Option (List Ia×VS.Env)
 |[],U=>Y ([],U)
 |.io i un :: r,U=>match (U[i]?:Option (Uw)) with
  |some (some _)=>(lP r U).map λw=>(.io i un :: w.1,w.2)
  |_=>J
 |.px x :: r,U=>(x U).bind λz=>if Kh z.1.2=M then (lP r z.2).map λw=>(.ex (eC z.1.2) :: w.1,w.2) else J
noncomputable def PN:List Ix->List Bool
 |[]=>[]
 |.io _ _ :: r=>M :: PN r
 |.px _ :: r=>B :: PN r
def br(a:List Ix)(g:Ut->Option (Ut×T)):Xx:=λU=>(lP a U).bind λw=>oA w.1 g w.2
inductive Mf(G:Gx)(O:L2.St)(H:Hp):List Ia->List V->Prop
 |nil:Mf G O H [] []
 |io {i:Nat} {un:Bool} {v:V} {as:List Ia} {vs:List V}:O[i]?=some (some v)->Mf G O H as vs->Mf G O H (.io i un :: as) (v :: vs)
 |ex {t:T} {v:V} {as:List Ia} {vs:List V}:Kh t=true->Rp G H v t []->Mf G O H as vs->Mf G O H (.ex (eC t) :: as) (v :: vs)
def tIx(G:Gx)(g:List Ix):TA:=λO H Q=>∃Z U f b,SR G Z U O H/\lP g U=Y (f,b)/\∀d a e,SR G e b O a->Ku Z U H e b a->Mf G O a f d->Q d a
def Rb(G:Gx)(X:Cx)(a:List Expr)(b:List Ix):Prop:=PA X a (tIx G b)
section
theorem vS:∀{as:List Ix}{U j:VS.Env}{a:List Ia},lP as U=Y (a,j)->LI a=PN as
 |[],_,_,_,h=>by cases h;rfl
 |.io i un :: as,U,j,a,h=>by
  unfold lP at h;split at h
  ·obtain⟨w,d,b⟩:=Zy.mp h;cases b;show M :: LI w.1=M :: PN as;rw[vS d]
  ·cases h
 |.px x :: as,U,j,a,h=>by
  obtain⟨z,_,f⟩:=Zz.mp h;split at f
  ·obtain⟨w,d,b⟩:=Zy.mp f;cases b;show B :: LI w.1=B :: PN as;rw[vS d]
  ·cases f
theorem Mf.keep(k:Kept H j)(h:Mf G O H f d):Mf G O j f d:=by
 induction h with
 |nil=>exact .nil
 |io h _ b=>exact .io h b
 |ex l r _ b=>exact .ex l (r.keep k (λa h=>nomatch h)) b
def Ip(s:SR G Z U O H)(h:Mf G O H j d):∀{f:Ut},pP U j=Y f->∃b,RpL G H d f b/\Qw Z U O H j d b:=by
 induction h with
 |nil=>intro f e;cases e;exact⟨[],.nil,.nil⟩
 |@io i un v j d w _ n =>
  intro f e;obtain⟨t,e1,e2⟩:=Zz.mp (e);obtain⟨LC,e3,rfl⟩:=Zy.mp e2;obtain⟨b,r,q⟩:=n e3;unfold TC at e1;split at e1
  ·rename_i t0 N;obtain⟨o,y,L⟩:=s.rp _ _ N;rw[w]at y;cases y;have l:=L;have key:∃a,v=.ref a/\Rp G H (.ref a) t (Z i):=by
    split at e1
    ·obtain⟨⟨m,u⟩,Q,P⟩:=Zy.mp e1;cases P;rw[nt Q]at l;obtain⟨a,E,_,D⟩:=oN l;exact⟨a,E,D⟩
    ·split at e1
     ·rename_i F;cases e1;obtain⟨a,rfl⟩:=HL l F;exact⟨a,rfl,l⟩
     ·cases e1
   obtain⟨a,rfl,C⟩:=key;exact⟨Z i :: b,.cons C r,.io w q⟩
  ·cases e1
 |@ex t v j d hi A _ n =>
  intro f e;obtain⟨o,e1,e2⟩:=Zz.mp (e);have ev:o.2=t:=by
   cases e1;rfl
  obtain⟨z,e3,e4⟩:=Zz.mp e2;obtain⟨LC,S,rfl⟩:=Zy.mp e4;have R:z=t:=by
   unfold exV at e3;split at e3
   ·split at e3
    ·cases e3;exact ev
    ·cases e3
   ·cases e3;exact ev
  subst R;obtain⟨b,r,q⟩:=n S;exact⟨[] :: b,.cons A r,.ex (λa h=>nomatch h) q⟩
def cj:Rb G X [] []:=PA.weak g8 λO H Q a=>by
 obtain⟨Z,U,d,b,s,e,k⟩:=a;cases e;exact k [] H Z s (Ku.refl _ _ _) .nil
def dh{X:Cx}(i:Nat)(d:Bool)(u:X.N[i]?=Y n)(j:M7 X.env.scope n)(q:K3 n)(a:K4 n)(m:Rb G X es as)(l:{`q8,P3 (.Name n pos :: es) X.env=(B,eval (.Name n pos) X.env) :: P3 es X.env}):Rb G X (.Name n pos :: es) (.io i d :: as) :=
 PA.weak (cZ (fh u j q a) m l) λO H Q o=>by
  obtain⟨Z,U,D,C,s,e,k⟩:=o;unfold lP at e;split at e
  ·rename_i c r;obtain⟨w,e1,e2⟩:=Zy.mp e;cases e2;obtain⟨v,b,_⟩:=s.rp _ _ r;exact⟨v,b,Z,U,w.1,w.2,s,e1,λA z y h f ix=>k _ z y h f (.io b ix)⟩
  ·cases e
def cX(h:PX G X e x)(l:Rb G X es as)(j:{`q8,K1 e es X}):Rb G X (e :: es) (.px x :: as) :=
 PA.weak (cZ h l j) λO H Q m=>by
  obtain⟨Z,U,A,y,s,e,k⟩:=m;obtain⟨z,e1,e2⟩:=Zz.mp e;split at e2
  ·rename_i d;obtain⟨w,e3,n⟩:=Zy.mp e2;cases n;exact⟨Z,U,z.1,z.2,s,e1,d,λu C o s1 f1 r1=>⟨o,z.2,w.1,w.2,s1,e3,λv r q f b ix=>k _ r q f (f1.trans b) (.ex d (r1.keep b.kept (λa h=>nomatch h)) ix)⟩⟩
  ·cases e2
def qi{X:Cx}(F:FnOk X.prog X.w X.K X.mg X.base La k f l j (S6 G (PN as) g))(C:p0 k X.A)(L:Gl X n)(D:X.mg n=Y (.ref f))(E:PySem.W.keepIn X.K (.ref f)=M)(N:Binds X.K l j [])(P:Rb G X (e :: es) (.io i un :: as))(Lq:K3 n)(he:K1 e es X)(KQ:K2 pos es X):PXN G X (.Call (.Name n p) (e :: es) [] pos) (br (.io i un :: as) g) :=
 PE.weak (r9 F C L D E N .nil jT P Lq he KQ) λO H Q h=>by
  refine L2.ai λP_ y=>?_;obtain⟨Z,U,v,U',s,e,q⟩:=h;obtain⟨⟨Ot,U1⟩,e1,e2⟩:=Zz.mp e;refine y ?_;have d:=vS e1;refine⟨Z,U,Ot,U1,s,e1,λm H1 Z1 s1 f1 ix=>?_⟩;show S6 G (PN as) g (m++[]) H1 Q _;rw[ZM];cases ix with
  |nil=>cases d
  |ex _ _ _=>cases d
  |@io i' N7 v' as' Ml R a =>
   have b:=(W8 (d)).2;have Mb:=e2;obtain⟨ts,e3,_⟩:=Zz.mp Mb;obtain⟨Fs,rp,z⟩:=Ip s1 (.io R a) e3;rw[← b];exact vk s1 e2 e3 (aO.refl _) rp z λu H' Z' F o S r n=>q u H' Z' F o (f1.trans S) r (n.back f1)
end
noncomputable def sW(j:Nat)(x:Xx):Sx:=λU=>(x U).bind λz=>if j<z.2.length then Y (.nx (z.2.set j (Y (.ow z.1.2)))) else J
section
def Cz(l:tS G (sW j x) D O H):tXN G x O H λu i=>D.nx (O.set j (Y u)) i:=by
 obtain⟨Z,U,o,s,e,k⟩:=l;obtain⟨z,e1,e2⟩:=Zz.mp e;split at e2
 ·rename_i m;cases e2;refine⟨Z,U,z.1,z.2,s,e1,λu i v F s1 f1 r1 d=>?_⟩;refine k _ _ _ (s1.put m r1 (λ_ _ _ _ _ q=>q) (λ_ _=>d.nd) (λ_ _ f p _ g a b=>d.ap f p g a b) λf t _ g a b r=>d.ap f _ g a r b) ⟨λa o h n=>⟨(f1.keep a o h n).1,λz=>?_⟩,f1.Kw,λa h=>?_,λa h=>?_,f1.kept⟩
  ·rcases kf z with⟨_,_,b⟩ | z
   ·rcases d.of a b with q | q
    ·rw[q]at h;cases h
    ·exact n q
   ·exact(f1.keep a o h n).2 z
  ·rcases kf h with⟨_,_,b⟩ | z
   ·exact(d.of a b).symm
   ·exact f1.ow a z
  ·rcases qD h with⟨_,q,_⟩ | z
   ·cases q
   ·exact f1.pu a z
 ·cases e2
def Ah{pos:Pos}(h:PXN G X e x)(g:X.N.Nodup)(d:X.N[j]?=Y nm)(a:Loc X.env.scope nm)(i:swapsWith e (Y (.Name nm pos')) pos.line X.env=pure B)(f:X.fn nm=M\/X.env.scope.names.lookup nm=Y .local) :
  PSV G X (.Assign [.Name nm pos'] e pos) (sW j x) :=
 PS.weak (rB g d a h i f) λD O H b=>Cz b
end
noncomputable def pf(o:Option Xx)(U:VS.Env):Option (Option Int×VS.Env):=match o with
 |none=>Y (J,U)
 |some x=>(x U).bind λz=>match z.1.2 with
  |.int i=>Y (Y i,z.2)
  |_=>J
def SU(a:Xx)(b d:Option Xx):Xx:=λU=>(a U).bind λz=>match z.1.2 with
 |.str t=>(pf b z.2).bind λl=>(pf d l.2).map λh=>((.fr,.str (cut t l.1 h.1)),h.2)
 |_=>J
def UN(G:Gx)(o:Option Xx):TO:=λO H Q=>∃Z U i a,SR G Z U O H/\pf o U=Y (i,a)/\∀b d,SR G d a O b->Ku Z U H d a b->Q i b
section
variable{lo:Option Expr}
def sP:PO X J (UN G J):=PO.weak xY λO H Q d=>by
 obtain⟨Z,U,o,f,s,e,k⟩:=d;cases e;exact k H Z s (Ku.refl _ _ _)
def ui(h:PX G X e x):PO X (Y e) (UN G (Y x)):=PO.weak (yb h) λO H Q l=>by
 obtain⟨Z,U,o,q,s,e,k⟩:=l;obtain⟨z,e1,e2⟩:=Zz.mp e;split at e2
 ·rename_i j d;cases e2;refine⟨Z,U,z.1,z.2,s,e1,by rw[d];rfl,λu p m g f r=>⟨j,?_,k p m g f⟩⟩;rw[d]at r;exact r.int_inv
 ·cases e2
def E9(r:PX G X a xa)(o:PO X lo (UN G xl))(p:PO X hi (UN G xh)):PX G X (.Subscript a (.Slice lo hi J p2) pos) (SU xa xl xh) :=
 PE.weak (tQ Ce r o p) λO H Q m=>by
  obtain⟨Z,U,v,N,s,e,P,k⟩:=m;obtain⟨z,e1,e2⟩:=Zz.mp e;split at e2
  ·rename_i t f;obtain⟨l,e3,C⟩:=Zz.mp e2;obtain⟨h,A,y⟩:=Zy.mp C;cases y;refine⟨Z,U,z.1,z.2,s,e1,by rw[f];rfl,λu S F s1 f1 r1=>⟨F,z.2,l.1,l.2,s1,e3,λR E j f2=>⟨E,l.2,h.1,h.2,j,A,λL D g w=>?_⟩⟩⟩;rw[f]at r1;obtain⟨rfl,d⟩:=r1.str_inv;refine⟨_,rfl,by rw[dP,← fW];exact d.1,?_⟩;rw[jQ];exact k _ L D g ((f1.trans f2).trans w) (.str _ ⟨ZR (xk _ _ _) d.1,λc q=>d.2 c ((rD _ _ _).subset q)⟩)
  ·cases e2
def Gm{X:Cx}(i:Nat)(hN:X.N[i]?=Y n)(E:M7 X.env.scope n)(P:K3 n)(f:K4 n)(S:PX G X b xb)(F:fX b)(hK:X.K=G.K):PX G X (.Subscript (.Name n p2) b pos) (uH i xb) :=
 PE.weak (mO kg (fh hN E P f) S F) λO H Q L=>by
  obtain⟨Z,U,v,U',s,e,Po,k⟩:=L;unfold uH at e;split at e
  ·rename_i c0 g;obtain⟨y,r,_⟩:=s.rp _ _ g;obtain⟨z,e1,e2⟩:=Zz.mp e;split at e2
   ·rename_i C c p R;split at e2
    ·rename_i ts d;obtain⟨j,ej,e3⟩:=Zz.mp e2;obtain⟨t,et,h⟩:=Zz.mp e3;split at h
     ·rename_i hit;cases h;refine⟨y,r,Z,U,z.1,z.2,s,e1,by rw[p];rfl,λw H2 Z2 m f2 r2=>?_⟩;obtain⟨v1,q,r1⟩:=m.rp _ _ R;rw[r]at q;cases q;rw[d]at r1;rw[p]at r2;obtain⟨a,u,Fs,rfl,eF,QU,o⟩:=r1.lst_inv;obtain⟨x,Fx,A,u2,l⟩:=o.get j et;have D:=l.Kh hit;subst D;exact .inl ⟨a,u,C,x,rfl,r2.int_inv,by rw[hK];exact Kt.of QU,jt (by rw[o.len.1];exact ej) A,k x H2 Z2 m f2 l⟩
     ·cases h
    ·cases e2
   ·cases e2
  ·cases e
end
section
def Cf{X:Cx}(N:List Str)(o:X.calm=M)(f:Gl X "range")(e:X.mg "range" = J)(i:PX G X a xa)(b:∀cl C s H fp,PG (bY X N sc cl C s H fp) (.Name nm p2) (Bu 0))(he:∀cl C s H fp,PX G (bY X N sc cl C s H fp) elt x)(d:K1 a [] X)(n:P3 [a] X.env=[(B,eval a X.env)])(m:oE X.env sc=M)(l:nO sc (N.drop 1) X.N=M)(j:1<=N.length)(g:∀x,XAD (.Call (.Name "range" p) [a] [] p3) X.env x=pure x) :
  PE X (.ListComp elt [⟨.Name nm p2,.Call (.Name "range" p) [a] [] p3,[],0⟩] sc pos) (tXL G (tD xa x)) :=
 PE.weak (nF o (pT f e (cZ i g8 d) n) m l j (λcl C s H fp=>⟨b cl C s H fp,lB,he cl C s H fp⟩) g) λO H Q h=>Bq (λv O H R r=>r) h
end
section
variable{lo:Option Expr}
def wm(f:MA G X a ca)(d:P9 G X b xt):P9 G X (.BoolOp .And [a,b] pos) (jO ca xt):=(Dc f (A8 d)).pxt
def cy{X:Cx}(F:IoAt X.prog X.w X.K X.mg X.base k x ps G (PN as) g)(d:p0 k' X.A)(m:Rb G X (e :: es) (.io i un :: as))(h:{`q1,k<=k'})(l:{`q8,Gl X x})(u:{`q8,K3 x})(he:{`q8,K1 e es X})(v:{`q8,K2 pos es X}) :
  PX G X (.Call (.Name x p) (e :: es) [] pos) (br (.io i un :: as) g):=by
 obtain⟨f,fd,s,r,q,o⟩:=F.ex;exact(qi s (d.mono h) l r q o m u he v).px
def Es{X:Cx}(F:IoAt X.prog X.w X.K X.mg X.base k x ps G (PN as) g)(d:p0 k' X.A)(m:Rb G X (e :: es) (.io i un :: as))(h:k<=k')(l:Gl X x)(u:K3 x)(he:K1 e es X)(v:K2 pos es X) :
  PXN G X (.Call (.Name x p) (e :: es) [] pos) (br (.io i un :: as) g):=by
 obtain⟨f,fd,s,r,q,o⟩:=F.ex;exact qi s (d.mono h) l r q o m u he v
end
end VS
end
section
namespace VS
open PySem PySem.Spec PyProof.Rows L2
def tsc:T->Bool
 |.tup l=>l.all sca
 |t=>sca t
noncomputable def Ci(l:Uv):Bool:=l.all λv=>match v.1 with | .bo=>false | _=>true
def qI(a:Kx)(x:Xx)(g:Fn):Xx:=λU=>(a U).bind λl=>(x U).bind λz=>if Ci l=M/\Kh z.1.2=M then (g (trees l++[z.1.2])).bind λr=>if Kh r.2=M then Y ((.fr,r.2),z.2) else J else J
def tAx(G:Gx)(e:Kx)(x:Xx):TA:=λO H Q=>∃Z U l z,SR G Z U O H/\e U=Y l/\Ci l=M/\x U=Y z/\Kh z.1.2=M/\∀b u a d f,SR G d z.2 O a->Ku Z U H d z.2 a->RpL G a b (trees l) f->Rp G a u z.1.2 []->Q (b++[u]) a
def PAX(G:Gx)(X:Cx)(a:List Expr)(b:Kx)(x:Xx):Prop:=PA X a (tAx G b x)
section
def Cd(h:PX G X e xc)(b:K1 e [] X):PAX G X [e] aj xc:=PA.weak (cZ h g8 b) λO H Q d=>by
 obtain⟨Z,U,l,z,s,j,_,i,f,k⟩:=d;cases (j);exact⟨Z,U,z.1,z.2,s,i,f,λu n m s1 f1 r1=>k [] u n m [] s1 f1 .nil r1⟩
def o6(ha:PV G X a ca)(h:PAX G X es cs xc)(hs:K1 a es X):PAX G X (a :: es) (ae ca cs) xc:=PA.weak (cZ ha h hs) λO H Q hq=>by
 refine L2.ai λP_ k_=>?_;obtain⟨Z,U,l,z,s,el,hb,ez,hi,k⟩:=hq;obtain⟨⟨m,t⟩,e1,e2⟩:=Zz.mp (by simpa[ae] using el);obtain⟨y,e3,e4⟩:=Zz.mp e2;cases e4;refine k_ ?_;have A:m ≠ .bo/\Ci y=M:=by
  unfold Ci at hb ⊢;rw[Xe,Yj]at hb;exact⟨λz=>by rw[z]at hb;exact Zh hb.1,hb.2⟩
 refine⟨Z,U,m,t,s,e1,λu H1 C v P f0=>⟨Z,U,y,z,s.same v,e3,A.2,ez,hi,λD E H' Z' Fs F r N L=>?_⟩⟩;have no:∀b∈C,¬bW Z U b:=λb d z=>by
  rcases f0.pu A.1 b d with q | ⟨j,t',n,R⟩
  ·exact Kn.pe (s.KJ z) q
  ·obtain⟨i,f,w,S⟩:=z;refine s.sep i j f _ w n (λe=>?_) b S R;subst e;rw[w]at n;cases n
 exact k (u :: D) E H' Z' (C :: Fs) F ((Ku.same v).trans r) (.cons (P.keep r.kept λb d o ho=>(r.keep b o ho (no b d)).1) N) L
def AM{X:Cx}(F:FnAt X.prog X.w X.K X.mg X.base k nm ps G g)(D:p0 k' X.A)(R:PAX G X (e :: es) cs xc)(L:k<=k')(P:Gl X nm)(Lq:K3 nm)(he:K1 e es X)(KQ:K2 pos es X):PX G X (.Call (.Name nm p) (e :: es) [] pos) (qI cs xc g):=by
 obtain⟨f,fd,h1,h2,h3,S⟩:=F.ex;refine PE.weak (r9 h1 (D.mono L) P h2 h3 S .nil jT R Lq he KQ) λO H Q E=>?_;refine L2.ai λP_ C=>?_;obtain⟨Z,U,v,U',s,e0,hv,y⟩:=E;obtain⟨l,el,e1⟩:=Zz.mp e0;obtain⟨z,ez,e2⟩:=Zz.mp e1;refine C ?_;split at e2
 ·rename_i i;obtain⟨⟨n,r⟩,er,e3⟩:=Zz.mp e2;split at e3
  ·rename_i N;cases e3;refine⟨Z,U,l,z,s,el,i.1,ez,i.2,λj u H' Z' Fs m f' q o=>?_⟩;show M3 G g ((j++[u])++[]) H' Q _;rw[ZM];refine⟨trees l++[z.1.2],Fs++[[]],n,r,q.append (.cons o .nil),er,λv H2 F2 h d _=>?_⟩;have b:=d;rw[d.Kh N]at b;exact y v H2 Z' (m.same h) (f'.trans (Ku.same h)) b
  ·cases e3
 ·cases e2
end
end VS
end
section
namespace VS
open PySem PySem.Spec PyProof.Rows L2
noncomputable def Cw:Fn:=λa=>match a with
 |[.scr ns]=>if ns.length<=63 then Y (.fr,.bl M) else J
 |_=>J
section
variable{K:X2}
def Ek{G:Gx}(j:G.K=K)(F:FnOk P w K mg base La k f b [y] (M3 G g))(i:∀ns:Uy,ns.length<=63->g [.scr ns]=Y (.fr,.bl M)) :
  FnOk P w K mg base La k f b [y] (M3 (gx0 K) Cw):=F.imp λo H Q E h=>by
 obtain⟨p,s,m,r,l,a,q⟩:=h;unfold Cw at a;split at a
 ·rename_i ns;split at a
  ·rename_i e;cases a;cases l with
   |cons r1 r2 =>
    cases r2;cases r1 with
    |scr d=>exact⟨[.scr ns],[[]],.fr,.bl M,.cons (.scr (by rw[j];exact d)) .nil,i ns e,λv n F e1 r f1=>q v n F e1 (by cases r;exact .bl _) f1⟩
  ·cases a
 ·cases a
end
def AV{l:PySem.W.OpenLaw}{d:DefRec}{K:Params->X2}{x:Str}{k:Nat}(j:l.most=Y 63)(r:d.params.defaults=[])(i:p0 k callerA)(F:∀(w:XAB)(mg:Wv)(e:On)(h:XAA),(K w.params).In h->h.Ns mainGlobals mg->mg d.name=Y (.ref e) →
   ∃fd:Re,(∀(s:KB)(u:PP),BindsTo s fd ⟨[u],[]⟩ [(x,u)])/\∀base:XAA,(K w.params).In base->base.Ns mainGlobals mg->FnOk l.prog w (K w.params) mg base La k e fd [x] (M3 (gx0 (K w.params)) Cw)) :
  PySem.W.WalkO q b p (λw h=>(K w.params).In h) l.row.toRowW d [] (λf g=>PySem.call f g) :=
 L2.CQ (k:=k) (x:=x) j (by decide) r i (λ_ _ h=>h) F (λw H a ns m o n=>Hn (Zp m) o n) λ_ _ _ _ _ z=>z
end VS
end
section
namespace VS
open PySem PySem.Spec PyProof.Rows L2
noncomputable def e3(f:Val->Val->Val->Uu)(a b c:Ex):Ex:=λU=>(a U).bind λx=>(b U).bind λy=>(c U).bind λz=>f x y z
end VS
end
section
namespace SI
open PySem PySem.Spec PyProof.Rows TS ST
noncomputable abbrev BL(a:Array Nat):Prop:=∀i j u v:Nat,i<j->a[i]?=Y u->a[j]?=Y v->u<v
theorem oP(f:BL b):∀(fuel lo a:Nat),a-lo<=fuel->lo<=a->a<=b.size->(∀i v,i<lo->b[i]?=Y v->v<j)->(∀i v,a<=i->b[i]?=Y v->j<=v) →
  (∀i v,i<SetTable.below.go b j fuel lo a->b[i]?=Y v->v<j)/\(∀i v,SetTable.below.go b j fuel lo a<=i->b[i]?=Y v->j<=v)/\SetTable.below.go b j fuel lo a<=b.size
 |0,lo,a,q,p,l,h,g=>by
  have e:lo=a:=by lia
  subst e;exact⟨h,g,l⟩
 |n+1,lo,a,q,p,l,h,g=>by
  unfold SetTable.below.go;by_cases o:lo<a
  ·rw[Zp o];have m:(lo+a)/2<b.size:=by lia
   have hg:b[(lo+a)/2]?=Y (b.getD ((lo+a)/2) j):=by
    rw[Xk m];simp[Array.getD,m]
   by_cases d:b.getD ((lo+a)/2) j<j
   ·rw[Zp d];refine oP f n _ a (by omega) (by lia) l (λi v r e=>?_) g;by_cases he:i=(lo+a)/2
    ·subst he;rw[hg]at e;cases e;exact d
    ·exact X4 (f i _ v _ (by lia) e hg) d
   ·rw[Zo d];refine oP f n lo _ (by omega) (by lia) (by exact ZQ m) h (λi v r e=>?_);by_cases he:i=(lo+a)/2
    ·subst he;rw[hg]at e;cases e;exact ZD d
    ·exact ZR (ZD d) (ZQ (f _ i _ v (by lia) hg e))
  ·rw[Zo o];have e:lo=a:=by lia
   subst e;exact⟨h,g,l⟩
def nR(b:BL a)(j:Nat):(∀i v,i<SetTable.below a j->a[i]?=Y v->v<j)/\(∀i v,SetTable.below a j<=i->a[i]?=Y v->j<=v)/\SetTable.below a j<=a.size :=
 oP b _ 0 _ (by exact Yb _ _) (ZA _) (Zn _) (λi v h=>absurd h (Nat.not_lt_zero _)) λi v h e=>by
  rw[Array.getElem?_eq_none h]at e;cases e
def iM{α:Type}{a:Array α}{x:α}(f:p<=a.size)(i:Nat):(SetTable.insertAt a p x)[i]?=if i<p then a[i]? else if i=p then Y x else a[i-1]?:=by
 unfold SetTable.insertAt;rw[Array.getElem?_append];simp only[XI,VM,YV f,Nat.sub_zero];by_cases b:i<p
 ·rw[Zp (by exact M0 b),Zp b,Array.getElem?_push,Zo (by simp;lia),Array.getElem?_extract];simp;lia
 ·rw[Zo b];by_cases d:i=p
  ·rw[Zp (by lia),Zp d,Array.getElem?_push,Zp (by simp;lia)]
  ·rw[Zo (by lia),Zo d,Array.getElem?_extract];have e:p+(i-(p+1))=i-1:=by lia
   rw[e];by_cases g:i-1<a.size
   ·rw[Zp (by simp;lia)]
   ·rw[Array.getElem?_eq_none (by exact ZD g)];simp
def BU(o:BL d)(y:d[SetTable.below d j]? ≠ Y j):BL (SetTable.insertAt d (SetTable.below d j) j):=by
 obtain⟨x,w,z⟩:=nR o j;have s:∀i v,SetTable.below d j<=i->d[i]?=Y v->j<v:=λi v p e=>by
  rcases VQ (w i v p e) with h | h
  ·exact h
  ·subst h;rcases VQ p with q | q
   ·have g:=Xk (by
     have:=(WC.mp e).1;exact ZL p this)
    exact ZL (w _ _ (Zn _) g) (o _ _ _ _ q g e)
   ·rw[← q]at e;exact absurd e y
 intro a b u v A l f;rw[iM z]at l f;by_cases n:a<SetTable.below d j
 ·rw[Zp n]at l;by_cases r:b<SetTable.below d j
  ·rw[Zp r]at f;exact o a b u v A l f
  ·rw[Zo r]at f;by_cases m:b=SetTable.below d j
   ·rw[Zp m]at f;cases f;exact x a u n l
   ·rw[Zo m]at f;exact X4 (x a u n l) (s (b-1) v (by lia) f)
 ·rw[Zo n]at l;rw[Zo (by lia),Zo (by lia)]at f;by_cases m:a=SetTable.below d j
  ·rw[Zp m]at l;cases l;exact s (b-1) v (by lia) f
  ·rw[Zo m]at l;exact o (a-1) (b-1) u v (by lia) l f
end SI
end
section
namespace VS
open PySem PySem.Spec PyProof.Rows L2
def t2:T->Bool
 |.lst l=>l.all tsc
 |t=>tsc t
def t3:T->Bool
 |.tup l=>l.all t2
 |t=>t2 t
end VS
end
section
namespace L2
open PySem PySem.Spec PyProof.Rows TS
section
theorem tZ:∀{b:W9}{d:Vz},aP (b.map V.ref) d->d=b.map Value.ref
 |[],_,h=>by cases h;rfl
 |a :: b,_,h=>by
  cases h with
  |cons r q=>rw[tZ q];cases r;rfl
def At.pw(g:∀{a:On}{k:List Key},H a=Y (.tup (k.map kV))->hJ h (.ref a) k)(p:At H j d):((d.map Value.ref).map λv=>(v,v)).Pairwise (le (rT h))->j.Pairwise (λa b=>dZ b a=B):=by
 induction p with
 |nil=>exact λ_=>List.Pairwise.nil
 |@cons k a u d e q o =>
  intro f;simp only[Zm]at f;rw[Wu]at f;refine Wu.mpr ⟨λb hb=>?_,o f.2⟩;obtain⟨i,l,s⟩:=Yf hb;have n:i<d.length:=by rw[← q.len];exact l
  obtain⟨w,m,r⟩:=q.get i (Zq n);rw[Zq l,s]at m;cases m;have:=f.1 (Value.ref d[i],Value.ref d[i]) (ZC.mpr ⟨_,ZC.mpr ⟨_,Yu n,rfl⟩,rfl⟩);unfold le at this;rw[oC (g r) (g e)]at this;exact this
def Cr(r:Inv X g O H i)(G:At H d p)(z:∀k∈d,k.map kind=y :: s)(f:(p.map Value.ref).length<=KM)(q:∀(l:On)(m:List (List Key))(h:W9),H l=J->At H m h->m.Perm d->m.Pairwise (λa b=>dZ b a=B)->Q (.ref l) (upd H l (.lst (h.map V.ref)))) :
  Nonempty (N5 X.prog X.w (EP X g O Q) (p.map Value.ref) i):=by
 have o:∀v∈p.map Value.ref,∃d,hJ i.heap v d/\d.map kind=y :: s:=λv n=>by
  obtain⟨a,U,rfl⟩:=ZC.mp n;obtain⟨k,S,e⟩:=G.mem U;exact⟨k,wA r.Kd e,z k S⟩
 refine⟨⟨GT i.heap (y :: s),rT i.heap,tuples' M,λA E Z R=>DT λv d t=>hJ.kept R t,λv n=>?_,f,λZ A E D x Q1 L=>?_,λout D C P N x g3=>?_⟩⟩
 ·obtain⟨d,t,e⟩:=o v n;exact⟨d,t,e⟩
 ·exact BX (by lia) (λv n=>by obtain⟨d,t,e⟩:=o v n;exact⟨d,hJ.kept x t,e⟩) L
 ·obtain⟨h,rfl,j⟩:=DX P;obtain⟨m,F,u⟩:=At.perm j G;exact⟨.ref _,_,r.laid x (Zn _) (show du X.prog X.w _ D _ (.lst (h.map V.ref)) from⟨(by
   rw[Zw,j.length_eq];rw[Zw]at f;exact f),h.map Value.ref,C,qm h,g3⟩),rfl,q _ m h (r.Kd.fresh (Zn _)) F u (F.pw (λe=>wA r.Kd e) N)⟩
def wX(K:X2):List V->Hp->VK->Prop:=λg H Q=>∃p,∃(e:List (List Key))(bs:W9)(h:Bool)(sh:List Bool),g=[.ref p]/\Kt K H p (bs.map V.ref)/\At H e bs/\(∀k∈e,k.map kind=h :: sh) ∧
  ∀(l:On)(d:List (List Key))(f:W9),H l=J->At H d f->d.Perm e->d.Pairwise (λa b=>dZ b a=B)->Q (.ref l) (upd H l (.lst (f.map V.ref)))
def nQ:dw X (.builtin "sorted") (wX X.K):=by
 intro f s O H r v Q I g h;refine L2.ai λA l=>?_;obtain⟨p,w,bs,x,sh,rfl,m,n,a,q⟩:=h;obtain⟨u,rfl,i⟩:=g.one;cases i;obtain⟨y,d,j,z⟩:=I.list m;obtain rfl:=tZ d;refine l ?_;have hlen:(bs.map Value.ref).length<=sizeLine:=by have:=d.length;lia
 exact vW λD C _=>collect_list j.isList (Cr (I.kept (t':=s.toks) λb o e=>by
  rw[Heap.get?_update_ne _ _ _ _ (Za (ZO e))];exact Zj _ e) n a hlen q) hlen
end
end L2
namespace VS
open PySem PySem.Spec PyProof.Rows L2 TS
section
def Srt(f d:List (List Key)):Prop:=d.Perm f/\d.Pairwise (λa b=>dZ b a=B)
open Classical in
def DC(b:List (List Key)):List (List Key):=if h:∃a,Srt b a then h.choose else []
def shp(a:List (List Key)):Prop:=∃b sh,∀k∈a,k.map kind=b :: sh
theorem ud:∀{a b:List Key},a.map kind=b.map kind->dZ a b=B->dZ b a=B->a=b
 |[],[],_,_,_=>rfl
 |[],_ :: _,h,_,_=>by cases h
 |_ :: _,[],h,_,_=>by cases h
 |x :: a,y :: b,h,f,d=>by
  rw[Zm,Zm,Wx]at h;unfold dZ at f d;by_cases e:x=y
  ·subst e;rw[Zp L]at f d;rw[ud h.2 f d]
  ·rw[Zo e]at f;rw[Zo (Y4 e)]at d;exact absurd (rO h.1 f d) e
def wu(h:Srt f d)(i:shp f):DC f=d:=by
 unfold DC;rw[dif_pos ⟨d,h⟩];have q:=Exists.choose_spec (p:=λd=>Srt f d) ⟨d,h⟩;obtain⟨n,sh,g⟩:=i;exact List.Perm.eq_of_pairwise (λa b j hb m l=>ud ((g a (q.1.mem_iff.mp j)).trans (g b (h.1.mem_iff.mp hb)).symm) l m) q.2 h.2 (q.1.trans h.1.symm)
open Classical in
def gU:Uv->Uu
 |[(_,.lst l)]=>(l.mapM Ru).bind λa=>if shp a then Y (.fr,.lst ((DC a).map λk=>T.tup (k.map aK))) else J
 |_=>J
def FT{k:List Key}(r:Rp G H v (.tup (k.map aK)) F):∃a,v=.ref a/\H a=Y (.tup (k.map kV))/\∀x,.inr x∈k->kb x.cps.toList:=by
 obtain⟨a,b,g,rfl,rfl,l,q⟩:=r.inv;have:∀{k:List Key}{b:List V}{g:Yx},RpL G H b (k.map aK) g->b=k.map kV/\∀x,.inr x∈k->kb x.cps.toList:=λ{k}=>by
  induction k with
  |nil=>intro b g q;cases q;exact⟨rfl,λ_ m=>nomatch m⟩
  |cons y k h =>
   intro b g q;cases q with
   |cons r q =>
    obtain⟨f,d⟩:=h q;cases y with
    |inl i =>
     obtain rfl:=r.inv;exact⟨by rw[f];rfl,λx m=>(Zi.mp m).elim (λe=>nomatch e) (d x)⟩
    |inr s =>
     obtain⟨rfl,j⟩:=r.inv;refine⟨by rw[f];simp[kV,sx],λx m=>(Zi.mp m).elim (λe=>?_) (d x)⟩;cases e;exact j
 obtain⟨f,d⟩:=this q;exact⟨a,rfl,by rw[← f];exact l,d⟩
theorem qV:∀{b:List (List Key)}{f:List V}{l:Yx},RpL G H f (b.map λk=>T.tup (k.map aK)) l->∃d:W9,f=d.map V.ref/\At H b d/\∀k∈b,∀x,.inr x∈k->kb x.cps.toList
 |[],_,_,q=>by cases q;exact⟨[],rfl,.nil,λ_ m=>nomatch m⟩
 |k :: b,_,_,q=>by
  cases q with
  |cons r q =>
   obtain⟨a,rfl,j,i⟩:=FT r;obtain⟨d,rfl,h,g⟩:=qV q;exact⟨a :: d,rfl,.cons j h,λk m=>(Zi.mp m).elim (λe=>e ▸ i) (g k)⟩
def C4(h:At H b d):(∀k∈b,∀x,.inr x∈k->kb x.cps.toList)->RpL G H (d.map V.ref) (b.map λk=>T.tup (k.map aK)) (d.map λ_=>[]):=by
 induction h with
 |nil=>exact λ_=>.nil
 |@cons k a b d e _ f =>
  intro g;have inner:∀{k:List Key},(∀x,.inr x∈k->kb x.cps.toList)->RpL G H (k.map kV) (k.map aK) (k.map λ_=>[]):=λ{k}=>by
   induction k with
   |nil=>exact λ_=>.nil
   |cons y k f =>
    intro h;refine .cons ?_ (f λx m=>h x (Zx _ m));cases y with
    |inl i=>exact .int i
    |inr s =>
     have:=Rp.str (G:=G) (H:=H) s.cps.toList (h s Zv);rw[show sx s.cps.toList=s by simp[sx]]at this;exact this
  have q:Rp G H (.ref a) (.tup (k.map aK)) (k.map λ_=>([]:W9)).flatten:=.tup e (inner (g k Zv));rw[kY]at q;exact .cons q (f λk m=>g k (Zx _ m))
def yC:fF G (wX G.K) gU:=by
 intro Z U O H l j R m t Q A e k;unfold gU at e;split at e
 ·rename_i N x;obtain⟨u,e1,e2⟩:=Zz.mp e;split at e2
  ·rename_i f;cases e2;obtain⟨v,F,rfl,rfl,n⟩:=(A.rp).one;obtain⟨a,L,P,rfl,rfl,C,o⟩:=n.lst_inv;obtain rfl:=kA (λ_ _=>xB) e1;obtain⟨bs,rfl,E,y⟩:=qV o;obtain⟨w,sh,z⟩:=id f;refine⟨a,u,bs,w,sh,rfl,Kt.of C,E,z,λq s b g D i hw=>?_⟩;rw[wu ⟨i,hw⟩ f]at k;have d:aO H (upd H q (.lst (b.map V.ref))):=cF g;have r:Rp G (upd H q (.lst (b.map V.ref))) (.ref q) (.lst (s.map λk=>T.tup (k.map aK))) (q :: (b.map λ_=>[]).flatten):=.lst aw (C4 (D.keep λa j h=>d a _ h) λk m=>y k (i.mem_iff.mp m));rw[kY]at r;exact k _ _ _ d r (Fp.new (A.same.free g) (by simp) Fp.nil)
  ·cases e2
 ·cases e
def kI{X:Cx}(a:X.mg "sorted" = J)(d:Lv G X [e] cs)(b:{`q3,Gl X "sorted"})(f:{`q3,X.K=G.K})(he:{`q3,K1 e [] X}):PV G X (.Call (.Name "sorted" p) [e] [] pos) (eN gU cs) :=
 lE nQ (f ▸ yC) b a p7 d (he:=he)
end
end VS
end
section
namespace AU
structure St where
 lg:Uz
 lk:List (Option Nat)
 wy:List (List (Nat×Nat))
noncomputable def gW(w:List (Nat×Nat))(c:Nat):Option Nat:=(w.find? λp=>p.1==c).map (·.2)
noncomputable def pW(w:List (Nat×Nat))(c m:Nat):List (Nat×Nat):=if w.any (λp=>p.1==c) then w.map (λp=>if p.1==c then (p.1,m) else p) else w++[(c,m)]
structure WF(S:St):Prop where
 lk:S.lk.length=S.lg.length
 wy:S.wy.length=S.lg.length
 pos:0<S.lg.length
 up:∀i n,S.lk.getD i none=some n->n<S.lg.length
 on:∀i c n,gW (S.wy.getD i []) c=some n->n<S.lg.length
 nd:∀w∈S.wy,(w.map (·.1)).Nodup
 az:∀w∈S.wy,∀p∈w,97<=p.1/\p.1<=122
theorem sub_len{α:Type}[DecidableEq α]:∀(l r:List α),l.Nodup->(∀x∈l,x∈r)->l.length<=r.length
 |[],_,_,_=>ZA _
 |a :: l,r,nd,h=>by
  obtain⟨g,f⟩:=ZY.mp nd;have d:=h a Zv;have:=sub_len l (r.erase a) f λx b=>(List.mem_erase_of_ne (λe=>g (by rw[← e];exact b))).mpr (h x (Zx _ b));rw[List.length_erase_of_mem d]at this;have:=List.length_pos_of_mem d;rw[Zf];lia
def WF.small{S:St}(W:WF S)(i:Nat):(S.wy.getD i []).length<16777216:=by
 by_cases h:i<S.wy.length
 ·have a:S.wy.getD i []∈S.wy:=by
   rw[Zt,Zq h];exact Yu h
  have:=sub_len ((S.wy.getD i []).map (·.1)) (List.range 123) (W.nd _ a) λx b=>by
   obtain⟨p,d,rfl⟩:=ZC.mp b;have:=(W.az _ a p d).2;exact Yd.mpr (by exact VG this)
  rw[Zw,MH]at this;lia
 ·rw[Zt,Yo (ZD h)];decide
def FA(w:List (Nat×Nat))(c:Nat):(w.any λp=>p.1==c)=(gW w c).isSome:=by
 unfold gW;rw[Xj,Ww,Xp,List.find?_isSome]
def EO(w:List (Nat×Nat))(c m d:Nat):gW (pW w c m) d=if d=c then Y m else gW w d:=by
 unfold pW;split
 ·rename_i h
  induction w with
  |nil=>simp at h
  |cons p w f =>
   rw[Zm];unfold gW;rw[Yh,Yh];by_cases q:p.1=c
   ·rw[Zp (by simpa using q)];by_cases r:p.1=d
    ·have:(p.1==d)=M:=by simpa using r
     simp only[this];rw[Zp (by rw[← r,q])];rfl
    ·have a:(p.1==d)=B:=by simpa using r
     have:d≠c:=λe=>r (by rw[e,q]);simp only[a,Zo this];have key:∀w:List (Nat×Nat),(w.map λp=>if p.1==c then (p.1,m) else p).find? (λp=>p.1==d)=w.find? λp=>p.1==d:=by
      intro w
      induction w with
      |nil=>rfl
      |cons x w f =>
       rw[Zm,Yh,Yh,f];by_cases y:x.1=c
       ·rw[Zp (by simpa using y)];have:(x.1==d)=B:=by simpa using λe=>this (by rw[← e,y])
        simp only[this]
       ·rw[Zo (by simpa using y)]
     rw[key w]
   ·rw[Zo (by simpa using q)];have b:=f (by
     rw[YK]at h;simpa[q] using h)
    by_cases r:p.1=d
    ·have a:(p.1==d)=M:=by simpa using r
     simp only[a];rw[Zo (λe=>q (by rw[r,e]))]
    ·have a:(p.1==d)=B:=by simpa using r
     simp only[a];exact b
 ·rename_i h;unfold gW;rw[List.find?_append];by_cases q:d=c
  ·subst q;have:w.find? (λp=>p.1==d)=J:=by
    rw[List.find?_eq_none];intro p g e;exact h (Xp.mpr ⟨p,g,e⟩)
   rw[this,Zp L];simp
  ·rw[Zo q];have:((c==d)=B):=by simpa using λe=>q e.symm
   simp[this]
def DE(w:List (Nat×Nat))(c m:Nat)(d:(w.map (·.1)).Nodup):((pW w c m).map (·.1)).Nodup:=by
 unfold pW;split
 ·rw[LU];have:((λp:Nat×Nat=>p.1) ∘ λp=>if (p.1==c)=M then (p.1,m) else p)=λp=>p.1:=by
   funext p;simp only[Function.comp];split<;>rfl
  rw[this];exact d
 ·rename_i h;rw[Yy,ZF];refine⟨d,by simp,λa g b hb e=>?_⟩;have i:b=c:=by simpa using hb
  subst e i;obtain⟨p,f,e⟩:=ZC.mp g;exact h (Xp.mpr ⟨p,f,by simpa using e⟩)
def FL(h:p∈pW w c m):p.1=c\/p∈w:=by
 unfold pW at h;split at h
 ·obtain⟨q,a,rfl⟩:=ZC.mp h;by_cases r:(q.1==c)=M
  ·rw[Zp r];exact .inl (by simpa using r)
  ·rw[Zo r];exact .inr a
 ·rcases Zc.mp h with h | h
  ·exact .inr h
  ·rw[ZZ.mp h];exact .inl L
def ik{α:Type}(l:List α)(i j:Nat)(x d:α):(l.set i x).getD j d=if i=j/\i<l.length then x else l.getD j d:=by
 rw[Zt,Zt,VB];by_cases h:i=j
 ·subst h;by_cases a:i<l.length
  ·rw[Zp L,Zp a,Zp ⟨rfl,a⟩];rfl
  ·rw[Zp L,Zo a,Zo (λz=>a z.2),Yo (ZD a)]
 ·rw[Zo h,Zo (λz=>h z.1)]
def bV{α:Type}(l:List α)(x d:α)(j:Nat):(l++[x]).getD j d=if j=l.length then x else l.getD j d:=by
 rw[Zt,Zt];by_cases h:j<l.length
 ·rw[Yt h,Zo (Za h)]
 ·rw[Yq (ZD h)];by_cases a:j=l.length
  ·rw[Zp a,a,VH];rfl
  ·rw[Zo a,Yo (ZD h),Yo (by simp;lia)]
def WF.way(W:WF S){n c v:Nat}(g:v<S.lg.length)(j:97<=c/\c<=122):WF ⟨S.lg,S.lk,S.wy.set n (pW (S.wy.getD n []) c v)⟩:=by
 refine⟨W.lk,by rw[Yi];exact W.wy,W.pos,W.up,λi d m h=>?_,λw hw=>?_,λw hw p f=>?_⟩
 ·have b:=h;rw[ik]at b;split at b
  ·rw[EO]at b;split at b
   ·cases b;exact g
   ·exact W.on n d m b
  ·exact W.on i d m b
 ·by_cases a:n<S.wy.length
  ·rcases List.mem_or_eq_of_mem_set hw with h | h
   ·exact W.nd w h
   ·rw[h];refine DE _ c v (W.nd _ ?_);rw[Zt,Zq a];exact Yu a
  ·rw[List.set_eq_of_length_le (ZD a)]at hw;exact W.nd w hw
 ·by_cases a:n<S.wy.length
  ·rcases List.mem_or_eq_of_mem_set hw with h | h
   ·exact W.az w h p f
   ·rw[h]at f;rcases FL f with e | e
    ·rw[e];exact j
    ·refine W.az _ ?_ p e;rw[Zt,Zq a];exact Yu a
  ·rw[List.set_eq_of_length_le (ZD a)]at hw;exact W.az w hw p f
def WF.link(W:WF S){n v:Nat}(b:v<S.lg.length):WF ⟨S.lg,S.lk.set n (Y v),S.wy⟩:=by
 refine⟨by rw[Yi];exact W.lk,W.wy,W.pos,λi m h=>?_,W.on,W.nd,W.az⟩;have a:=h;rw[ik]at a;split at a
 ·cases a;exact b
 ·exact W.up i m a
def WF.more(W:WF S){l:Nat}{o:Option Nat}{w:List (Nat×Nat)}(f:∀n,o=Y n->n<S.lg.length)(hw:∀c n,gW w c=Y n->n<S.lg.length)(e:(w.map (·.1)).Nodup)(g:∀p∈w,97<=p.1/\p.1<=122):WF ⟨S.lg++[l],S.lk++[o],S.wy++[w]⟩:=by
 have b:∀{n},n<S.lg.length->n<(S.lg++[l]).length:=λh=>by rw[Zs,NN];exact M0 h
 refine⟨by rw[Zs,Zs,W.lk];rfl,by rw[Zs,Zs,W.wy];rfl,by rw[Zs];exact Zg W.pos (Zd _ _),λi n h=>?_,λi c n h=>?_,λx d=>?_,λx d=>?_⟩
 ·have a:=h;rw[bV]at a;split at a
  ·exact b (f n a)
  ·exact b (W.up i n a)
 ·have a:=h;rw[bV]at a;split at a
  ·exact b (hw c n a)
  ·exact b (W.on i c n a)
 ·rcases Zc.mp d with h | h
  ·exact W.nd x h
  ·rw[ZZ.mp h];exact e
 ·rcases Zc.mp d with h | h
  ·exact W.az x h
  ·rw[ZZ.mp h];exact g
def up1(c v:Nat):Nat->St->Option Nat->Option (St×Option Nat)
 |_,S,none=>Y (S,J)
 |0,_,some _=>J
 |k+1,S,some n=>if (gW (S.wy.getD n []) c).isSome then Y (S,Y n) else up1 c v k ⟨S.lg,S.lk,S.wy.set n (pW (S.wy.getD n []) c v)⟩ (S.lk.getD n J)
def Qz(c a v:Nat):Nat->St->Option Nat->Option St
 |_,S,none=>Y S
 |0,_,some _=>J
 |k+1,S,some n=>if gW (S.wy.getD n []) c=Y a then Qz c a v k ⟨S.lg,S.lk,S.wy.set n (pW (S.wy.getD n []) c v)⟩ (S.lk.getD n J) else Y S
def QI(S:St)(n c:Nat):Option (St×Nat):=(gW (S.wy.getD n []) c).bind λold=>if S.lg.getD old 0=S.lg.getD n 0+1 then Y (S,old) else
 (Qz c old S.lg.length 1000 ⟨S.lg++[S.lg.getD n 0+1],(S.lk++[S.lk.getD old J]).set old (Y S.lg.length),S.wy++[S.wy.getD old []]⟩ (Y n)).map λa=>(a,S.lg.length)
def hb(S:St)(h c:Nat):Option (St×Nat):=if (gW (S.wy.getD h []) c).isSome then QI S h c else
 (up1 c S.lg.length 1000 ⟨S.lg++[S.lg.getD h 0+1],S.lk++[Y 0],S.wy++[[]]⟩ (Y h)).bind λz=>match z.2 with
  |none=>Y (z.1,S.lg.length)
  |some n=>(QI z.1 n c).map λy=>(⟨y.1.lg,y.1.lk.set S.lg.length (Y y.2),y.1.wy⟩,S.lg.length)
def hg(S:St)(h:Nat):Uz->Option (St×Nat)
 |[]=>Y (S,h)
 |c :: r=>(hb S h c).bind λz=>hg z.1 z.2 r
noncomputable def Sm(S:St):Prop:=S.lg.length<=100001
def WF.SV(W:WF S)(i:Nat):((S.wy.getD i []).map (·.1)).Nodup/\∀p∈S.wy.getD i [],97<=p.1/\p.1<=122:=by
 by_cases h:i<S.wy.length
 ·have a:S.wy.getD i []∈S.wy:=by
   rw[Zt,Zq h];exact Yu h
  exact⟨W.nd _ a,W.az _ a⟩
 ·rw[Zt,Yo (ZD h)];exact⟨Yn,λp b=>nomatch b⟩
noncomputable def S0:St:=⟨[0],[J],[[]]⟩
def EF:WF S0:=by
 refine⟨rfl,rfl,by decide,λi n h=>?_,λi c n h=>?_,λw hw=>?_,λw hw p a=>?_⟩
 ·cases i with
  |zero=>cases h
  |succ i=>cases h
 ·cases i with
  |zero=>cases h
  |succ i=>cases h
 ·rw[ZZ.mp hw];exact Yn
 ·rw[ZZ.mp hw]at a;cases a
end AU
end
section
namespace SP
open PySem PySem.Spec PyProof.Rows SI
noncomputable def f5(m i:Nat):Nat:=(i*5+1)%(m+1)
def it(m:Nat):Nat->Nat->Nat
 |0,i=>i
 |n+1,i=>it m n (f5 m i)
def orb(m:Nat):Nat->Nat->Uz
 |0,_=>[]
 |n+1,i=>i :: orb m n (f5 m i)
noncomputable def OJ(m:Nat):Prop:=m=7\/m=31\/m=127\/m=511
theorem Bd:∀(k i:Nat),j∈orb m k i->∃n,n<k/\it m n i=j
 |0,_,h=>nomatch h
 |k+1,i,h=>by
  rcases Zi.mp h with rfl | h
  ·exact⟨0,XS _,rfl⟩
  ·obtain⟨n,b,a⟩:=Bd k _ h;exact⟨n+1,Nat.succ_lt_succ b,a⟩
theorem qN(m:Nat):∀(a b i:Nat),it m (a+b) i=it m b (it m a i)
 |0,b,i=>by rw[YJ];rfl
 |a+1,b,i=>by rw[Nat.succ_add];exact qN m a b _
def allM(m:Nat):Bool:=it m (m+1) 0==0&&(List.range (m+1)).all λj=>(orb m (m+1) 0).elem j
def GB(h:OJ m):it m (m+1) 0=0/\∀j,j<=m->∃n,n<=m/\it m n 0=j:=by
 have:allM m=M:=by
  rcases h with rfl | rfl | rfl | rfl<;>decide +kernel
 obtain⟨f,e⟩:=ZX.mp this;refine⟨eq_of_beq f,λj a=>?_⟩;obtain⟨n,d,b⟩:=Bd (m+1) 0 (List.elem_iff.mp (Mz.mp e j (Yd.mpr (VG a))));exact⟨n,MJ d,b⟩
def reach(h:OJ m)(f:i<=m)(e:j<=m):∃n,n<=m/\it m n i=j:=by
 obtain⟨g,d⟩:=GB h;obtain⟨a,o,rfl⟩:=d i f;obtain⟨b,l,rfl⟩:=d j e;by_cases q:a<=b
 ·exact⟨b-a,by lia,by rw[← qN,X8 q]⟩
 ·refine⟨m+1-a+b,by lia,?_⟩;rw[qN,← qN m a,X8 (by lia),g]
noncomputable def lp(m:Nat):Nat->Nat×Nat->Nat×Nat
 |0,q=>q
 |n+1,q=>lp m n (SetTable.leap m q.1 q.2)
theorem B4(m:Nat):∀(a b:Nat)(q:Nat×Nat),lp m (a+b) q=lp m b (lp m a q)
 |0,b,q=>by rw[YJ];rfl
 |a+1,b,q=>by rw[Nat.succ_add];exact B4 m a b _
theorem xR(m:Nat):∀(n i:Nat),lp m n (i,0)=(it m n i,0)
 |0,i=>rfl
 |n+1,i=>by
  show lp m n ((i*5+1+0/32)%(m+1),0/32)=_;rw[Nat.zero_div,VE];exact xR m n (f5 m i)
theorem EA(m:Nat):∀(n:Nat)(q:Nat×Nat),q.1<=m->(lp m n q).1<=m/\(lp m n q).2=q.2/32 ^ n
 |0,q,h=>⟨h,by rw[Nat.pow_zero,Nat.div_one];rfl⟩
 |n+1,q,h=>by
  obtain⟨b,a⟩:=EA m n (SetTable.leap m q.1 q.2) (MJ (Vr _ (XS m)));refine⟨b,a.trans ?_⟩;show q.2/32/32 ^ n=_;rw[Nat.div_div_eq_div_mul,Nat.pow_succ,Nat.mul_comm]
def zO(h:OJ m)(g:i<=m)(e:a<2 ^ 64)(f:j<=m):∃n,n<=m+13/\(lp m n (i,a)).1=j:=by
 obtain⟨l,b⟩:=EA m 13 (i,a) g;rw[Nat.div_eq_of_lt (X4 e (by decide))]at b;obtain⟨n,o,d⟩:=reach h l f;refine⟨13+n,by lia,?_⟩;rw[B4,show lp m 13 (i,a)=((lp m 13 (i,a)).1,0) from VJ L b,xR];exact d
def v9(h:Int):SetTable.bits h<2 ^ 64:=by
 unfold SetTable.bits;omega
noncomputable def Od(t:SetTable):Nat->SetTable.Probe->SetTable.Probe
 |0,p=>p
 |n+1,p=>Od t n (t.advance p)
theorem xu(t:SetTable):∀(a b:Nat)(p:SetTable.Probe),Od t (a+b) p=Od t b (Od t a p)
 |0,b,p=>by rw[YJ];rfl
 |a+1,b,p=>by rw[Nat.succ_add];exact xu t a b _
def qO(h:i<=m):SetTable.runEnd m i<=m/\SetTable.runEnd m i<=i+9/\i<=SetTable.runEnd m i:=by
 unfold SetTable.runEnd;split<;>lia
theorem xS(t:SetTable):∀(q:Nat)(p:SetTable.Probe),p.more=q->Od t (q+1) p={ j:=(SetTable.leap t.mask p.i p.perturb).1,more:=SetTable.runEnd t.mask (SetTable.leap t.mask p.i p.perturb).1-(SetTable.leap t.mask p.i p.perturb).1,i:=(SetTable.leap t.mask p.i p.perturb).1,perturb:=(SetTable.leap t.mask p.i p.perturb).2,dummy:=p.dummy }
 |0,p,h=>by
  show t.advance p=_;unfold SetTable.advance;rw[Zo (by rw[h];exact YE _)]
 |q+1,p,h=>by
  show Od t (q+1) (t.advance p)=_;unfold SetTable.advance;rw[Zp (by rw[h];exact XS _),xS t q _ (by rw[h];rfl)]
structure Ksr(t:SetTable)(p:SetTable.Probe):Prop where
 le:p.i<=t.mask
 j:p.j=p.i
 more:p.more=SetTable.runEnd t.mask p.i-p.i
theorem BJ(t:SetTable):∀(n:Nat)(p:SetTable.Probe),Ksr t p->∃k,k<=10*n/\(Od t k p).j=(lp t.mask n (p.i,p.perturb)).1
 |0,p,h=>⟨0,Zn _,h.j⟩
 |n+1,p,h=>by
  obtain⟨k,b,a⟩:=BJ t n _ (show Ksr t { j:=(SetTable.leap t.mask p.i p.perturb).1,more:=SetTable.runEnd t.mask (SetTable.leap t.mask p.i p.perturb).1-(SetTable.leap t.mask p.i p.perturb).1,i:=(SetTable.leap t.mask p.i p.perturb).1,perturb:=(SetTable.leap t.mask p.i p.perturb).2,dummy:=p.dummy } from⟨(MJ (Vr (p.i*5+1+p.perturb/32) (XS t.mask))),rfl,rfl⟩);have:=qO h.le;refine⟨p.more+1+k,by rw[h.more];lia,?_⟩;rw[xu,xS t _ p L];exact a
def uA(t:SetTable)(h:Int):Ksr t (t.probeStart h):=⟨MJ (Vr _ (XS _)),rfl,rfl⟩
def u7{t:SetTable}(h:OJ t.mask)(x:Int)(d:j<=t.mask):∃k,k<10*SetTable.turns t.mask/\(Od t k (t.probeStart x)).j=j:=by
 have s:=uA t x;obtain⟨n,e,a⟩:=zO h s.le (v9 x) d;obtain⟨k,f,b⟩:=BJ t n _ s;exact⟨k,by unfold SetTable.turns;lia,b.trans a⟩
noncomputable def Pj(t:SetTable)(p:SetTable.Probe):Prop:=p.j+p.more<=t.mask/\p.dummy=J
def Pj.adv(h:Pj t p):Pj t (t.advance p):=by
 unfold SetTable.advance;split
 ·rename_i q;exact⟨by have:=h.1;lia,h.2⟩
 ·have:=qO (MJ (Vr (p.i*5+1+p.perturb/32) (XS t.mask)));refine⟨?_,h.2⟩;show (p.i*5+1+p.perturb/32)%(t.mask+1)+(SetTable.runEnd t.mask ((p.i*5+1+p.perturb/32)%(t.mask+1))-(p.i*5+1+p.perturb/32)%(t.mask+1))<=_;lia
def AJ(t:SetTable)(x:Int):Pj t (t.probeStart x):=by
 have s:=uA t x;have:=qO s.le;exact⟨by rw[s.j,s.more];lia,rfl⟩
def nk{t:SetTable}(a:t.dummies=#[])(j:Nat):(t.slot j=.empty/\t.place[SetTable.below t.place j]? ≠ Y j)\/(t.slot j=.live (SetTable.below t.place j)/\t.place[SetTable.below t.place j]?=Y j):=by
 unfold SetTable.slot;by_cases h:(t.place[SetTable.below t.place j]? == Y j)=M
 ·rw[Zp h];exact .inr ⟨rfl,eq_of_beq h⟩
 ·rw[Zo h,a];exact .inl ⟨by simp[SetTable.has],λz=>h (beq_iff_eq.mpr z)⟩
def HQ{t:SetTable}(s:t.dummies=#[])(f:Nat->Int)(h:Int):∀(k fuel:Nat)(p:SetTable.Probe),k<fuel->Pj t p->t.slot (Od t k p).j=.empty →
  (∃j,SetTable.probe.go t f h fuel p=Y (.empty j J)/\j<=t.mask/\t.slot j=.empty)\/∃j i q m,SetTable.probe.go t f h fuel p=Y (.candidate j i q)/\t.slot j=.live i/\Pj t q/\m<k/\t.slot (Od t m q).j=.empty:=by
 intro k
 induction k with
 |zero =>
  intro fuel p r g he;obtain⟨n,rfl⟩:∃n,fuel=n+1:=⟨fuel-1,by lia⟩
  refine .inl ⟨p.j,?_,by have:=g.1;lia,he⟩;unfold SetTable.probe.go;rw[show t.slot p.j=.empty from he];rw[g.2]
 |succ k o =>
  intro fuel p r g he;obtain⟨n,rfl⟩:∃n,fuel=n+1:=⟨fuel-1,by lia⟩
  unfold SetTable.probe.go;rcases nk s p.j with⟨l,_⟩ | ⟨l,_⟩
  ·refine .inl ⟨p.j,?_,by have:=g.1;lia,l⟩;rw[l];rw[g.2]
  ·rw[l];dsimp only;split
   ·exact .inr ⟨p.j,_,t.advance p,k,rfl,l,g.adv,Yk _,he⟩
   ·rcases o n (t.advance p) (by lia) g.adv he with q | ⟨j,i,q,m,a,b,c,d,e⟩
    ·exact .inl q
    ·exact .inr ⟨j,i,q,m,a,b,c,M0 d,e⟩
structure Ox(t:SetTable)(n:Nat):Prop where
 m:OJ t.mask
 sz:t.place.size=n
 ris:BL t.place
 P1:t.dummies=#[]
 le:∀(i v:Nat),t.place[i]?=some v->v<=t.mask
 MG:n<=t.mask
theorem Ox.fits(h:Ox t n):t.fits n=M:=by
 unfold SetTable.fits SetTable.fill;rw[h.sz,h.P1,beq_self_eq_true,VT,decide_eq_true_iff];exact h.MG
def Ox.odd(h:Ox t n):t.gaveWay=B:=by
 unfold SetTable.gaveWay;rcases h.m with e | e | e | e<;>rw[e]<;>rfl
def Ox.room(h:Ox t n):∃j,j<=t.mask/\t.slot j=.empty:=X6 λz=>by
 have:=AU.sub_len _ _ Vu (λj d=>by
  rcases nk h.P1 j with⟨a,_⟩ | ⟨_,b⟩
  ·exact absurd ⟨j,MJ (Yd.mp d),a⟩ z
  ·rw[← Nw]at b;exact Yr b)
 rw[MH,Ym,h.sz]at this;have:=h.MG;lia
theorem Ox.put(h:Ox t n)(g:j<=t.mask)(he:t.slot j=.empty)(f:n<t.mask):Ox (t.put j).1 (n+1):=by
 obtain⟨_,_,d⟩:=nR h.ris j;refine⟨h.m,?_,BU h.ris (by
  rcases nk h.P1 j with⟨_,b⟩ | ⟨a,_⟩
  ·exact b
  ·rw[a]at he;cases he),?_,λi v e=>?_,f⟩
 ·show (SetTable.insertAt t.place (SetTable.below t.place j) j).size=_;unfold SetTable.insertAt;simp only[XE,XI,VM,h.sz]at d ⊢;lia
 ·show (if SetTable.has t.dummies _=M then _ else _)=_;rw[h.P1];simp[SetTable.has]
 ·have e:(SetTable.insertAt t.place (SetTable.below t.place j) j)[i]?=Y v:=e;rw[iM d]at e;split at e
  ·exact h.le i v e
  ·split at e
   ·cases e;exact g
   ·exact h.le _ v e
noncomputable def live(m:Nat)(a:Array (Option Nat)):List (Nat×Nat):=(List.range (m+1)).filterMap λj=>(a.getD j J).map (j,·)
structure Rf(m:Nat)(ow:Array (Option Nat))(k:Nat):Prop where
 sz:ow.size=m+1
 len:(live m ow).length=k
 lt:∀j v,ow.getD j none=some v->v<k
def Eh{a:Array (Option Nat)}(l:(a.getD d (Y 0)).isNone=M):∀(n fuel i pt:Nat),n<fuel->i<=m->(lp m n (i,pt)).1=d->∃j,SetTable.layClean.free m a fuel i pt=Y j/\(a.getD j (Y 0)).isNone=M:=by
 intro n
 induction n with
 |zero =>
  intro fuel i pt h f e;obtain⟨q,rfl⟩:∃n,fuel=n+1:=⟨fuel-1,by lia⟩
  subst e;unfold SetTable.layClean.free;cases b:(List.range (SetTable.runEnd m i+1-i)).find? λk=>(a.getD (i+k) (Y 0)).isNone with
  |some k=>exact⟨i+k,rfl,List.find?_some (p:=λk=>(a.getD (i+k) (Y 0)).isNone) b⟩
  |none =>
   have:=List.find?_eq_none.mp b 0 (Yd.mpr (by have:=qO f;lia));exact absurd l this
 |succ n g =>
  intro fuel i pt h f e;obtain⟨q,rfl⟩:∃n,fuel=n+1:=⟨fuel-1,by lia⟩
  unfold SetTable.layClean.free;cases b:(List.range (SetTable.runEnd m i+1-i)).find? λk=>(a.getD (i+k) (Y 0)).isNone with
  |some k=>exact⟨i+k,rfl,List.find?_some (p:=λk=>(a.getD (i+k) (Y 0)).isNone) b⟩
  |none=>exact g q _ _ (by lia) (MJ (Vr _ (XS m))) e
theorem vg{α β:Type}{f:α->Option β}:∀{l:List α},(∀x∈l,∃y,f x=Y y)->(l.filterMap f).length=l.length
 |[],_=>rfl
 |x :: l,h=>by
  obtain⟨y,e⟩:=h x Zv;rw[Y8,e];exact congrArg (·+1) (vg λx a=>h x (Zx _ a))
theorem tm{β:Type}{f g:Nat->Option β}:∀{l:Uz},(∀i∈l,g i=f i)->l.filterMap g=l.filterMap f
 |[],_=>rfl
 |x :: l,h=>by rw[Y8,Y8,h x Zv,tm λi a=>h i (Zx _ a)]
theorem zu{β:Type}{f g:Nat->Option β}{y:β}(d:f j=J)(b:g j=Y y)(he:∀i,i≠j->g i=f i):∀{l:Uz},l.Nodup->j∈l->(l.filterMap g).length=(l.filterMap f).length+1
 |[],_,h=>nomatch h
 |x :: l,n,h=>by
  obtain⟨m,e⟩:=ZY.mp n;rw[Y8,Y8];by_cases q:x=j
  ·subst q;rw[d,b];show _+1=_+1;rw[tm λi o=>he i λz:i=x=>m (z ▸ o)]
  ·have a:=zu d b he e ((Zi.mp h).resolve_left λz=>q z.symm);rw[he x q];cases f x with
   |none=>exact a
   |some z=>exact congrArg (·+1) a
def getD_some{a:Array (Option Nat)}(h:(a.getD j (Y 0)).isNone=M):j<a.size/\a.getD j J=J:=by
 by_cases q:j<a.size
 ·refine⟨q,?_⟩;rw[Array.getD,dif_pos q]at h ⊢;exact Option.isNone_iff_eq_none.mp h
 ·rw[Array.getD,dif_neg q]at h;cases h
theorem Rf.free(h:Rf m a k)(g:OJ m)(s:k<=m)(x:Int):∃j,SetTable.layClean.free m a (SetTable.turns m) (SetTable.bits x%(m+1)) (SetTable.bits x)=Y j/\(a.getD j (Y 0)).isNone=M:=by
 obtain⟨r,o,i⟩:∃j,j<=m/\(a.getD j (Y 0)).isNone=M:=X6 λz=>by
  have:=vg (f:=λj=>(a.getD j J).map (j,·)) (l:=List.range (m+1)) λj b=>by
   have b:=Yd.mp b;cases e:a.getD j J with
   |none =>
    refine absurd ⟨j,MJ b,?_⟩ z;rw[Array.getD,dif_pos (by rw[h.sz];exact b)]at e ⊢;rw[e];rfl
   |some v=>exact⟨_,rfl⟩
  rw[MH]at this;have q:=h.len;unfold live at q;lia
 have le:=MJ (Vr (SetTable.bits x) (XS m));obtain⟨n,p,d⟩:=zO g le (v9 x) o;exact Eh i n _ _ _ (by unfold SetTable.turns;lia) le d
def Rf.set{m:Nat}(h:Rf m a k)(l:(a.getD j (Y 0)).isNone=M):Rf m (a.setIfInBounds j (Y k)) (k+1):=by
 obtain⟨b,d⟩:=getD_some l;have g:∀i,(a.setIfInBounds j (Y k)).getD i J=if i=j then Y k else a.getD i J:=λi=>by
  rw[WJ,WJ,Array.getElem?_setIfInBounds];by_cases q:i=j
  ·rw[Zp q.symm,Zp q,Zp b];rfl
  ·rw[Zo (Y4 q),Zo q]
 refine⟨by rw[Array.size_setIfInBounds];exact h.sz,?_,λi v e=>?_⟩
 ·unfold live;rw[zu (f:=λj=>(a.getD j J).map (j,·)) (by rw[d];rfl) (by rw[g,Zp L];rfl) (λi n=>by rw[g,Zo n]) Vu (Yd.mpr (by rw[← h.sz];exact b))];exact congrArg (·+1) h.len
 ·rw[g]at e;split at e
  ·cases e;exact Yk _
  ·exact M0 (h.lt i v e)
noncomputable abbrev E5(m:Nat)(a:Option (Array (Option Nat)×Nat))(h:Int):Option (Array (Option Nat)×Nat):=do
 let (owner,k) ← a
 let j ← SetTable.layClean.free m owner (SetTable.turns m) (SetTable.bits h%(m+1)) (SetTable.bits h)
 pure (owner.setIfInBounds j (Y k),k+1)
theorem wB(d:OJ m):∀(a:Uy)(ow:Array (Option Nat))(k:Nat),Rf m ow k->k+a.length<=m+1->∃b,a.foldl (E5 m) (Y (ow,k))=Y (b,k+a.length)/\Rf m b (k+a.length)
 |[],ow,k,h,_=>⟨ow,rfl,h⟩
 |x :: a,ow,k,h,f=>by
  rw[Zf]at f;obtain⟨j,e,g⟩:=h.free d (by lia) x;obtain⟨b,e2,i⟩:=wB d a _ (k+1) (h.set g) (by lia);refine⟨b,?_,by rw[Zf,← Xg,Nat.add_right_comm];exact i⟩;rw[Y9,show E5 m (Y (ow,k)) x=Y (ow.setIfInBounds j (Y k),k+1) from by
   show (SetTable.layClean.free m ow (SetTable.turns m) (SetTable.bits x%(m+1)) (SetTable.bits x)).bind _=_;rw[e];rfl,e2,Zf,Nat.add_right_comm,Xg]
def Bt(b:OJ m)(a:Array Int)(d:a.size<=m+1):∃ow,SetTable.layClean m a=Y ow/\Rf m ow a.size:=by
 obtain⟨ow,e,h⟩:=wB b a.toList _ 0 (by
  have g:∀j,(Array.replicate (m+1) (J:Option Nat)).getD j J=J:=λj=>by
   rw[WJ,Array.getElem?_replicate];split<;>rfl
  refine⟨Array.size_replicate,?_,λj v e=>by rw[g]at e;cases e⟩;unfold live;rw[List.filterMap_eq_nil_iff.mpr λj _=>by rw[g];rfl];rfl) (by rw[YJ,Ym];exact d)
 rw[YJ,Ym]at e h;refine⟨ow,?_,h⟩;unfold SetTable.layClean;rw[← Array.foldl_toList];rw[e];rfl
def yL{t:SetTable}{d:Array (Int×PP)}(hw:SetTable.sizeAbove n-1=m)(s:OJ m)(z:d.size<=m):∃g l,t.relaid (d.map (·.1)) n=Y (g,l)/\Ox g d.size/\g.mask=m/\g.led=t.led/\(l.filterMap (d[·]?)).size=d.size/\∀e∈(l.filterMap (d[·]?)).toList,e∈d.toList:=by
 obtain⟨ow,e,o⟩:=Bt s (d.map (·.1)) (by rw[Array.size_map];lia);rw[Array.size_map]at o;have r:=o.len;have lm:∀p∈live m ow,p.1<=m/\p.2<d.size:=λp f=>by
  obtain⟨j,A,q⟩:=Wt.mp f;obtain⟨v,D,rfl⟩:=Zy.mp q;exact⟨MJ (Yd.mp A),o.lt j v D⟩
 refine⟨{ mask:=m,place:=((live m ow).map (·.1)).toArray,dummies:=#[],finger:=t.finger,led:=t.led,moves:=t.movedTo m,plain:=t.plain },((live m ow).map (·.2)).toArray,?_,⟨s,by rw[ZE,Zw,r],λi j u v N e1 e2=>?_,rfl,λi v q=>?_,z⟩,rfl,rfl,?_,λx h=>?_⟩
 ·unfold SetTable.relaid SetTable.laid;rw[hw,e];rfl
 ·have e1:=e1;have e2:=e2;rw[Wc]at e1 e2;obtain⟨H,F⟩:=Zb.mp e1;obtain⟨G,E⟩:=Zb.mp e2;rw[← F,← E];exact YH.mp (by
   rw[Y5];refine List.Pairwise.filterMap _ (λa b L x h y w=>?_) List.pairwise_lt_range;obtain⟨_,_,rfl⟩:=Zy.mp h;obtain⟨_,_,rfl⟩:=Zy.mp w;exact L) i j H G N
 ·have q:=q;rw[Wc]at q;obtain⟨p,f,rfl⟩:=ZC.mp (Yr q);exact(lm p f).1
 ·rw[← Ym,Array.toList_filterMap];rw[vg λi C=>?_,Zw,r];obtain⟨p,f,rfl⟩:=ZC.mp C;exact⟨_,Xk (lm p f).2⟩
 ·rw[Array.toList_filterMap]at h;obtain⟨i,_,q⟩:=Wt.mp h;rw[← Nw]at q;exact Yr q
end SP
end
section
namespace SP
open PySem PySem.Spec PyProof.Rows SI ST
variable{K:Type}[DecidableEq K]
def tH{prog:SB}{w:XAB}{knd:KeyKind prog w K}{A:SC}{E:Ki}{s:KB}{k:List K}{b:On}{Q:Bool->KB->Prop}(f:IsTupleKey knd s.heap k b)(q:Q B s):Pi (KF prog w) A (ofAClassStatement 8 (.ref b)) Q E s:=by
 have ty:=f.typeIs;obtain⟨o,items,n,h,_,hd,i⟩:=f;unfold ofAClassStatement;refine Zr (wpAny_typeOf ty ?_);refine Zr (Zk ?_);refine(?_);refine Zr (wpAny_seqItems h hd (Zr ?_));rw[← Array.forIn_toList];refine Vf _ (λrest r d=>r.1=J/\d=s/\∀v∈rest,carriedByValue v=M) _ ?_ ?_ _ _ ⟨rfl,rfl,i.byValue⟩
 ·rintro v rest r d ⟨e,rfl,g⟩;have:ofAClassStatement 7 v=pure B:=by
   have:=g v Zv;cases v with
   |ref a=>simp[carriedByValue]at this
   |_=>rfl
  rw[this];exact Zr (Zk (Zk ⟨rfl,rfl,λu j=>g u (Zx _ j)⟩))
 ·rintro⟨r1,r2⟩ d ⟨e,rfl,_⟩;subst e;exact Zk q
def yc{prog:SB}{w:XAB}{knd:KeyKind prog w K}{A:SC}{E:Ki}{s:KB}{k:List K}{b:On}{Q:Bool->KB->Prop}(f:IsTupleKey knd s.heap k b)(q:∀r,Q r s):Pi (KF prog w) A (hashByValue 8 (.ref b)) Q E s:=by
 have ty:=f.typeIs;obtain⟨o,items,n,h,_,hd,i⟩:=f;refine Zr (wpAny_specialOf ty F.slot_tuple_hash.lookup ?_);refine Zr (wpAny_seqItems h hd (Zr ?_));rw[← Array.forIn_toList];refine Vf _ (λrest r d=>d=s/\(r.1=J\/rest=[])/\∀v∈rest,carriedByValue v=M) _ ?_ ?_ _ _ ⟨rfl,.inl L,i.byValue⟩
 ·rintro v rest r d ⟨rfl,l,g⟩;have:∃b,hashByValue 7 v=pure b:=by
   have:=g v Zv;cases v with
   |ref a=>simp[carriedByValue]at this
   |_=>exact⟨_,by rfl⟩
  obtain⟨b,e⟩:=this;rw[e];refine Zr (Zk ?_);cases b with
  |true=>exact Zk ⟨rfl,.inl L,λu j=>g u (Zx _ j)⟩
  |false=>exact Zk (Zk (q _))
 ·rintro⟨r1,r2⟩ d ⟨rfl,_,_⟩;cases r1 with
  |none=>exact Zk (q _)
  |some b=>exact Zk (q _)
def D8{prog:SB}{w:XAB}{knd:KeyKind prog w K}{A:SC}{E:Ki}{s:KB}{k:List K}{b:On}{Q:Bool->KB->Prop}(f:IsTupleKey knd s.heap k b){l:Vz}(i:∀y∈l,∃c d,y=.ref c/\IsTupleKey knd s.heap d c)(q:Q B s):Pi (KF prog w) A (searchCouldBeSeen (.ref b) l) Q E s:=by
 refine Zr ?_;refine Vf _ (λrest r a=>r.1=J/\a=s/\∀y∈rest,∃c d,y=.ref c/\IsTupleKey knd s.heap d c) _ ?_ ?_ _ _ ⟨rfl,rfl,i⟩
 ·rintro v rest r a ⟨e,rfl,h⟩;obtain⟨c,d,rfl,g⟩:=h v Zv;have fin:r.1=J/\a=a/\∀y∈rest,∃c d,y=.ref c/\IsTupleKey knd a.heap d c:=⟨e,rfl,λu j=>h u (Zx _ j)⟩
  dsimp only;split
  ·exact Zk ⟨rfl,fin.2⟩
  ·refine Zr (wpAny_eqIsQuiet_tuple f ?_);refine Zr (wpAny_eqIsQuiet_tuple g ?_);refine Zr (tH f ?_);refine Zr (tH g ?_);exact Zk ⟨rfl,fin.2⟩
 ·rintro⟨r1,r2⟩ a ⟨e,rfl,_⟩;subst e;exact Zk q
structure N6{prog:SB}{w:XAB}(knd:KeyKind prog w K)(h0 h:XAA)(a:On)(ks:List (List K))(es:Array (Int×PP))(ep:Nat)(t:SetTable):Prop where
 at_:h.get? a=some { cls:=.type "set",dict:=none,data:=.set es ep t }
 tb:Ox t es.size
 nf:es.size*5<t.mask*3
 SH:∀e∈es.toList,∃b k,e.2=.ref b/\k∈ks/\IsTupleKey knd h0 k b
 sz:es.size=ks.length
 kp:∀b o,h0.get? b=some o->o.cls=.type "tuple" → h.get? b=some o
def N6.up{prog:SB}{w:XAB}{knd:KeyKind prog w K}{e h:XAA}{a b:On}{k:List K}{f:List (List K)}{j:Array (Int×PP)}{l:Nat}{t:SetTable}(T:N6 knd e h a f j l t)(x:IsTupleKey knd e k b):IsTupleKey knd h k b :=
 let ⟨o,i,n,g,c,d⟩:=x;⟨o,i,n,T.kp _ _ g c,c,d⟩
def N6.same{prog:SB}{w:XAB}{knd:KeyKind prog w K}{f h g:XAA}{a:On}{i:List (List K)}{l:Array (Int×PP)}{m:Nat}{t:SetTable}(T:N6 knd f h a i l m t)(j:Heap.SameBut a h g)(b:On)(o:Obj)(e:f.get? b=Y o)(d:o.cls=.type "tuple"):g.get? b=Y o:=by
 refine(j.2 b λz=>?_).trans (T.kp b o e d);subst z;have:=T.at_;rw[T.kp _ o e d]at this;cases this;injection d with d
 exact absurd d (by decide)
def yB{prog:SB}{w:XAB}{knd:KeyKind prog w K}{A:SC}{E:Ki}{s:KB}{a b:On}{k:List K}{ks:List (List K)}{es:Array (Int×PP)}{ep:Nat}{t:SetTable}{h:Int}{h0:XAA}{Q:SetFound->KB->Prop}(T:N6 knd h0 s.heap a ks es ep t)(hu:A.units<cLine)(hk:IsTupleKey knd s.heap k b)(hn:k∉ks)(q:∀j,j<=t.mask->t.slot j=.empty->Q (.free j B) s):∀(n fuel:Nat)(st:Option SetTable.Probe),n<fuel->n<10*SetTable.turns t.mask->Pj t (st.getD (t.probeStart h))->t.slot (Od t n (st.getD (t.probeStart h))).j=.empty->Pi (KF prog w) A (setSearchFrom a (.ref b) h M fuel st) Q E s:=by
 intro n
 induction n using Nat.strongRecOn with
 |_ n ih =>
  intro fuel st hf hm hp he;obtain⟨fuel,rfl⟩:∃n,fuel=n+1:=⟨fuel-1,by lia⟩
  refine Zr (WV T.at_ L T.tb.fits ?_);dsimp only;rw[Zo (by rw[T.tb.odd];exact Zh)];generalize hg:SetTable.probe t _ h (st.getD (t.probeStart h))=met;unfold SetTable.probe at hg;rcases HQ T.tb.P1 _ h n _ _ hm hp he with⟨j,e1,e2,e3⟩ | ⟨j,i,p',k',e1,e2,e3,e4,e5⟩
  ·rw[e1]at hg;subst hg;exact Zk (q j e2 e3)
  ·rw[e1]at hg;subst hg;have hi:i<es.size:=by
    rcases nk T.tb.P1 j with⟨z,_⟩ | ⟨z1,z2⟩
    ·rw[e2]at z;cases z
    ·rw[e2]at z1;cases z1;rw[← T.tb.sz];exact(WC.mp z2).1
   obtain⟨c,k2,c1,c2,c3⟩:=T.SH es[i] (Array.getElem_mem_toList hi);have rest:Pi (KF prog w) A (do
     let Y (_,y):=es[i]? | unsupported "internal:set-entry"
     let equal ← holding [y] (eqBool y (.ref b))
     let (Mx,_,t') ← setState a
     if M&&equal then return .there J
     let Y same:=t'.sameMemory t.moves t.mask | unsupported "set.changed-during-lookup:is-the-new-block-at-the-old-address"
     let S5 ← match (if same then t'.slot j else .empty) with
      |.live i'=>match Mx[i']? with
       |some (_,y')=>do pure (if ← isSame y' y then Y i' else J)
       |none=>pure J
      |_=>pure J
     match S5 with
     |none=>rule "set.search.anew";setSearchFrom a (.ref b) h M fuel J
     |some i'=>if equal then return .there (Y i') else setSearchFrom a (.ref b) h M fuel (Y p')) Q E s:=by
    have g:es[i]?=Y (es[i].1,.ref c):=by
     rw[Xk hi,← c1]
    rw[g];refine Zr (Y2 (wpAny_eqBool_tuple hu (T.up c3) hk ?_));rw[ZS λz:k2=k=>hn (z ▸ c2)];refine Zr (WV T.at_ L T.tb.fits ?_);dsimp only;rw[show SetTable.sameMemory t t.moves t.mask=Y M from Zp (beq_self_eq_true _)];rw[Zo (by decide)];dsimp only;rw[Zp L,e2];dsimp only;rw[g];refine Zr (wpAny_isSame_ref_self (Zr (Zk ?_)));exact ih k' e4 fuel (Y p') (by lia) (by lia) e3 e5
   by_cases hl:t.led=M
   ·refine(show Pi _ _ (if (!t.led)=M then _ else _) Q E s from ?_);rw[Zo (by rw[hl];exact Zh)];exact rest
   ·refine(show Pi _ _ (if (!t.led)=M then _ else _) Q E s from ?_);rw[Zp (by rw[Bool.eq_false_iff.mpr hl];rfl)];refine Zr (D8 hk (λy hy=>?_) ?_)
    ·obtain⟨e,he,rfl⟩:=ZC.mp hy;rw[Array.toList_filter]at he;obtain⟨b',k',h1,_,h2⟩:=T.SH e (YM.mp he).1;exact⟨b',k',h1,T.up h2⟩
    ·exact rest
end SP
end
section
namespace SP
open PySem PySem.Spec PyProof.Rows SI ST
variable{K:Type}[DecidableEq K]
def sI(h:OJ m)(a:n*5<m*3)(d:(n+1)*5 ≥ m*3)(b:n<300):OJ (SetTable.sizeAbove (SetTable.grown (n+1))-1)/\(n+1)*5<(SetTable.sizeAbove (SetTable.grown (n+1))-1)*3/\SetTable.sizeAbove (SetTable.grown (n+1))<=512:=by
 rcases h with rfl | rfl | rfl | rfl
 ·have:n=4:=by lia
  subst this;exact⟨.inr (.inl (by decide)),by decide,by decide⟩
 ·have:n=18:=by lia
  subst this;exact⟨.inr (.inr (.inl (by decide))),by decide,by decide⟩
 ·have:n=76:=by lia
  subst this;exact⟨.inr (.inr (.inr (by decide))),by decide,by decide⟩
 ·lia
def Dq{prog:SB}{w:XAB}{knd:KeyKind prog w K}{A:SC}{E:Ki}{s:KB}{a b:On}{k:List K}{u:List (List K)}{g:Array (Int×PP)}{H:Nat}{t:SetTable}{h:Int}{x:XAA}{Q:Bool->KB->Prop}(T:N6 knd x s.heap a u g H t)(hu:A.units<cLine)(N:IsTupleKey knd x k b)(hn:k∉u)(hl:u.length<300)(q:∀C Mx OZ U,Heap.SameBut a s.heap C->N6 knd x C a (u++[k]) Mx OZ U->Q M { s with heap:=C }) :
  Pi (KF prog w) A (setAddHashed a (.ref b) h) Q E s:=by
 have G:=T.up N;refine Y2 (Zr (WV T.at_ L T.tb.fits ?_));dsimp only;rw[Zo (by show ¬(B&&_&&_)=M;simp)];obtain⟨j0,j1,j2⟩:=T.tb.room;obtain⟨n,n1,n2⟩:=u7 T.tb.m h j1;refine Zr (yB T hu G hn (λj g1 l=>?_) n 100000 J (by
  have:SetTable.turns t.mask<=526:=by
   rcases T.tb.m with e | e | e | e<;>rw[e]<;>decide
  lia) n1 (AJ t h) (by rw[show (J).getD (t.probeStart h)=t.probeStart h from rfl,n2];exact j2))
 refine Zr (WV T.at_ L T.tb.fits ?_);have i:=T.tb.put g1 l (by have:=T.nf;have:=T.tb.MG;lia);have d:(SetTable.insertAt g (SetTable.below t.place j) (h,.ref b)).size=g.size+1:=by
  have:=T.tb.sz;unfold SetTable.insertAt;simp only[XE,XI,VM];lia
 have O:∀e∈(SetTable.insertAt g (SetTable.below t.place j) (h,.ref b)).toList,e∈g.toList\/e=(h,.ref b):=λe he=>by
  unfold SetTable.insertAt at he;rw[YW,W6,Zc,Zc,Xh,Xh]at he;rcases he with (he | he) | he
  ·exact .inl (YN (YO he))
  ·exact .inr (ZZ.mp he)
  ·exact .inl (YN (YO he))
 generalize z:SetTable.insertAt g (SetTable.below t.place j) (h,Value.ref b)=QY at d O;have rest:∀t2:SetTable,Ox t2 (g.size+1)->t2.mask=t.mask->Pi (KF prog w) A (do
   storeSet a QY t2
   if (!B&&t2.tooFull)=M then setRelay a (SetTable.grown (g.size+1))
   return M) Q E s:=λt2 o m2=>by
  refine Zr (wpAny_storeSet_of T.at_ L ?_ (by rw[d,T.sz,Xb];lia));have l:(s.heap.update a (Obj.putSet QY t2)).get? a=Y { cls:=.type "set",dict:=J,data:=.set QY (H+1) t2 }:=WQ _ T.at_ L;have y:Heap.SameBut a s.heap (s.heap.update a (Obj.putSet QY t2)):=W5 ..;have P:∀e∈QY.toList,∃b v,e.2=.ref b/\v∈u++[k]/\IsTupleKey knd x v b:=λe he=>by
   rcases O e he with he | rfl
   ·obtain⟨c,v,h1,h2,h3⟩:=T.SH e he;exact⟨c,v,h1,Yl _ h2,h3⟩
   ·exact⟨b,k,rfl,ZI _ (ZZ.mpr L),N⟩
  by_cases f:t2.tooFull=M
  ·rw[Zp (by rw[f];rfl)];obtain⟨S,R,u3⟩:=sI T.tb.m T.nf (by
    unfold SetTable.tooFull SetTable.fill at f;rw[o.sz,o.P1,m2]at f;exact of_decide_eq_true f) (by rw[T.sz];exact hl)
   obtain⟨t3,D,r1,r2,Z,_,p,X⟩:=yL L S (by rw[d];lia);refine Zr ?_;refine Zr (WV l L (by rw[d];exact o.fits) ?_);dsimp only;rw[Zo (by rw[Xb];lia),r1];refine Zr (show Pi _ _ (if ((D.filterMap (QY[·]?)).size != QY.size)=M then _ else pure (D.filterMap (QY[·]?),t3)) _ _ _ from ?_);rw[Zo (by rw[p];simp)];refine Zk (wpAny_storeSet_of l L (Zk (q _ _ _ _ (y.trans (W5 ..)) ⟨WQ _ l L,by rw[p];exact r2,by rw[p,Z,d];exact R,λe he=>P e (X e he),by rw[p,d,T.sz,Zs];rfl,T.same (y.trans (W5 ..))⟩)) (by rw[p,d,T.sz,Xb];lia))
  ·rw[Zo (by rw[Bool.eq_false_iff.mpr f];exact Zh)];refine Zr (Zk (Zk (q _ _ _ _ y ⟨l,by rw[d];exact o,?_,P,by rw[d,T.sz,Zs];rfl,T.same y⟩)));unfold SetTable.tooFull SetTable.fill at f;rw[o.sz,o.P1,decide_eq_true_iff]at f;rw[d];exact V2 f
 subst z;refine(?_);by_cases F:(t.put j).1.plain=M
 ·rw[Zp F];refine Zr (yc G λr=>?_);cases r with
  |true=>exact rest (t.put j).1 i L
  |false=>exact rest { (t.put j).1 with plain:=false } ⟨i.m,i.sz,i.ris,i.P1,i.le,i.MG⟩ rfl
 ·rw[Zo F];exact rest (t.put j).1 i L
theorem uR{prog:SB}{w:XAB}{knd:KeyKind prog w K}{A:SC}{R:Result->KB->Prop}{I S:On}{fp q:W9}{G:Array GenState->Array GenState->Prop}{n:Nat}{P:Nat->PP->Prop}{St:Nat->KB->Prop}{a:List (List K)}(W:WalksS prog w A.in1 I fp q G n P St)(d:S∉fp)(hn:n=a.length)(g:n<300)(y:A.units+1<cLine)(Z:a.Nodup){h0:XAA}(hP:∀i v,P i v->∃b x,v=.ref b/\a[i]?=Y x/\IsTupleKey knd h0 x b)(C:∀b o,h0.get? b=Y o->o.cls=.type "tuple" → b∉q) :
  ∀(k i:Nat)(s:KB)(m:Array (Int×PP))(p:Nat)(t:SetTable),i+k=n->St i s->N6 knd h0 s.heap S (a.take i) m p t →
   (∀f X U r,Moved (S :: q) G s f->N6 knd h0 f.heap S a X U r->R (.ok (.ret .none)) f) →
   codeAny (KF prog w) A (.builtin "set.update.loop" ⟨[.ref S,.ref I],[]⟩) R s
 |0,i,s,m,p,t,hk,st,T,H=>by
  have hi:i=n:=by omega
  subst hi;refine XB F.entry_set_update_loop ?_;rw[XW V1];rw[hn,V4]at T;exact Zr (W.done s _ _ st λf mv=>Zk (H f m p t (mv.mono λb g=>Zx _ g) ⟨mv.heap S _ (λh=>d (W.sub _ h)) T.at_,T.tb,T.nf,T.SH,T.sz,λb o l j=>mv.heap b o (C b o l j) (T.kp b o l j)⟩))
 |k+1,i,s,m,p,t,hk,st,T,H=>by
  refine XB F.entry_set_update_loop ?_;rw[XW V1];refine Zr (W.item i s _ _ (by lia) st λv s1 pv Ls mv=>?_);obtain⟨b,x,rfl,Ph,Mv⟩:=hP i v pv;have T1:N6 knd h0 s1.heap S (a.take i) m p t:=⟨mv.heap S _ (λh=>d (W.sub _ h)) T.at_,T.tb,T.nf,T.SH,T.sz,λb o l j=>mv.heap b o (C b o l j) (T.kp b o l j)⟩
  have nx:x∉a.take i:=λz=>by
   obtain⟨_,e⟩:=Zb.mp Ph;have:=(ZF.mp (by rw[YZ];exact Z)).2.2 x z x (by rw[YF (by lia),e];exact Zv);exact this L
  refine Zr (Y2 ?_);refine Y2 (Zr (wpAny_pyHash_tuple (by exact y) (T1.up Mv) (Dq T1 (by exact y) Mv nx (by rw[Yv];lia) λh' X U r sb T2=>?_)));rw[show a.take i++[x]=a.take (i+1) from by rw[List.take_add_one,Ph];rfl]at T2;refine Zk ⟨Vk V1 _,uR W d hn g y Z hP C k (i+1) _ X U r (by lia) (W.frame _ s1 _ _ Ls (Zd _ _) λc D o e=>?_) T2 λs2 N O t2 u T3=>?_⟩
  ·rw[sb.2 c λQ=>d (Q ▸ D)];exact e
  ·refine H s2 N O t2 (Moved.trans W.gtrans (Moved.then_heap (mv.mono λb g=>Zx _ g) (Zd _ _) λc o D e=>?_) u) T3;rw[sb.2 c λQ=>D (by rw[Q];exact Zv)];exact e
theorem N6.bare{prog:SB}{w:XAB}{knd:KeyKind prog w K}(a h:XAA)(d:∀b o,a.get? b=Y o->h.get? b=Y o):N6 knd a (h.push (ST.bare w)) h.objs.size [] #[] 0 (.fresh 0 0 (!byT w)) :=
 ⟨ZK _ L,⟨.inl L,rfl,λi j u v _ e=>by simp[SetTable.fresh]at e,rfl,λi v e=>by simp[SetTable.fresh]at e,ZA _⟩,(show 0*5<7*3 by decide),λe he=>by simp at he,rfl,λb o f _=>Zj _ (d b o f)⟩
def zo{prog:SB}{w:XAB}{knd:KeyKind prog w K}{A:SC}{s:KB}{m:List (List K)}(hh:A.handled=J)(hu:A.units+9<cLine)(hl:s.heap.IsList l j)(Z:∀(i:Nat)(v:PP),j[i]?=Y v->∃b x,v=.ref b/\m[i]?=Y x/\IsTupleKey knd s.heap x b)(U:j.size=m.length)(X:m.Nodup)(hb:m.length<300)(h:∀(p:XAA)(N:Nat) es ep t,N6 knd s.heap p s.heap.objs.size m es ep t->(∀b o,s.heap.get? b=Y o->p.get? b=Y o)->Q (.ref s.heap.objs.size) { s with heap:=p,toks:=N }) :
  Pi (KF prog w) A (call (.type "set") [.ref l]) Q E s:=by
 have f:=F.called_set;obtain⟨c,tl,mro⟩:=f.mro;have made:=f.made;have sub:=f.sub;have tc:=F.typeCall_set_1 (.ref l);refine wpAny_call (codeAny_of_tree (Zk (⟨Code.quiet_builtin _ (by decide +kernel),XB F.entry_type_call ?_⟩)));rw[Around.under_plain (weight_type_call_type "set" [.ref l] []) L]
 repeat any_goals first | assumption | wp_step
 refine W7 (D7 (.ref l) (E:=E) (Q:=λv s1=>v=.ref s.heap.objs.size/\s1={ s with heap:=s.heap.push (bare w) }) ⟨rfl,rfl⟩) λr s1 d=>?_
 match r,d with
 |.error e,d=>exact d
 |.ok (.ret v),⟨e1,e2⟩ =>
  subst e1 e2;have g:=N6.bare (knd:=knd) s.heap s.heap λ_ _ e=>e;have il:=f.init.lookup;have ib:=f.init.bind (.ref s.heap.objs.size)
  repeat any_goals first | assumption | wp_step
  refine W7 (codeAny_call_builtin (R:=wants (λv D=>v=.none/\Q (.ref s.heap.objs.size) D) E) f.init.plain F.entry_set_init (check_set_init_1 (⟨_,g.at_,rfl⟩) ?_)) λr2 D a=>?_
  ·refine L2.ai λP_ S=>?_;obtain⟨ol,n,y,nl,u⟩:=hl;cases ol;subst y u;refine S ?_;have G:=ZO n;have Se:=Zj (bare w) n;have lst:(s.heap.push (bare w)).IsList l j:=⟨_,Se,rfl,nl,rfl⟩
   have n1:=F.sub_list_set;have n2:=F.sub_list_frozenset;unfold Builtin.«set.__init__» noKeywords Builtin.Frozenset.updateFrom;generalize eP:pyIter=itr
   wp_walk
   subst eP;refine wpAny_pyIter_list lst (Zr (wpAny_runValue ?_));refine uR (knd:=knd) (h0:=s.heap) ((Walks.list (by simp[hh]) _ l (by rw[XJ];exact Za (M0 G)) j).toS) (by
    rw[XJ];simp only[Zi,WX,or_false,not_or];exact⟨Za (Yk _),Wk G⟩) U (by lia) (by lia) X Z (λb o e _ z=>by
    have:=ZO e;rw[ZZ.mp z,XJ]at this;exact YE _ (Xv this)) j.size 0 _ #[] 0 _ (by exact YJ _) ⟨⟨_,ZK _ L,rfl,rfl⟩,lst.push _⟩ (⟨Zj _ g.at_,g.tb,g.nf,g.SH,g.sz,λb o h1 a=>Zj _ (g.kp b o h1 a)⟩) λP Mx OZ O mv T=>?_
   obtain⟨p,g',d',OE,Sq⟩:=P;have e1:g'=s.gens:=mv.gens;have e2:d'=s.drawn:=mv.drawn;have e3:Sq=s.os:=mv.os;subst e1 e2 e3;refine Zk (Zk ⟨rfl,h p OE Mx OZ O T λb o e=>mv.heap b o (λC=>?_) (Zj _ (Zj _ e))⟩);have H:=ZO e;rw[XJ]at C;simp only[Zi,WX,or_false]at C;rcases C with q | q
   ·exact Za H q
   ·exact Za (M0 H) q
  ·match r2,a with
   |.error e,a=>exact a
   |.ok (.ret v),⟨e1,e2⟩ =>
    subst e1
    repeat any_goals first | assumption | wp_step
   |.ok .next,a=>exact a.elim
   |.ok .brk,a=>exact a.elim
   |.ok .cont,a=>exact a.elim
 |.ok .next,d=>exact d.elim
 |.ok .brk,d=>exact d.elim
 |.ok .cont,d=>exact d.elim
end SP
end
section
namespace L2
open PySem PySem.Spec PyProof.Rows TS
section
noncomputable def Gh(a:On)(n:Nat):HO:=.ext λ_ h=>∃b d t,h.get? a=Y { cls:=.type "set",dict:=J,data:=.set b d t }/\t.fits b.size=M/\b.size=n/\n<300
def At.Od(h:At H b d):∀(i:Nat)(a:On),d[i]?=Y a->∃k:List Key,b[i]?=Y k/\H a=Y (.tup (k.map kV)):=by
 induction h with
 |nil=>intro i a e;simp at e
 |cons e _ f =>
  intro i a q;cases i with
  |zero =>
   rw[List.getElem?_cons_zero]at q;cases q;exact⟨_,rfl,e⟩
  |succ i =>
   rw[Vt]at q;exact f i a q
theorem qq:∀{b:W9}{d:Vz},aP (b.map V.ref) d->d=b.map Value.ref
 |[],_,.nil=>rfl
 |a :: b,_,.cons e r=>by
  cases e;rw[Zm,qq r]
def yH{X:Cx}(F:X.calm=M)(C:X.A.units+9<cLine):dw X (.type "set") (λe H Q=>∃p,∃b d,e=[.ref p]/\Kt X.K H p (d.map V.ref)/\At H b d/\b.Nodup/\b.length<300/\∀l,H l=J->Q (.ref l) (upd H l (Gh l b.length))):=by
 intro g s O H e us Q I r h;refine L2.ai λP_ z=>?_;obtain⟨p,b,d,rfl,D,o,E,hb,q⟩:=h;obtain⟨u,rfl,x⟩:=r.one;cases x;obtain⟨jj,f,y,hz⟩:=I.list D;refine z ?_;refine SP.zo (knd:=aS X.prog X.w) (I.ok.hd F) C y.isList (λi v j=>?_) (by simpa[o.len] using(by have:=f.length;simpa using this.symm)) E hb λL tk Mx N t T kp=>?_
 ·rw[Wc,(qq f),ZP]at j;obtain⟨a,G,rfl⟩:=Zy.mp j;obtain⟨k,n,m⟩:=o.Od i a G;exact⟨a,k,rfl,n,dg I.Kd m⟩
 ·exact⟨.ref s.heap.objs.size,_,I.laid kp (Zn _) (show du X.prog X.w _ L _ (Gh s.heap.objs.size b.length) from⟨⟨Mx,N,t,T.at_,T.tb.fits,T.sz,hb⟩,⟨_,T.at_⟩,λn m ⟨Z,U,S,R,P⟩ k=>⟨Z,U,S,k _ R,P⟩⟩),rfl,q _ (I.Kd.fresh (Zn _))⟩
def pG:dw X (.builtin "len") (λa H Q=>∃p n,a=[.ref p]/\H p=Y (Gh p n)/\Q (.int n) H):=by
 intro b s O H a l Q I d h;obtain⟨p,n,rfl,f,q⟩:=h;obtain⟨u,rfl,e⟩:=d.one;cases e;obtain⟨⟨o,r,t,j,i,g,m⟩,_,_⟩:=I.Kd p _ f;exact call_len_set j ⟨rfl,rfl,rfl⟩ L i (by omega) ⟨.int n,H,(I.tok _).tok _,⟨_,by rw[g]⟩,q⟩
end
end L2
namespace VS
open PySem PySem.Spec PyProof.Rows L2
section
def ng:Uv->Uu
 |[(_,.lst l)]=>(l.mapM Ru).bind λa=>if a.Nodup/\a.length<300 then Y (.fr,.int a.length) else J
 |_=>J
def AY{X:Cx}(n:p0 k X.A)(r:X.mg "len" = J)(N:X.mg "set" = J)(y:Lv G X [e] cs)(u:{`q3,Gl X "len"})(E:{`q3,Gl X "set"})(C:{`q3,X.K=G.K})(w:{`q3,X.calm=M})(he:{`q3,K1 e [] X})(d:{`q3,P3 [.Call (.Name "set" p2) [e] [] pos'] X.env=(B,eval (.Call (.Name "set" p2) [e] [] pos') X.env) :: P3 [] X.env}) :
  PV G X (.Call (.Name "len" p) [.Call (.Name "set" p2) [e] [] pos'] [] pos) (eN ng cs):=by
 refine PE.weak (oO pG u r PySem.boot_len (cZ (p6 (yH w (by have:=n.un;lia)) E N Fo y (he:=he)) g8 d)) λO H Q z=>?_;obtain⟨Z,U,m,t,s,b,i⟩:=z;obtain⟨l,D,b⟩:=Zz.mp b;refine⟨Z,U,l,s,D,λS H1 Fs s1 r1 f1=>?_⟩;unfold ng at b;split at b
 ·rename_i mx x;obtain⟨f,e1,e2⟩:=Zz.mp b;split at e2
  ·rename_i hb;refine L2.ai λP_ j=>?_;cases e2;obtain⟨v,F,rfl,rfl,g⟩:=(r1).one;obtain⟨a,R,Gs,rfl,rfl,L,h⟩:=g.lst_inv;obtain rfl:=kA (λ_ _=>xB) e1;obtain⟨bs,rfl,P,ht⟩:=qV h;refine j ?_;refine⟨a,f,bs,rfl,by rw[C];exact Kt.of L,P,hb.1,hb.2,λq o=>⟨q,f.length,rfl,aw,?_⟩⟩;exact i _ _ _ (s1.trans (cF o)) (.int _) Fp.nil
  ·cases e2
 ·cases b
end
end VS
end
section
namespace T48
open VS
noncomputable section
def aU:Mt:=Mm 0 4 4 [B,B,M]
  (ar (sX (iT 0 [.fld 1] aJ (ae (aa 1) aj)))
  (ar (sX (iT 0 [.fld 2] aJ (ae (aa 2) aj)))
  (ar (rJ 0 [.fld 3] 3)
  (fR (e2 vi (eN cq (ae (bj 1 (aa 0)) aj)) (Q3 1))))))
def dk:Mt:=Mm 0 1 1 (List.replicate 0 B)
  (ar (jP 0 1 (dN aj))
  (ar (jP 0 2 (dN aj))
  (ar (jP 0 3 (dN aj))
  (US (bN 0 [] 0 [B,B,M] aU (ae (Q3 0) (ae (eC .non) (ae (vh 0 []) aj))))))))
def cY:Sx :=
  (ar (fC 0 [.fld 3,.ix (aa 1)] (aa 2) (aa 5))
  (bg 1 (e2 aE (bj 2 (aa 0)) (aa 1))))
def av:Mt:=Mm 0 3 6 [B,B]
  (ar (bg 3 (e2 MD (e2 aE (bj 3 (aa 0)) (aa 1)) (aa 2)))
  (ar (bg 4 (e2 cu (e2 aE (bj 1 (aa 0)) (aa 1)) (Q3 1)))
  (ar (LN (e2 oEq (e2 aE (bj 1 (aa 0)) (aa 3)) (aa 4)) (fM 3) eI)
  (ar (eJ 5 (bN 0 [] 0 [B,B,M] aU (ae (aa 4) (ae (e2 aE (bj 2 (aa 0)) (aa 3)) (ae (eN n9 (ae (e2 aE (bj 3 (aa 0)) (aa 3)) aj)) aj)))))
  (ar (fC 0 [.fld 2] (aa 3) (aa 5))
  (ar (mn (l5 (fP (aa 1)) (e2 oEq (e2 yu (e2 aE (bj 3 (aa 0)) (aa 1)) (aa 2)) (aa 3))) cY)
  (fM 5)))))))
def cJ:Sx :=
  (ar (fC 0 [.fld 3,.ix (aa 4)] (aa 2) (aa 3))
  (bg 4 (e2 aE (bj 2 (aa 0)) (aa 4))))
def bL:Mt:=Mm 0 3 5 [B,B]
  (ar (LN (e2 mV (aa 2) (e2 aE (bj 3 (aa 0)) (aa 1))) (mJ (bN 0 [] 0 [B,B] av (ae (aa 1) (ae (aa 2) aj)))) eI)
  (ar (eJ 3 (bN 0 [] 0 [B,B,M] aU (ae (e2 cu (e2 aE (bj 1 (aa 0)) (aa 1)) (Q3 1)) (ae (Q3 0) (ae (vh 0 []) aj)))))
  (ar (bg 4 (aa 1))
  (ar (mn (l5 (fP (aa 4)) (e2 cN (aa 2) (e2 aE (bj 3 (aa 0)) (aa 4)))) cJ)
  (ar (LN (fP (aa 4)) (ly 0 [.fld 2] (aa 3) (bN 0 [] 0 [B,B] av (ae (aa 4) (ae (aa 2) aj)))) eI)
  (fM 3))))))
def cW:Sx :=
  (eJ 1 (bN 0 [] 0 [B,B] bL (ae (aa 1) (ae (aa 3) aj))))
def aR:Mt:=Mm 0 3 4 [B,B]
  (ar (iV (bB 3) (fU (aa 2)) cW)
  (fM 1))
def c6:Sx :=
  (LN (e2 cN (e2 MD (aa 4) (aa 5)) (aa 1)) (ar (wb 1 (e2 MD (aa 4) (aa 5)) (eN cq (ae (aa 2) aj)))
  (sX (pK 2 [] aJ (ae (e2 MD (aa 4) (aa 5)) aj)))) eI)
def di:Sx :=
  (ar (bg 4 (e2 aE (bj 3 (aa 0)) (e2 aE (aa 2) (aa 3))))
  (ar (iV (bB 5) (fU (eN g6 (ae (aa 4) aj))) c6)
  (bg 3 (e2 cu (aa 3) (Q3 1)))))
def aI:Fn:=fn 1 6
  (ar (kc 1 (vh 0 [((Q3 0),(Q3 0))]))
  (ar (kc 2 (dN (ae (Q3 0) aj)))
  (ar (bg 3 (Q3 0))
  (ar (mn (e2 oLt (aa 3) (eN cq (ae (aa 2) aj))) di)
  (ar (yA 2)
  (fM 1))))))
def bU:Fn:=fn 3 6
  (ar (bg 3 (e2 aE (bj 2 (aa 0)) (aa 1)))
  (ar (bg 4 (e2 aE (bj 3 (aa 0)) (aa 1)))
  (ar (bg 5 (eN kC (ae (dv 1 (bB 0) (fU (eN g6 (ae (aa 4) aj))) J (kB (ae (aa 0) (ae (e2 uw (aa 3) (e2 MD (aa 5) (aa 0))) aj)))) aj)))
  (ar (LN (HH (aa 3)) (fR (kB (ae (Q3 0) (ae (Q3 0) (ae (eC .non) (ae (aa 5) aj)))))) eI)
  (fR (kB (ae (e2 cu (e2 aE (bj 1 (aa 0)) (aa 3)) (Q3 1)) (ae (e2 aE (bj 1 (aa 0)) (aa 1)) (ae (e2 uw (aa 2) (aa 3)) (ae (aa 5) aj))))))))))
def dD:Fn:=fn 1 2
  (ar (kc 1 (fN 0 aI (aa 0) aj))
  (Bb 1 (bB 0) (fN 0 bU (aa 1) (ae (aa 0) (ae (aa 2) aj)))))
def bD:Mt:=Mm 1 1 1 []
  (ar (LN (e2 Ti (eN cq (ae (bj 4 (aa 0)) aj)) (Q3 8)) S8 eI)
  (ar (sX (iT 0 [.fld 4] aJ (ae (eC (.str [])) aj)))
  (ar (sX (iT 0 [.fld 5] aJ (ae (Q3 0) aj)))
  (fR (e2 vi (eN cq (ae (bj 4 (aa 0)) aj)) (Q3 1))))))
def gg:Fn:=fn 1 1
  (fR (l5 (eIs .int (aa 0)) (rQ (eIs .bool (aa 0)))))
def bu:Fn:=fn 2 2
  (LN (P0 (rQ (b7 gg (ae (aa 1) aj))) (rQ (iA oLe oLt (Q3 0) (aa 1) (eN cq (ae (aa 0) aj))))) S8 eI)
def gy:Fn:=fn 1 1
  (fR (eN DL (ae (dv 1 (bB 0) (fU (aa 0)) J (eN cq (ae (aa 0) aj))) aj)))
def bC:Mt:=Mm 1 3 3 [B,B]
  (ar (sX (xP (b7 bu (ae (bj 4 (aa 0)) (ae (aa 1) aj)))))
  (ar (LN (e2 OK (e2 cu (b7 gy (ae (bj 4 (aa 0)) aj)) (eN cq (ae (aa 2) aj))) (Q3 120)) S8 eI)
  (ar (ly 0 [.fld 5] (aa 1) (bN 0 [.fld 6] 0 [B,B] aR (ae (e2 aE (bj 5 (aa 0)) (aa 1)) (ae (aa 2) aj))))
  (fC 0 [.fld 4] (aa 1) (e2 cu (e2 aE (bj 4 (aa 0)) (aa 1)) (aa 2))))))
def bF:Sx :=
  (US (qr 0 1 [B,B] bC (bN 0 [] 1 [] bD aj) (ae (aa 2) aj)))
def aZ:Mt:=Mm 1 2 3 (List.replicate 1 B)
  (ar (jP 0 4 (dN aj))
  (ar (jP 0 5 (dN aj))
  (ar (jP 0 6 (eNew 0 dk aj))
  (LN (fP (aa 1)) (iV (bB 2) (fU (aa 1)) bF) eI))))
def pC:Fn:=fn 1 1
  (fR (eN qC (ae (bj 4 (aa 0)) aj)))
def bZ:Fn:=fn 1 1
  (fR (fN 0 dD (bj 6 (aa 0)) aj))
def pX:Sx :=
  (ar (bg 4 (eN oT (ae (e2 aE (e2 aE (aa 0) (e2 aE (aa 2) (Q3 (-1)))) (Q3 3)) aj)))
  (ar (LN (e2 cN (aa 3) (aa 4)) (fM 2) eI)
  (sX (pK 2 [] aJ (ae (e2 MD (aa 4) (aa 3)) aj)))))
def oW:Fn:=fn 2 5
  (ar (kc 2 (dN (ae (Q3 0) aj)))
  (ar (iV (bB 3) (fU (aa 1)) pX)
  (fM 2)))
def aW:Fn:=fn 2 2
  (LN (P0 (rQ (b7 gg (ae (aa 1) aj))) (rQ (iA oLe oLt (Q3 0) (aa 1) (eN cq (ae (aa 0) aj))))) S8 eI)
def iK:Sx :=
  (ar (sX (pK 2 [] aJ (ae (aa 1) aj)))
  (bg 1 (e2 aE (e2 aE (aa 0) (aa 1)) (Q3 2))))
def nh:Fn:=fn 2 3
  (ar (sX (xP (b7 aW (ae (aa 0) (ae (aa 1) aj)))))
  (ar (kc 2 (dN aj))
  (ar (mn (fP (aa 1)) iK)
  (fM 2))))
def gw:Sx :=
  (sX (uU 2 (aa 7) (ae (kB (ae (aa 3) (ae (aa 5) aj))) aj)))
def i5:Sx :=
  (iV (bB 7) (fU (b7 nh (ae (aa 1) (ae (aa 6) aj)))) gw)
def i8:Sx :=
  (iV (jJ [(bB 5),(bB 6)]) (AH (b7 oW (ae (aa 1) (ae (aa 4) aj)))) i5)
def df:Fn:=fn 2 8
  (ar (kc 2 (dv 1 (bB 0) (fU (aa 1)) J (dN aj)))
  (ar (iV (jJ [(bB 3),(bB 4)]) (AH (aa 0)) i8)
  (fM 2)))
def kX:Fn:=fn 2 2
  (fR (dv 1 (bB 0) (fU (b7 df (ae (aa 0) (ae (aa 1) aj)))) J (eN cq (ae (aa 0) aj))))
def gO:Fn:=fn 3 3
  (ar (sX (xP (b7 aW (ae (aa 1) (ae (aa 2) aj)))))
  (fR (eN gU (ae (dv 2 (jJ [(bB 0),(bB 1)]) (fU (e2 aE (b7 df (ae (aa 0) (ae (aa 1) aj))) (aa 2))) J (kB (ae (aa 0) (ae (PZ (e2 aE (aa 2) (aa 0)) (Y (aa 1)) J) aj)))) aj))))
def iR:Sx :=
  (ar (bg 3 (e2 oMod (e2 cu (e2 cu (e2 ie (aa 3) (Q3 69621)) (e2 ie (Q3 7) (aa 5))) (Q3 1)) (Q3 2147483647)))
  (ar (bg 6 (e2 oMod (e2 ie (aa 3) (aa 3)) (Q3 2147483629)))
  (bg 4 (e2 cu (e2 ie (aa 4) (Q3 999983)) (e2 oMod (e2 ie (aa 6) (e2 cu (e2 oMod (aa 6) (Q3 65521)) (Q3 3))) (Q3 999983))))))
def ed:Fn:=fn 2 7
  (ar (bg 2 (e2 cu (e2 ie (aa 1) (Q3 7919)) (Q3 104729)))
  (ar (LN (e2 OK (eN cq (ae (aa 0) aj)) (Q3 0)) (bg 2 (e2 cu (e2 aE (aa 0) (e2 oMod (aa 1) (eN cq (ae (aa 0) aj)))) (e2 ie (e2 lM (aa 1) (eN cq (ae (aa 0) aj))) (Q3 48271)))) eI)
  (ar (LN (e2 oEq (e2 oMod (aa 2) (Q3 2)) (Q3 0)) (fR (dN (ae (e2 lM (aa 2) (Q3 2)) aj))) eI)
  (ar (bg 3 (e2 oMod (e2 cu (e2 lM (aa 2) (Q3 2)) (e2 ie (Q3 40503) (aa 1))) (Q3 2147483629)))
  (ar (bg 4 (Q3 0))
  (ar (iV (bB 5) (eu (Q3 24)) iR)
  (fR (dN (ae (aa 4) aj)))))))))
def aC:Ut->Option (Ut×T):=OQ 2 3 [B]
  (ar (bg 2 (e2 oMod (e2 aE (Uh (aa 0)) (Q3 0)) (aa 1)))
  (ar (fC 0 [.un] (Q3 0) (e2 lM (e2 aE (Uh (aa 0)) (Q3 0)) (aa 1)))
  (fM 2)))
def eO:Ut->Option (Ut×T):=OQ 3 3 [B,B]
  (mJ (EZ [] (tD (br [(.io 0 M),(.px (xI (e2 cu (aa 2) (Q3 1))))] aC) (x2 aE (xI (aa 2)) (br [(.io 1 M),(.px (xI (eN cq (ae (aa 2) aj))))] aC)))))
def gM:Ut->Option (Ut×T):=OQ 1 5 []
  (ar (bg 1 (eC (.str [97,98,99,100,101,102,103,104,105,106,107,108,109,110,111,112,113,114,115,116,117,118,119,120,121,122])))
  (ar (eJ 2 (mD (dN (ae (Q3 2) (ae (Q3 1) (ae (Q3 3) (ae (Q3 2) (ae (Q3 4) (ae (Q3 2) (ae (Q3 3) (ae (Q3 26) aj))))))))) (br [(.io 0 M),(.px (xI (Q3 8)))] aC)))
  (ar (eJ 3 (br [(.io 0 M),(.px (xI (Q3 26)))] aC))
  (ar (eJ 4 (mD (dN (ae (Q3 1) (ae (Q3 3) (ae (Q3 25) (ae (Q3 7) aj))))) (br [(.io 0 M),(.px (xI (Q3 4)))] aC)))
  (fR (eM lK (eC (.str [])) (ae (dv 1 (bB 0) (eu (aa 2)) J (e2 aE (aa 2) (e2 oMod (e2 cu (aa 4) (e2 ie (aa 5) (aa 0))) (Q3 26)))) aj)))))))
def g9:Sx :=
  (ar (eJ 5 (br [(.io 0 M),(.px (xI (aa 1))),(.px (mD (dN (ae (Q3 6) (ae (Q3 3) (ae (Q3 10) (ae (Q3 8) aj))))) (br [(.io 0 M),(.px (xI (Q3 4)))] aC)))] eO))
  (ar (ub (jO (e2 OK (aa 4) (Q3 0)) (Pd (x2 oEq (br [(.io 0 M),(.px (xI (Q3 4)))] aC) (xI (Q3 1))))) (ar (eJ 6 (uH 3 (br [(.io 0 M),(.px (xI (aa 4)))] aC)))
  (eJ 5 (SU (x2 cu (SU (xI (aa 6)) (Y (br [(.io 0 M),(.px (xI (e2 cu (eN cq (ae (aa 6) aj)) (Q3 1))))] aC)) J) (xI (aa 5))) J (Y (xI (Q3 14)))))) eI)
  (sX (pK 3 [] aJ (ae (aa 5) aj)))))
def iJ:Ut->Option (Ut×T):=OQ 2 7 [B]
  (ar (eJ 2 (mD (dN (ae (Q3 2) (ae (Q3 1) (ae (Q3 3) (ae (Q3 2) (ae (Q3 4) (ae (Q3 0) (ae (Q3 1) (ae (Q3 8) aj))))))))) (br [(.io 0 M),(.px (xI (Q3 8)))] aC)))
  (ar (kc 3 (dN aj))
  (ar (iV (bB 4) (eu (aa 2)) g9)
  (ar (ub (jO (iA oLt oLt (Q3 0) (aa 2) (Q3 3)) (Pd (x2 oEq (br [(.io 0 M),(.px (xI (Q3 6)))] aC) (xI (Q3 1))))) (ly 3 [] (Q3 0) (x2 wZ (x2 cu (x2 cu (xI (e2 aE (aa 3) (Q3 0))) (br [(.io 0 M),(.px (xI (aa 1))),(.px (xI (Q3 24)))] eO)) (xI (e2 aE (aa 3) (Q3 (-1))))) (x2 cu (xI (Q3 1)) (br [(.io 0 M),(.px (xI (Q3 2)))] aC)))) eI)
  (fM 3)))))
def gr:Sx :=
  (ar (bg 7 (eN gU (ae (dv 2 (jJ [(bB 0),(bB 1)]) (fU (aa 4)) (Y (e2 oEq (PZ (aa 1) J (Y (Q3 1))) (aa 7))) (kB (ae (aa 0) (ae (PZ (aa 1) (Y (Q3 1)) J) aj)))) aj)))
  (LN (P0 (e2 oEq (aa 7) (dN aj)) (e2 NU (aa 7) (b7 gO (ae (aa 0) (ae (aa 1) (ae (aa 6) aj)))))) (fR (eC (.bl B))) eI))
def gL:Fn:=fn 4 10
  (ar (bg 4 (b7 gO (ae (aa 0) (ae (aa 1) (ae (aa 3) aj)))))
  (ar (LN (P0 (e2 NU (eN cq (ae (aa 4) aj)) (e2 aE (aa 2) (aa 3))) (P0 (e2 NU (eN ng (ae (aa 4) aj)) (eN cq (ae (aa 4) aj))) (e2 NU (aa 4) (eN gU (ae (aa 4) aj))))) (fR (eC (.bl B))) eI)
  (ar (iV (jJ [(bB 5),(bB 6)]) (fU (e2 aE (e2 aE (aa 1) (aa 3)) (Q3 3))) gr)
  (ar (bg 8 (dv 2 (jJ [(bB 0),(bB 1)]) (fU (e2 aE (e2 aE (aa 1) (aa 3)) (Q3 3))) J (aa 0)))
  (ar (LN (e2 NU (dv 2 (jJ [(bB 0),(bB 1)]) (fU (aa 4)) (Y (l5 (e2 NU (aa 1) (eC (.str []))) (e2 cN (e2 aE (aa 1) (Q3 0)) (aa 10)))) (aa 1)) (dN aj)) (fR (eC (.bl B))) eI)
  (ar (bg 9 (e2 aE (e2 aE (aa 1) (aa 3)) (Q3 2)))
  (ar (LN (HH (aa 9)) (fR (eC (.bl M))) eI)
  (ar (bg 7 (b7 gO (ae (aa 0) (ae (aa 1) (ae (aa 9) aj)))))
  (fR (e2 oEq (dv 1 (bB 0) (fU (aa 4)) (Y (e2 iB (aa 0) (aa 8))) (aa 0)) (dN aj)))))))))))
def sT:Sx :=
  (bg 5 (e2 cu (aa 5) (dv 1 (bB 0) (eu (e2 cu (eN cq (ae (e2 aE (aa 2) (aa 6)) aj)) (Q3 1))) J (kB (ae (aa 7) (ae (PZ (e2 aE (aa 3) (aa 7)) (Y (aa 0)) J) aj))))))
def u4:Sx :=
  (ub (EH (Pd (qI (ae (aa 2) (ae (aa 3) (ae (aa 4) aj))) (br [(.io 7 B),(.px (xI (eN cq (ae (aa 3) aj))))] aC) gL))) (fR (eC (.bl B))) eI)
def BF:Fn:=fn 1 9
  (ar (kc 1 (b7 ed (ae (aa 0) (ae (Q3 0) aj))))
  (ar (sW 2 (br [(.io 1 B),(.px (br [(.io 1 B)] gM))] iJ))
  (ar (yA 2)
  (ar (yA 1)
  (ar (bg 3 (fN 1 bZ (eNew 1 aZ (ae (aa 2) aj)) aj))
  (ar (bg 4 (b7 kX (ae (aa 2) (ae (aa 3) aj))))
  (ar (bg 5 (dN aj))
  (ar (iV (bB 6) (eu (eN cq (ae (aa 2) aj))) sT)
  (ar (LN (e2 NU (b7 gO (ae (aa 2) (ae (aa 3) (ae (Q3 0) aj)))) (eN gU (ae (aa 5) aj))) (fR (eC (.bl B))) eI)
  (ar (kc 7 (b7 ed (ae (aa 0) (ae (Q3 1) aj))))
  (ar (iV (bB 8) (eu (Q3 6)) u4)
  (ar (yA 7)
  (fR (eC (.bl M)))))))))))))))
end
end T48
end
section
namespace VS
def e2v{f:Val->Val->Uu}{a b:Ex}{U:Env}{x y z:Val}(g:a U=Y x)(e:b U=Y y)(d:f x y=Y z):e2 f a b U=Y z:=by
 show (a U).bind _=_;rw[g,Zu,e];exact d
def xv{r:Kx}{x:Val}(e:a U=Y x)(d:r U=Y b):ae a r U=Y (x :: b):=by
 show (a U).bind _=_;rw[e,Zu,d];rfl
def rG{b:Sx}{m:Md}(h:c U=Y (m,.bl M)):LN c a b U=a U:=by
 show (c U).bind _=_;rw[h];rfl
def mU{m:Md}(h:c U=Y (m,.bl B)):LN c a b U=b U:=by
 show (c U).bind _=_;rw[h];rfl
def gF(h:a U=Y b)(d:f b=Y v):eN f a U=Y v:=by
 show (a U).bind f=_;rw[h,Zu,d]
def fG{e:Ex}{U:Env}{t:T}(h:e U=Y (.fr,t)):fR e U=Y (.rt (.fr,t) U):=by
 show (e U).bind _=_;rw[h];rfl
def kD(h:a U=Y (.rt v d)):ar a b U=Y (.rt v d):=by
 show (a U).bind _=_;rw[h];rfl
def aq{a b:Sx}{U U1:Env}(h:a U=Y (.nx U1)):ar a b U=b U1:=by
 show (a U).bind _=_;rw[h];rfl
def sq{U1:Env}(h:a U=Y (.nx U1))(q:b U1=r):ar a b U=r:=(aq h).trans q
def ift(h:c U=Y (m,.bl M))(q:a U=r):LN c a b U=r:=(rG h).trans q
def yV{m:Md}{r:Option Out}(h:c U=Y (m,.bl B))(q:b U=r):LN c a b U=r:=(mU h).trans q
def gP{a:Ut}{U:Env}(f:a.length=d)(h:b (a.map (λt=>Y (.pu t))++List.replicate (e-d) J)=Y (.rt v U)):fn d e b a=Y v:=by
 unfold fn;rw[Zp f,h];rfl
def Fd{a:Ut}{U:Env}(f:a.length=d)(h:b (a.map (λt=>Y (.pu t))++List.replicate (e-d) J)=Y (.nx U)):fn d e b a=Y (.fr,.non):=by
 unfold fn;rw[Zp f,h];rfl
def vR(f:a U=Y (m,.bl x))(e:x=M->b U=Y v)(d:x=B->v=(.fr,.bl B)):l5 a b U=Y v:=by
 show (a U).bind _=_;rw[f,Zu];cases x with
 |true=>exact e L
 |false=>exact congrArg Y (d L).symm
def AQ{m:Md}{x:Bool}(f:a U=Y (m,.bl x))(e:x=B->b U=Y v)(d:x=M->v=(.fr,.bl M)):P0 a b U=Y v:=by
 show (a U).bind _=_;rw[f,Zu];cases x with
 |false=>exact e L
 |true=>exact congrArg Y (d L).symm
def or2{m n:Md}{x y:Bool}(f:a U=Y (m,.bl x))(d:b U=Y (.fr,.bl y)):P0 a b U=Y (.fr,.bl (x||y)):=AQ f (λe=>by rw[e];exact d) (λe=>by rw[e];rfl)
def rq{m:Md}{b:Bool}(h:a U=Y (m,.bl b)):rQ a U=Y (.fr,.bl (!b)):=by
 show (a U).bind _=_;rw[h];rfl
def nJ{x y z:Val}(j:a U=Y x)(i:b U=Y y)(h:f x y=Y (.fr,.bl M))(e:c U=Y z)(d:g y z=Y v):iA f g a b c U=Y v:=by
 show (a U).bind _=_;rw[j,Zu,i,Zu,h,Zu];rw[e];exact d
def C0{x y:Val}(h:a U=Y x)(e:b U=Y y)(d:f x y=Y (.fr,.bl B)):iA f g a b c U=Y (.fr,.bl B):=by
 show (a U).bind _=_;rw[h,Zu,e,Zu,d];rfl
def xM{n:Nat}{i:Int}(b:0<=i)(a:i<n):Ll n i=Y i.toNat:=by rw[Ll,Zp b,Zp a]
def vN(a:i<n):Ll n (i:Int)=Y i:=by
 rw[Ll,Zp (WD i),Zp (Int.ofNat_lt.mpr a)];rfl
def DA(l:Uy)(i:Int)(b:0<=i)(a:i<l.length):aE (m,.scr l) (n,.int i)=Y (.fr,.int (l.getD i.toNat 0)):=by
 show (Ll l.length i).bind _=_;rw[xM b a,Zu,Zt,Zq (by lia)];rfl
def vD(t:Tx)(i:Int)(b:0<=i)(a:i<t.length):aE (m,.str t) (n,.int i)=Y (.fr,.str [t.getD i.toNat 0]):=by
 show (Ll t.length i).bind _=_;rw[xM b a,Zu,Zt,Zq (by lia)];rfl
def oQ{m n:Md}(e:LW 60 a=M)(d:LW 60 b=M)(h:eqT a b=r):oEq (m,a) (n,b)=Y (.fr,.bl r):=by
 show (if LW 60 a/\LW 60 b then Y (Md.fr,T.bl (eqT a b)) else J)=_;rw[Zp ⟨e,d⟩,h]
def xD{m:Md}(e:LW 60 a=M)(d:LW 60 b=M)(h:eqT a b=r):NU (m,a) (n,b)=Y (.fr,.bl (!r)):=by
 show (if LW 60 a/\LW 60 b then Y (Md.fr,T.bl (!eqT a b)) else J)=_;rw[Zp ⟨e,d⟩,h]
def rh{i:Nat}{e:Ex}{U:Env}(d:U[i]?=Y (Y (.ow (.lst l))))(b:e U=Y (.fr,v))(a:l.length<16777216):sX (pK i [] aJ (ae e aj)) U=Y (.nx (U.set i (Y (.ow (.lst (l++[v])))))):=by
 unfold sX pK;rw[d];show ((Y ([])).bind _ |>.map _)=_;rw[Zu,(xv b L),Zu];show ((aJ (.lst l) [(.fr,v)]).map _ |>.map _)=_;rw[dJ a];rfl
end VS
end
section
namespace T48
open VS AU
noncomputable abbrev pc(t:T):Uw:=Y (.pu t)
abbrev Q0(i:Int):Option Cell:=Y (.pu (.int i))
abbrev Q2(t:Tx):Option Cell:=Y (.pu (.str t))
noncomputable abbrev oc(t:T):Uw:=Y (.ow t)
noncomputable def K6(w:List (Nat×Nat)):T:=.dct 0 (w.map λp=>(T.str [p.1],T.int (p.2:Int)))
noncomputable def KO:Option Nat->T
 |none=>.non
 |some n=>.int (n:Int)
def Nn(S:St):sO:=[(1,.lst (S.lg.map λ(n:Nat)=>T.int (n:Int))),(2,.lst (S.lk.map KO)),(3,.lst (S.wy.map K6))]
def Kf(S:St)(b:Bool):T:=.obj 1 ((0,.bl b) :: Nn S)
def j6(o:Option Nat):Kh (KO o)=M:=by cases o<;>rfl
theorem eV{α:Type}(f:α->T)(h:∀a,fD (f a)=M):∀l:List α,bX (l.map f)=M
 |[]=>rfl
 |a :: l=>by rw[Zm,bX,h a,eV f h l];rfl
def Ba(w:List (Nat×Nat)):fD (K6 w)=M:=by
 show uX (w.map λp=>(T.str [p.1],T.int (p.2:Int)))=M
 induction w with
 |nil=>rfl
 |cons p w a=>rw[Zm,uX,a];rfl
def kF(S:St):ft (Nn S)=M:=by
 have d:fD (.lst (S.lg.map λ(n:Nat)=>T.int (n:Int)))=M:=eV _ (λ_=>rfl) _;have b:fD (.lst (S.lk.map KO))=M:=eV _ (λo=>lQ _ (j6 o)) _;have a:fD (.lst (S.wy.map K6))=M:=eV _ Ba _;show ((fD _ && !(1==0&&RB _))&&((fD _ && !(2==0&&RB _))&&((fD _ && !(3==0&&RB _))&&M)))=M;rw[d,b,a];rfl
def HS(S:St)(b:Bool):qG 1 (Kf S b)=Y (.lst (S.lg.map λ(n:Nat)=>T.int (n:Int))):=rfl
def JV(S:St)(b:Bool):qG 2 (Kf S b)=Y (.lst (S.lk.map KO)):=rfl
def J6(S:St)(b:Bool):qG 3 (Kf S b)=Y (.lst (S.wy.map K6)):=rfl
def hZ{m:Md}{t:T}(h:a U=Y (m,t))(b:qG k t=Y u):bj k a U=Y (sub m u):=by
 unfold bj;rw[h,Zu,b];rfl
def iU{α:Type}{m n:Md}(f:α->T)(l:List α)(i:Nat)(d:α)(h:i<l.length):aE (m,.lst (l.map f)) (n,.int (i:Int))=Y (sub m (f (l.getD i d))):=by
 show (Ll (l.map f).length (i:Int)).bind _=_;rw[Zw,vN h,Zu,ZP,Zq h,Zt,Zq h];rfl
section
def uS{i:Nat}(h:a U=Y (m,Kf S b))(he:e U=Y (n,.int (i:Int)))(d:i<S.lg.length):e2 aE (bj 1 a) e U=Y (.fr,.int ((S.lg.getD i 0:Nat):Int)):=e2v (hZ h (HS S b)) he (iU _ _ i 0 d)
def wY{i:Nat}(h:a U=Y (m,Kf S b))(he:e U=Y (n,.int (i:Int)))(d:i<S.lk.length):e2 aE (bj 2 a) e U=Y (.fr,KO (S.lk.getD i J)):=(e2v (hZ h (JV S b)) he (iU _ _ i J d)).trans (by
 show Y (up _ _)=_;unfold up;rw[j6];rfl)
def pq{i:Nat}(h:a U=Y (m,Kf S b))(he:e U=Y (n,.int (i:Int)))(d:i<S.wy.length):e2 aE (bj 3 a) e U=Y (m,K6 (S.wy.getD i [])):=e2v (hZ h (J6 S b)) he (iU _ _ i [] d)
def GE(h:a U=Y (m,Kf S b)):eN cq (ae (bj 1 a) aj) U=Y (.fr,.int (S.lg.length:Nat)):=gF (xv (hZ h (HS S b)) L) (by
 show Y (Md.fr,T.int (((S.lg.map λ(n:Nat)=>T.int (n:Int)).length:Nat):Int))=_;rw[Zw])
end
def FI(a c:Nat):eqT (.str [a]) (.str [c])=(a==c):=by
 by_cases h:a=c
 ·simp[h]
 ·simp[h]
def rm(w:List (Nat×Nat))(c:Nat):eA (w.map λp=>(T.str [p.1],T.int (p.2:Int))) (.str [c])=(gW w c).map λ(n:Nat)=>T.int (n:Int):=by
 unfold eA gW;rw[List.find?_map];have:((λp:T×T=>eqT p.1 (.str [c])) ∘ λp:Nat×Nat=>(T.str [p.1],T.int (p.2:Int)))=λp:Nat×Nat=>p.1==c:=by
  funext p;exact FI p.1 c
 rw[this];cases w.find? λp=>p.1==c with
 |none=>rfl
 |some p=>rfl
def Ji(w:List (Nat×Nat))(c m:Nat):dput (w.map λp=>(T.str [p.1],T.int (p.2:Int))) (.str [c]) (.int (m:Int))=(pW w c m).map λp=>(T.str [p.1],T.int (p.2:Int)):=by
 have a:(w.map λp=>(T.str [p.1],T.int (p.2:Int))).any (λp=>eqT p.1 (.str [c]))=w.any λp=>p.1==c:=by
  rw[List.any_map];congr 1;funext p;exact FI p.1 c
 unfold dput pW;rw[a];split
 ·rw[LU,LU];apply Xr;intro p _;simp only[Function.comp,FI];split<;>rfl
 ·rw[Yy];rfl
section
def J4(h:a U=Y (m,K6 w))(he:e U=Y (n,.str [c])):e2 mV e a U=Y (.fr,.bl (gW w c).isSome):=e2v he h (by
 show (if M=M then Y (Md.fr,T.bl (eA _ _).isSome) else J)=_;rw[Zp L,rm,Xj])
def EL(h:a U=Y (m,K6 w))(he:e U=Y (n,.str [c])):e2 cN e a U=Y (.fr,.bl (!(gW w c).isSome)):=e2v he h (by
 show (match (if M=M then Y (Md.fr,T.bl (eA (w.map λp=>(T.str [p.1],T.int (p.2:Int))) (.str [c])).isSome) else J) with | some (_,.bl b)=>some (Md.fr,T.bl (!b)) | _=>none)=_;rw[Zp L,rm,Xj])
def yR(h:a U=Y (m,K6 w))(he:e U=Y (n,.str [c]))(d:gW w c=Y v):e2 MD a e U=Y (.fr,.int (v:Int)):=e2v h he (by
 show (if M=M then (eA _ _).map (sub m) else J)=_;rw[Zp L,rm,d];rfl)
def HN(h:a U=Y (m,K6 w))(he:e U=Y (n,.str [c])):e2 yu a e U=Y (.fr,KO (gW w c)):=e2v h he (by
 show (if M=M then Y (match eA (w.map λp=>(T.str [p.1],T.int (p.2:Int))) (.str [c]) with | some t=>sub m t | none=>(.fr,.non)) else none)=_;rw[Zp L,rm];cases gW w c with
 |none=>rfl
 |some v=>rfl)
def Aq{S:St}{v:Nat}(d:i<S.wy.length)(he:e (oc (Kf S b) :: r)=Y (n,.int (i:Int)))(l:ec (oc (Kf S b) :: r)=Y (m,.str [c]))(g:ev (oc (Kf S b) :: r)=Y (k,.int (v:Int)))(f:(S.wy.getD i []).length<16777216) :
  fC 0 [.fld 3,.ix e] ec ev (oc (Kf S b) :: r)=Y (.nx (oc (Kf ⟨S.lg,S.lk,S.wy.set i (pW (S.wy.getD i []) c v)⟩ b) :: r)):=by
 unfold fC;rw[g,Zu];show ((keys [.fld 3,.ix e] (oc (Kf S b) :: r)).bind _)=_;have j:keys [.fld 3,.ix e] (oc (Kf S b) :: r)=Y [.fld 3,.at (.int (i:Int))]:=by
  show ((e _).bind _).map _=_;rw[he];rfl
 rw[j,Zu,l,Zu];have h:pm (lL (m,.str [c]) (k,.int (v:Int))) [.fld 3,.at (.int (i:Int))] (Kf S b)=Y (Kf ⟨S.lg,S.lk,S.wy.set i (pW (S.wy.getD i []) c v)⟩ b,()):=by
  show ((pm (lL (m,.str [c]) (k,.int (v:Int))) [.at (.int (i:Int))] (.lst (S.wy.map K6))).map _)=_;have:pm (lL (m,.str [c]) (k,.int (v:Int))) [.at (.int (i:Int))] (.lst (S.wy.map K6))=Y (.lst ((S.wy.set i (pW (S.wy.getD i []) c v)).map K6),()):=by
   show ((Ll (S.wy.map K6).length (i:Int)).bind _)=_;rw[Zw,vN d,Zu,ZP,Zq d];have e1:S.wy.getD i []=S.wy[i]:=by rw[Zt,Zq d];rfl
   rw[e1]at f ⊢;show ((if M=M/\M=M/\(S.wy[i].map _).length<fI then Y (T.dct 0 (dput _ _ _),()) else J).map _)=_;rw[Zp ⟨rfl,rfl,by rw[Zw];exact f⟩,Ji,Wh];rfl
  rw[this];rfl
 rw[h];rfl
def Aw{S:St}{v:Nat}{r:List (Uw)}(h:i<S.lk.length)(he:e (oc (Kf S b) :: r)=Y (n,.int (i:Int)))(d:ev (oc (Kf S b) :: r)=Y (.fr,.int (v:Int))) :
  fC 0 [.fld 2] e ev (oc (Kf S b) :: r)=Y (.nx (oc (Kf ⟨S.lg,S.lk.set i (Y v),S.wy⟩ b) :: r)):=by
 unfold fC;rw[d,Zu];show ((keys [.fld 2] (oc (Kf S b) :: r)).bind _)=_;have g:keys [.fld 2] (oc (Kf S b) :: r)=Y [.fld 2]:=rfl;rw[g,Zu,he,Zu];have f:pm (lL (n,.int (i:Int)) (.fr,.int (v:Int))) [.fld 2] (Kf S b)=Y (Kf ⟨S.lg,S.lk.set i (Y v),S.wy⟩ b,()):=by
  show ((lL (n,.int (i:Int)) (.fr,.int (v:Int)) (.lst (S.lk.map KO))).map _)=_;have:lL (n,.int (i:Int)) (.fr,.int (v:Int)) (.lst (S.lk.map KO))=Y (.lst ((S.lk.set i (Y v)).map KO),()):=by
   show ((Ll (S.lk.map KO).length (i:Int)).map _)=_;rw[Zw,vN h,Wh];rfl
  rw[this];rfl
 rw[f];rfl
end
end T48
end
section
namespace VS
def wr(a:Bool)(k:Nat)(t:T):T:=if a then PJ k t else t
def QX(l:Ut):List Ia:=l.map λt=>Ia.ex (eC t)
theorem zZ(U:Env):∀l:Ut,pP U (QX l)=Y l
 |[]=>rfl
 |t :: l=>by
  show ((Y (Md.fr,t)).bind λv=>(exV v).bind λt=>(pP U (QX l)).map (t :: ·))=_;rw[zZ U l];rfl
theorem wW(U:Env):∀l:Ut,jv (QX l) [] U=U
 |[]=>rfl
 |t :: l=>wW U l
theorem ET:∀l:Ut,Li (QX l)=[]
 |[]=>rfl
 |t :: l=>ET l
section
def ci{r:List Ia}(d:U[i]?=Y (Y (.ow (wr un k t0))))(e:pP U r=Y l)(w:Li r=[])(n:∀U,jv r [] U=U)(p:pd t0=M)(o:fD t0=M)(q:bX l=M)(v:g (t0 :: l)=Y ([t1],y)) :
  oA (.io i un :: r) g U=Y ((.fr,y),U.set i (Y (.ow (wr un k t1)))):=by
 have e2:pP U (.io i un :: r)=Y (t0 :: l):=by
  show (TC un U[i]?).bind _=_;rw[d];have:TC un (Y (Y (.ow (wr un k t0))))=Y t0:=by
   cases un
   ·show (if pd t0 then Y t0 else J)=_;rw[Zp p]
   ·rfl
  rw[this];rw[e];rfl
 unfold oA;rw[e2,Zu,Zp ⟨ZX.mpr ⟨o,q⟩,by show (i :: Li r).Nodup;rw[w];exact ZY.mpr ⟨(λh=>nomatch h),Yn⟩⟩,v];show Y ((Md.fr,y),jv r [] (U.set i (Y (.ow (pZ un U[i]? t1)))))=_;rw[n,d];cases un<;>rfl
def cx{U:Env}(q:U[i]?=Y (Y c0))(d:lP r U=Y (QX l,U1))(p:U1[i]?=Y (Y (.ow (wr un k t0))))(h:pd t0=M)(e:fD t0=M)(n:bX l=M)(o:g (t0 :: l)=Y ([t1],y)) :
  br (.io i un :: r) g U=Y ((.fr,y),U1.set i (Y (.ow (wr un k t1)))):=by
 have e1:lP (.io i un :: r) U=Y (.io i un :: QX l,U1):=by
  unfold lP;rw[q];rw[d];rfl
 unfold br;rw[e1];exact ci p (zZ U1 l) (ET l) (λU=>wW U l) h e n o
def we(d:x U=Y ((.fr,t),U1))(h:Kh t=M)(e:lP r U1=Y (QX l,U2)):lP (.px x :: r) U=Y (QX (t :: l),U2):=by
 unfold lP;rw[d,Zu,Zp h,e];rfl
def dX(h:c U=Y (m,t))(hi:Kh t=M):xI c U=Y ((.fr,t),U):=by
 unfold xI;rw[h,Zu,Zp hi]
def oK(p:a U=Y ((.fr,s),U1))(o:b U1=Y ((.fr,t),U2))(n:f (.fr,s) (.fr,t)=Y (m,u))(h:Kh s=M)(e:Kh t=M)(d:Kh u=M):x2 f a b U=Y ((.fr,u),U2):=by
 unfold x2;rw[p,Zu,o,Zu,n,Zu,Zp ⟨h,e,d⟩]
def iI(h:x U=Y ((.fr,t),U1))(hi:Kh t=M)(d:j<U1.length):eJ j x U=Y (.nx (U1.set j (Y (.pu t)))):=by
 unfold eJ;rw[h,Zu,Zp ⟨hi,d⟩]
def Dt(h:x U=Y ((.fr,t),U1))(d:Kh t=M):mJ x U=Y (.rt (.fr,t) U1):=by
 unfold mJ;rw[h,Zu,Zp d]
def yj(l:Uy):gE (l.map .int)=M:=by
 induction l with
 |nil=>rfl
 |cons a l d=>exact d
def m9{i:Int}(l:Uy)(h:c U=Y (.fr,.lst (l.map .int)))(e:b U=Y ((.fr,.int i),U1))(n:0<=i)(d:i<l.length):mD c b U=Y ((.fr,.int (l.getD i.toNat 0)),U1):=by
 unfold mD;rw[h,Zu];show (b U).bind _=_;rw[e,Zu];show (Ll (l.map T.int).length i).bind _=_;rw[Zw,xM n d,Zu,ZP,Zq (by omega)];show (if gE (l.map .int)=M/\Kh (T.int (l[i.toNat]'(by omega)))=M then Y ((Md.fr,T.int (l[i.toNat]'(by omega))),U1) else J)=_;rw[Zp ⟨yj l,rfl⟩,Zt,Zq (by omega)];rfl
def D0{U:Env}{n:Nat}{c:Cell}{i:Int}(l:List Tx)(h:U[n]?=Y (Y c))(q:b U=Y ((.fr,.int i),U1))(p:U1[n]?=Y (Y d))(o:jN d=.lst (l.map .str))(v:0<=i)(e:i<l.length):uH n b U=Y ((.fr,.str (l.getD i.toNat [])),U1):=by
 unfold uH;rw[h];rw[q,Zu];rw[p];dsimp only;rw[o];show (Ll (l.map T.str).length i).bind _=_;rw[Zw,xM v e,Zu,ZP,Zq (by omega)];rw[Zt,Zq (by omega)];rfl
def wM{i:Int}(h:x U=Y ((.fr,.int i),U1)):pf (Y x) U=Y (Y i,U1):=by
 show (x U).bind _=_;rw[h];rfl
def E8{lo hi:Option Xx}(h:a U=Y ((.fr,.str w),U1))(e:pf lo U1=Y (p,U2))(d:pf hi U2=Y (q,U3)):SU a lo hi U=Y ((.fr,.str (cut w p q)),U3):=by
 unfold SU;rw[h,Zu];show (pf lo U1).bind _=_;rw[e,Zu];rw[d];rfl
def rZ{e:List Bool}{h n:Ut}{v:Val}(z:h.length+1=o/\e.length=h.length)(A:d ((Y (.ow (PJ 1 t0)) :: List.zipWith jM e (markL 1 e h))++List.replicate (p-o) J)=Y (.rt v U))(q:mH U 0 (M :: e)=Y n)(C:zU n v=M)(w:bX n=M):OQ o p e d (t0 :: h)=Y (n,v.2):=by
 dsimp only[OQ];rw[Zp z,A,Zu];dsimp only;rw[q,Zu,Zp ⟨C,w⟩]
def EY(h:d U=Y (M,U1)):ub d p q U=p U1:=by
 unfold ub;rw[h];rfl
def uz(h:d U=Y (B,U1)):ub d p q U=q U1:=by
 unfold ub;rw[h];rfl
def AG(h:c U=Y (m,.bl B)):jO c d U=Y (B,U):=by
 unfold jO;rw[h];rfl
def Ap(h:c U=Y (m,.bl M)):jO c d U=d U:=by
 unfold jO;rw[h];rfl
def E3{b:Bool}(h:x U=Y ((.fr,.bl b),U1)):Pd x U=Y (b,U1):=by
 unfold Pd;rw[h];rfl
def w6{i j:Int}(e:a U=Y ((.fr,.int i),U1))(d:b U1=Y ((.fr,.int j),U2)):Pd (x2 oEq a b) U=Y (i==j,U2):=E3 (oK e d (oQ L L (by simp only[eqT])) L L L)
def FG{f:Val->Uv->Uu}{x:Val}(p:o U=Y x)(n:e U=Y d)(h:f x d=Y v):eM f o e U=Y v:=by
 unfold eM;rw[p,Zu,n];exact h
def Eo(h:x U=Y ((m,t),U1))(d:j<U1.length):sW j x U=Y (.nx (U1.set j (Y (.ow t)))):=by
 unfold sW;rw[h,Zu,Zp d]
end
end VS
end
section
namespace T48
open VS
abbrev sp(a:Bool)(n:Int):Uw:=oc (wr a 1 (.lst [.int n]))
def GW(n m:Int)(h:0<m/\m<1073741824):aC [.lst [.int n],.int m]=Y ([.lst [.int (n/m)]],.int (n%m)):=by
 have s1:bg 2 (e2 oMod (e2 aE (Uh (aa 0)) (Q3 0)) (aa 1)) [sp M n,Q0 m,J]=Y (.nx [sp M n,Q0 m,Q0 (n%m)]) :=
  aQ (e2v L L (fQ h.1)) (by decide) (by show 2<3;decide)
 exact rZ (v:=(.fr,.int (n%m))) ⟨rfl,rfl⟩ ((aq s1).trans ((aq (by
  unfold fC;rw[e2v (f:=lM) (x:=(.fr,.int n)) (y:=(.fr,.int m)) (U:=[sp M n,Q0 m,Q0 (n%m)]) (a:=e2 aE (Uh (aa 0)) (Q3 0)) (b:=aa 1) L L (ku h)];rfl)).trans L)) L L L
section
variable{n m:Int}
def nx{U:Env}(a:0<m/\m<1073741824)(g:U[i]?=Y (Y c0))(e:x U=Y ((.fr,.int m),U1))(f:U1[i]?=Y (sp un n)):∃d b,0<=d/\d<m/\br [.io i un,.px x] aC U=Y ((.fr,.int d),U1.set i (sp un b)) :=
 ⟨n%m,n/m,XM _ (by lia),Xo _ a.1,cx g (we e L L) f L L L (GW n m a)⟩
end
def vt{i:Int}(h:x (Q0 i :: U)=Y ((.fr,t),c :: a))(f:Kh t=M)(e:iS x r a=Y (b,d)):iS x (i :: r) U=Y (t :: b,d):=by
 unfold iS;rw[h,Zu];show (if Kh t=M then (iS x r a).map _ else _)=_;rw[Zp f,e];rfl
def GH(L:Tx)(a n:Int)(y:0<L.length)(D:L.length<1000)(C:0<=a)(A:a<1000):∃(b:Int)(t:Tx),eO [.lst [.int n],.str L,.int a]=Y ([.lst [.int b]],.str t)/\t.length<=a.toNat/\∀c∈t,c∈L:=by
 have loop:∀(r:Uy)(n:Int),∃(b:Int)(s:Tx),iS (x2 aE (xI (aa 2)) (br [(.io 1 M),(.px (xI (eN cq (ae (aa 2) aj))))] aC)) r [sp M n,Q2 L,Q0 a]=Y (s.map λc=>T.str [c],[sp M b,Q2 L,Q0 a])/\s.length=r.length/\∀c∈s,c∈L:=by
  intro r
  induction r with
  |nil=>intro n;exact⟨n,[],rfl,rfl,λ_ h=>nomatch h⟩
  |cons i r q =>
   intro n;obtain⟨d,f,l,p,e⟩:=nx (i:=1) (x:=xI (eN cq (ae (aa 2) aj))) (U:=[Q0 i,sp M n,Q2 L,Q0 a]) (by lia) rfl (dX rfl rfl) rfl;obtain⟨b,s,o,g,j⟩:=q f;have hd:d.toNat<L.length:=by lia
   refine⟨b,L.getD d.toNat 0 :: s,vt (oK (dX rfl rfl) e (vD L d l p) rfl rfl rfl) rfl o,by rw[Zf,Zf,g],λc w=>?_⟩;rcases Zi.mp w with rfl | h
   ·rw[Zt,Zq hd];exact Yu hd
   ·exact j c h
 obtain⟨d,f,l,p,e⟩:=nx (i:=0) (x:=xI (e2 cu (aa 2) (Q3 1))) (U:=[sp M n,Q2 L,Q0 a]) (by lia) rfl (dX rfl rfl) rfl;obtain⟨b,s,o,g,j⟩:=loop (RC 0 d.toNat) f;have u:s.length=d.toNat:=by rw[g];unfold RC;rw[Zw,Ws]
 refine⟨b,s,?_,by lia,j⟩;have v:tD (br [(.io 0 M),(.px (xI (e2 cu (aa 2) (Q3 1))))] aC) (x2 aE (xI (aa 2)) (br [(.io 1 M),(.px (xI (eN cq (ae (aa 2) aj))))] aC)) [sp M n,Q2 L,Q0 a]=Y (s.map λc=>T.str [c],[sp M b,Q2 L,Q0 a]):=by
  unfold tD;rw[e,Zu];show (if 0<=d/\d<1000000 then iS _ (RC 0 d.toNat) _ else J)=_;rw[Zp ⟨l,by lia⟩];exact o
 refine rZ (U:=[sp M b,Q2 L,Q0 a]) ⟨rfl,rfl⟩ (Dt ?_ rfl) rfl rfl rfl;refine(congrArg (λz=>Option.bind z _) v).trans ?_;have:=p5 (m:=.fr) (n:=.fr) (strs_map (λx=>[x]) s) (by rw[fT];lia);rw[fT]at this;show (lK (.fr,.str []) [(.fr,.lst (s.map λc=>T.str [c]))]).map _=_;rw[this];rfl
noncomputable def az:Tx:=[97,98,99,100,101,102,103,104,105,106,107,108,109,110,111,112,113,114,115,116,117,118,119,120,121,122]
def HA:∀c∈az,97<=c/\c<=122:=by decide
def getD_mem'{l:Tx}(h:i<l.length):l.getD i 0∈l:=by
 rw[Zt,Zq h];exact Yu h
def Du(n:Int):∃(r:Int)(s:Tx),gM [.lst [.int n]]=Y ([.lst [.int r]],.str s)/\0<s.length/\s.length<=26/\∀c∈s,97<=c/\c<=122:=by
 obtain⟨d,q,D,C,e⟩:=nx (i:=0) (x:=xI (Q3 8)) (U:=[sp M n,Q2 az,J,J,J]) (by decide) L (dX L L) L;have w:∀k,k<8->1<=([2,1,3,2,4,2,3,26]:Uy).getD k 0/\([2,1,3,2,4,2,3,26]:Uy).getD k 0<=26:=by decide
 have f1:=w d.toNat (by lia);have g:=iI (m9 (c:=(dN (ae (Q3 2) (ae (Q3 1) (ae (Q3 3) (ae (Q3 2) (ae (Q3 4) (ae (Q3 2) (ae (Q3 3) (ae (Q3 26) aj)))))))))) ([2,1,3,2,4,2,3,26]) L e D C) L (by show 2<5;decide);generalize ([2,1,3,2,4,2,3,26]:Uy).getD d.toNat 0=MG at f1 g;obtain⟨a,p,O,N,e3⟩:=nx (i:=0) (x:=xI (Q3 26)) (U:=[sp M q,Q2 az,Q0 MG,J,J]) (by decide) L (dX L L) L;obtain⟨o,h,G,F,A⟩:=nx (i:=0) (x:=xI (Q3 4)) (U:=[sp M p,Q2 az,Q0 MG,Q0 a,J]) (by decide) L (dX L L) L;have f:=iI (m9 (c:=(dN (ae (Q3 1) (ae (Q3 3) (ae (Q3 25) (ae (Q3 7) aj)))))) ([1,3,25,7]) L A G F) L (by show 4<5;decide);have u:∀k,k<4->0<=([1,3,25,7]:Uy).getD k 0/\([1,3,25,7]:Uy).getD k 0<=26:=by decide
 have z:=u o.toNat (by lia);generalize ([1,3,25,7]:Uy).getD o.toNat 0=st at z f;have E:=dn (k:=1) (tg:=bB 0) (it:=eu (aa 2)) (elt:=e2 aE (aa 2) (e2 oMod (e2 cu (aa 4) (e2 ie (aa 5) (aa 0))) (Q3 26))) (U:=[sp M h,Q2 az,Q0 MG,Q0 a,Q0 st]) (λ(j:Nat)=>T.int (j:Int)) (λj=>T.str [az.getD ((a+st*(j:Int))%26).toNat 0]) (List.range MG.toNat) (by
   rw[eY L (by lia),ig]) L (by rw[MH];lia) λj H=>⟨_,rfl,by
   refine e2v L (e2v (e2v L (e2v L L (ka (by omega))) L) L (fQ (by decide))) (vD az _ (XM _ (by decide)) (Xo _ (by decide)))⟩
 have l:=p5 (m:=.fr) (n:=.fr) (strs_map (λ(j:Nat)=>[az.getD ((a+st*(j:Int))%26).toNat 0]) (List.range MG.toNat)) (by rw[show (List.range MG.toNat).map (λ(j:Nat)=>[az.getD ((a+st*(j:Int))%26).toNat 0])=((List.range MG.toNat).map λ(j:Nat)=>az.getD ((a+st*(j:Int))%26).toNat 0).map (λx=>[x]) from by rw[LU];rfl,fT,Zw,MH];lia);rw[show (List.range MG.toNat).map (λ(j:Nat)=>[az.getD ((a+st*(j:Int))%26).toNat 0])=((List.range MG.toNat).map λ(j:Nat)=>az.getD ((a+st*(j:Int))%26).toNat 0).map (λx=>[x]) from by rw[LU];rfl,fT]at l;refine⟨h,(List.range MG.toNat).map λ(j:Nat)=>az.getD ((a+st*(j:Int))%26).toNat 0,rZ (v:=(.fr,.str _)) ⟨rfl,rfl⟩ ((aq L).trans ((aq g).trans ((aq (iI e3 L (by show 3<5;decide))).trans ((aq f).trans (fG ?_))))) L L L,by rw[Zw,MH];lia,by rw[Zw,MH];lia,λc y=>?_⟩
 ·exact FG L (xv E L) l
 ·obtain⟨j,_,rfl⟩:=ZC.mp y;have:=XM (a+st*(j:Int)) (b:=26) (by decide);have:=Xo (a+st*(j:Int)) (b:=26) (by decide);exact HA _ (getD_mem' (by show _<26;lia))
theorem ko{β:Type}{tg:Tg}{body:Sx}(g:β->T)(Inv:List β->Env->Prop)(h:∀t r U,Inv (t :: r) U->∃f a,tg (g t) U=Y f/\body f=Y (.nx a)/\Inv r a):∀(l:List β)(U:Env),Inv l U->∃b,forL tg body (l.map g) U=Y (.nx b)/\Inv [] b
 |[],U,e=>⟨U,rfl,e⟩
 |t :: l,U,e=>by
  obtain⟨f,a,e1,e2,i⟩:=h t l U e;obtain⟨b,e3,d⟩:=ko g Inv h l a i;exact⟨b,(eD e1 e2).trans e3,d⟩
noncomputable def Az(t:Tx):Prop:=∀c∈t,97<=c/\c<=122
abbrev EB(n:Int)(L:Tx)(a:Int)(f:List Tx)(e d b:Uw):Env:=[sp M n,Q2 L,Q0 a,oc (.lst (f.map .str)),e,d,b]
section
variable{L:Tx}{many:Int}
def Sr(n m:Int)(b:0<m/\m<1073741824){c:Ex}(e:c (EB n L many bk z4 z5 z6)=Y (.fr,.int m)):∃d a,0<=d/\d<m/\br [.io 0 M,.px (xI c)] aC (EB n L many bk z4 z5 z6)=Y ((.fr,.int d),EB a L many bk z4 z5 z6) :=
 nx b rfl (dX e rfl) rfl
def Sk(g:0<L.length/\L.length<=26/\Az L)(n d a:Int)(f:0<=a/\a<1000){x:Xx}(i:x (EB n L many bk z4 z5 z6)=Y ((.fr,.int a),EB d L many bk z4 z5 z6)):∃(b:Int)(t:Tx),t.length<=a.toNat/\Az t/\br [.io 0 M,.px (xI (aa 1)),.px x] eO (EB n L many bk z4 z5 z6)=Y ((.fr,.str t),EB b L many bk z4 z5 z6):=by
 obtain⟨b,t,e,m,j⟩:=GH L a d g.1 (by lia) f.1 f.2;exact⟨b,t,m,λc h=>g.2.2 c (j c h),cx (r:=[.px (xI (aa 1)),.px x]) (l:=[.str L,.int a]) rfl (we (dX rfl rfl) rfl (we i rfl rfl)) rfl rfl rfl rfl e⟩
end
def zm(h:Az t):Az (cut t p q):=λc a=>h c (Ct t p q a)
def vy(h:Az s)(g:Az t):Az (s++t):=λc a=>(Zc.mp a).elim (h c) (g c)
def zX(t:Tx)(k:Nat):(cut t J (Y (k:Int))).length<=k:=by
 rw[zC];exact List.length_take_le _ _
def CK:∀k,k<8->0<=([2,1,3,2,4,0,1,8]:Uy).getD k 0/\([2,1,3,2,4,0,1,8]:Uy).getD k 0<=8:=by decide
def El:∀k,k<4->0<=([6,3,10,8]:Uy).getD k 0/\([6,3,10,8]:Uy).getD k 0<=10:=by decide
def lU{l:List Tx}{i:Nat}(h:i<l.length):l.getD i []∈l:=by
 rw[Zt,Zq h];exact Yu h
def yn{L:Tx}(U:0<L.length/\L.length<=26/\Az L){h:Int}(S:∀t∈bk,t.length<=14/\Az t)(h8:bk.length<8)(n:Int)(G z6:Uw) :
  ∃(l:Int)(t:Tx)(z o:Uw),g9 (EB n L h bk (Q0 (bk.length:Int)) G z6)=Y (.nx (EB l L h (bk++[t]) (Q0 (bk.length:Int)) z o))/\t.length<=14/\Az t:=by
 obtain⟨d,Q,d0,d1,e⟩:=Sr (bk:=bk) n 4 (by decide) (c:=Q3 4) rfl;have g:=El d.toNat (by lia);obtain⟨w,t,ht,y,Mb⟩:=Sk U n Q _ ⟨g.1,by lia⟩ (m9 (c:=dN (ae (Q3 6) (ae (Q3 3) (ae (Q3 10) (ae (Q3 8) aj))))) ([6,3,10,8]) rfl e d0 d1);have r:t.length<=14:=by lia
 have s1:=iI Mb rfl (by show 5<7;decide);have fin:∀(l:Int)(t:Tx)(o:Uw),t.length<=14->Az t->∃(x:Int)(u:Tx)(z p:Uw),sX (pK 3 [] aJ (ae (aa 5) aj)) (EB l L h bk (Q0 (bk.length:Int)) (Q2 t) o)=Y (.nx (EB x L h (bk++[u]) (Q0 (bk.length:Int)) z p))/\u.length<=14/\Az u:=λl t o Z X=>by
  refine⟨l,t,Q2 t,o,?_,Z,X⟩;rw[rh rfl rfl (by rw[Zw];lia)];show Y (Out.nx [sp M l,Q2 L,Q0 h,oc (.lst (bk.map T.str++[.str t])),Q0 (bk.length:Int),Q2 t,o])=_;rw[show bk.map T.str++[.str t]=(bk++[t]).map T.str from by rw[Yy];rfl]
 by_cases hk:bk.length=0
 ·obtain⟨q,t3,a,b,f1,f2⟩:=fin w t z6 r y;refine⟨q,t3,a,b,(aq s1).trans ((aq ((uz (AG (m:=.fr) ?_)).trans rfl)).trans f1),f2⟩;refine e2v rfl rfl ?_;show Y (Md.fr,T.bl (decide ((0:Int)<(bk.length:Int))))=_;rw[ZS (by lia)]
 ·obtain⟨F,q,a0,a1,e3⟩:=Sr (z6:=z6) w 4 (by decide) (c:=Q3 4) rfl;have tt:jO (e2 OK (aa 4) (Q3 0)) (Pd (x2 oEq (br [(.io 0 M),(.px (xI (Q3 4)))] aC) (xI (Q3 1)))) (EB w L h bk (Q0 (bk.length:Int)) (Q2 t) z6)=Y (F==1,EB q L h bk (Q0 (bk.length:Int)) (Q2 t) z6):=by
   refine(Ap (m:=.fr) ?_).trans (w6 e3 (dX rfl rfl));refine e2v rfl rfl ?_;show Y (Md.fr,T.bl (decide ((0:Int)<(bk.length:Int))))=_;rw[decide_eq_true (by lia)]
  cases hd:(F==1) with
  |false =>
   rw[hd]at tt;obtain⟨s,t3,a,b,f1,f2⟩:=fin q t z6 r y;exact⟨s,t3,a,b,(aq s1).trans ((aq ((uz tt).trans rfl)).trans f1),f2⟩
  |true =>
   rw[hd]at tt;obtain⟨E,s,b0,b1,e4⟩:=Sr (z4:=Q0 (bk.length:Int)) q (bk.length:Int) (by lia) (c:=aa 4) rfl;have A:=iI (D0 (n:=3) bk rfl e4 rfl rfl b0 b1) rfl (by show 6<7;decide);have C:=S _ (lU (i:=E.toNat) (by lia));generalize bk.getD E.toNat []=old at A C;obtain⟨D,v,_,_,e5⟩:=Sr (z6:=Q2 old) s ((old.length:Int)+1) (by lia) (c:=e2 cu (eN cq (ae (aa 6) aj)) (Q3 1)) rfl;have R:=FF old (Y D) J;have O:xI (aa 6) (EB s L h bk (Q0 (bk.length:Int)) (Q2 t) (Q2 old))=Y ((.fr,.str old),_):=dX rfl rfl;have N:xI (aa 5) (EB v L h bk (Q0 (bk.length:Int)) (Q2 t) (Q2 old))=Y ((.fr,.str t),_):=dX rfl rfl;have H:xI (Q3 14) (EB v L h bk (Q0 (bk.length:Int)) (Q2 t) (Q2 old))=Y ((.fr,.int 14),_):=dX rfl rfl;obtain⟨P,t3,a,b,f1,f2⟩:=fin v (cut (cut old (Y D) J++t) J (Y 14)) (Q2 old) (zX _ 14) (zm (vy (zm C.2) y));exact⟨P,t3,a,b,(aq s1).trans ((aq ((EY tt).trans ((aq A).trans (iI (j:=5) (E8 (oK (f:=cu) (E8 (hi:=J) O (wM e5) rfl) N (kz (by lia)) rfl rfl rfl) (lo:=J) rfl (wM H)) rfl (by show 5<7;decide))))).trans f1),f2⟩
def Gf{b:List Tx}(h:∀t∈b,t.length<=14):(b.map List.length).sum<=14*b.length:=by
 induction b with
 |nil=>exact Zn _
 |cons a l d =>
  have:=d λt e=>h t (Zx _ e);have:=h a Zv;rw[Zm,Xf,Zf];lia
def zf(n:Int)(a:List Tx):zU [.lst [.int n]] (.fr,.lst (a.map .str))=M:=by
 unfold zU;rw[Bool.or_eq_true];refine .inr ?_;show (a.map T.str).all zE=M;rw[V0];exact Mz.mpr λ_ _=>rfl
def AB(l:List Tx)(h:0<l.length):aE (m,.lst (l.map .str)) (n,.int (-1))=Y (.fr,.str (l.getD (l.length-1) [])):=by
 show ((Ll (l.map T.str).length (-1)).bind _)=_;have:Ll (l.map T.str).length (-1)=Y (l.length-1):=by
  unfold Ll;rw[Zw,Zo (by decide),Zp (by lia)];congr 1;lia
 rw[this,Zu,ZP,Zt,Zq (by omega)];rfl
theorem wF(w:Tx):∀k,(List.replicate k w).flatten.length=k*w.length
 |0=>by rw[Nat.zero_mul];rfl
 |k+1=>by rw[X9,ZG,Zs,wF w k,Nat.succ_mul,WK]
def G9{L:Tx}(hL:0<L.length/\L.length<=26/\Az L)(n:Int):∃(E:Int)(bk:List Tx),iJ [.lst [.int n],.str L]=Y ([.lst [.int E]],.lst (bk.map .str))/\bk.length<=8/\(bk.map List.length).sum<=120/\∀t∈bk,Az t:=by
 obtain⟨d,n1,d0,d1,e⟩:=nx (i:=0) (x:=xI (Q3 8)) (U:=[sp M n,Q2 L,J,J,J,J,J]) (by decide) rfl (dX rfl rfl) rfl;have hf:=CK d.toNat (by lia);have s1:=iI (m9 (c:=(dN (ae (Q3 2) (ae (Q3 1) (ae (Q3 3) (ae (Q3 2) (ae (Q3 4) (ae (Q3 0) (ae (Q3 1) (ae (Q3 8) aj)))))))))) ([2,1,3,2,4,0,1,8]) rfl e d0 d1) rfl (by show 2<7;decide);generalize ([2,1,3,2,4,0,1,8]:Uy).getD d.toNat 0=many at hf s1;obtain⟨U',f1,C,bk,o,l,g,rfl,_,hb,hlen⟩:=ko (tg:=bB 4) (λ(k:Nat)=>T.int (k:Int)) (λr U=>∃(n:Int)(bk:List Tx)(o l g:Uw),U=EB n L many bk o l g/\r=List.range' bk.length r.length/\(∀t∈bk,t.length<=14/\Az t)/\bk.length+r.length=many.toNat) (by
  rintro k r _ ⟨n,bk,o,l,g,rfl,hr,hb,hl⟩;rw[Zf]at hl;rw[Zf,Vw]at hr;obtain⟨rfl,H⟩:=W8 hr;obtain⟨E,t,Rj,Qy,e,h1,h2⟩:=yn hL hb (by lia) n l g;refine⟨EB n L many bk (Q0 (bk.length:Int)) l g,_,rfl,e,E,bk++[t],_,Rj,Qy,rfl,by rw[Zs];exact H,λu G=>?_,by rw[Zs,NN];lia⟩;rcases Zc.mp G with h | h
  ·exact hb u h
  ·rw[ZZ.mp h];exact⟨h1,h2⟩) (List.range many.toNat) (EB n1 L many [] J J J) ⟨n1,[],J,J,J,rfl,by rw[MH];exact Vd,(λ_ h=>nomatch h),by rw[MH];exact YJ _⟩
 have TQ:bk.length=many.toNat:=hlen;have fin:∀{q:Int}{Ur:List Tx}(b:Sx),b (EB C L many bk o l g)=Y (.nx (EB q L many Ur o l g))->OQ 2 7 [false] (ar (eJ 2 (mD (dN (ae (Q3 2) (ae (Q3 1) (ae (Q3 3) (ae (Q3 2) (ae (Q3 4) (ae (Q3 0) (ae (Q3 1) (ae (Q3 8) aj))))))))) (br [(.io 0 M),(.px (xI (Q3 8)))] aC))) (ar (kc 3 (dN aj)) (ar (iV (bB 4) (eu (aa 2)) g9) (ar b (fM 3))))) [.lst [.int n],.str L]=Y ([.lst [.int q]],.lst (Ur.map .str)):=λb hb =>
  rZ ⟨rfl,rfl⟩ ((aq s1).trans ((aq rfl).trans ((aq (by
  refine(dG (m:=.fr) ?_ rfl).trans f1;rw[eY (m:=.fr) (j:=many) rfl (by lia),ig])).trans ((aq hb).trans rfl)))) rfl (zf _ _) rfl
 have Ua:bk.length<=8/\(bk.map List.length).sum<=120/\∀t∈bk,Az t:=⟨by lia,by have:=Gf λt p=>(hb t p).1;lia,λt p=>(hb t p).2⟩
 obtain⟨d2,q,a0,a1,e3⟩:=Sr C 6 (by decide) (c:=Q3 6) rfl;by_cases hm:0<many/\many<3
 ·have tt:jO (iA oLt oLt (Q3 0) (aa 2) (Q3 3)) (Pd (x2 oEq (br [(.io 0 M),(.px (xI (Q3 6)))] aC) (xI (Q3 1)))) (EB C L many bk o l g)=Y (d2==1,EB q L many bk o l g):=by
   refine(Ap (m:=.fr) (nJ rfl rfl ?_ rfl ?_)).trans (w6 e3 (dX rfl rfl))
   ·show Y (Md.fr,T.bl (decide ((0:Int)<many)))=_;rw[decide_eq_true hm.1]
   ·show Y (Md.fr,T.bl (decide (many<3)))=_;rw[decide_eq_true hm.2]
  cases hd:(d2==1) with
  |false =>
   rw[hd]at tt;exact⟨q,bk,fin _ ((uz tt).trans rfl),Ua⟩
  |true =>
   rw[hd]at tt;have D:0<bk.length:=by lia
   obtain⟨Z,t,p,hz,e4⟩:=Sk hL q q 24 (by decide) (x:=xI (Q3 24)) (dX rfl rfl);obtain⟨s,X,b0,b1,e5⟩:=Sr Z 2 (by decide) (c:=Q3 2) rfl;have i0:e2 aE (aa 3) (Q3 0) (EB q L many bk o l g)=Y (.fr,.str (bk.getD 0 [])):=e2v rfl rfl (iU T.str bk 0 [] D);have i1:e2 aE (aa 3) (Q3 (-1)) (EB Z L many bk o l g)=Y (.fr,.str (bk.getD (bk.length-1) [])):=e2v rfl rfl (AB bk D);have S:=hb _ (lU D);have R:=hb _ (lU (i:=bk.length-1) (by lia));generalize hA:bk.getD 0 []=A at i0 S;generalize bk.getD (bk.length-1) []=B at i1 R;have Q:=oK (oK (dX i0 rfl) e4 (kz (by lia)) rfl rfl rfl) (dX i1 rfl) (kz (by rw[Zs];lia)) rfl rfl rfl;have xr:=oK (f:=cu) (dX (c:=Q3 1) rfl rfl) e5 rfl rfl rfl rfl;have O:(A++t++B).length<=52:=by rw[Zs,Zs];lia
   have TV:=vy (vy S.2 hz) R.2;generalize A++t++B=w at Q O TV;have P:=oK Q xr (f:=wZ) (by
    show (if w.length*(1+s).toNat<=16777216/\-4611686018427387904<=1+s/\1+s<4611686018427387904 then _ else _)=_;rw[Zp ⟨by
     have:w.length*(1+s).toNat<=52*2:=Nat.mul_le_mul O (by lia);lia,by lia,by lia⟩]) rfl rfl rfl
   have F:(List.replicate (1+s).toNat w).flatten.length<=104:=by
    rw[wF];have:(1+s).toNat*w.length<=2*52:=Nat.mul_le_mul (by lia) O;omega
   have v:Az (List.replicate (1+s).toNat w).flatten:=λc hc=>by
    obtain⟨u,G,LP⟩:=V5.mp hc;rw[(List.mem_replicate.mp G).2]at LP;exact TV c LP
   generalize (List.replicate (1+s).toNat w).flatten=W at P F v;refine⟨X,bk.set 0 W,fin _ ((EY tt).trans ?_),?_⟩
   ·refine(congrArg (λz=>Option.bind z _) P).trans ?_;show ((((Ll (bk.map T.str).length 0).map λj=>(T.lst ((bk.map T.str).set j (.str W)),())).map _))=_;rw[Zw,show Ll bk.length 0=Y 0 from vN D];show Y (Out.nx [sp M X,Q2 L,Q0 many,oc (.lst ((bk.map T.str).set 0 (.str W))),o,l,g])=_;rw[show (bk.map T.str).set 0 (.str W)=(bk.set 0 W).map T.str from by rw[Wh]]
   ·have:bk.length=1\/bk.length=2:=by lia
    rcases this with h | h
    ·obtain⟨a,rfl⟩:=List.length_eq_one_iff.mp h;refine⟨by show 1<=8;decide,by show W.length+0<=120;lia,λt p=>?_⟩;rw[ZZ.mp (p)];exact v
    ·match bk,h with
     |[a,b],_ =>
      have N:=hb b (by simp);refine⟨by show 2<=8;decide,by show W.length+(b.length+0)<=120;lia,λt p=>?_⟩;rcases Zi.mp (p) with rfl | p
      ·exact v
      ·rw[ZZ.mp p];exact N.2
 ·exact⟨C,bk,fin _ ((uz (by
   refine AG (m:=.fr) ?_;by_cases h0:0<many
   ·refine nJ (x:=(.fr,.int 0)) (y:=(.fr,.int many)) (z:=(.fr,.int 3)) rfl rfl ?_ rfl ?_
    ·show Y (Md.fr,T.bl (decide ((0:Int)<many)))=_;rw[decide_eq_true h0]
    ·show Y (Md.fr,T.bl (decide (many<3)))=_;rw[ZS (by lia)]
   ·refine C0 (x:=(.fr,.int 0)) (y:=(.fr,.int many)) rfl rfl ?_;show Y (Md.fr,T.bl (decide ((0:Int)<many)))=_;rw[ZS h0])).trans rfl),Ua⟩
noncomputable abbrev s1(c:Nat):T:=.str [c]
def eq_int{i:Int}(k:Int)(h:a U=Y (m,.int i)):e2 oEq a (Q3 k) U=Y (.fr,.bl (i==k)):=e2v h L (oQ L L (by simp only[eqT]))
def mul_r{i j:Int}(h:-18446744073709551616<j/\j<18446744073709551616):ie (m,.int i) (n,.int j)=Y (.fr,.int (i*j)):=Zp (.inr h)
def uV(d:Uy)(R:d.length<=63)(k:Nat)(N:k<1000):∃n,ed [.scr d,.int k]=Y (.fr,.lst [.int n]):=by
 have s1:bg 2 (e2 cu (e2 ie (aa 1) (Q3 7919)) (Q3 104729)) [pc (.scr d),Q0 k,J,J,J,J,J]=Y (.nx [pc (.scr d),Q0 k,Q0 ((k:Int)*7919+104729),J,J,J,J]) :=
  aQ (e2v (e2v L L (ka (by lia))) L L) (by decide) (by show 2<7;decide)
 have o:∃c,LN (e2 OK (eN cq (ae (aa 0) aj)) (Q3 0)) (bg 2 (e2 cu (e2 aE (aa 0) (e2 oMod (aa 1) (eN cq (ae (aa 0) aj)))) (e2 ie (e2 lM (aa 1) (eN cq (ae (aa 0) aj))) (Q3 48271)))) eI [pc (.scr d),Q0 k,Q0 ((k:Int)*7919+104729),J,J,J,J]=Y (.nx [pc (.scr d),Q0 k,Q0 c,J,J,J,J]):=by
  have A:e2 OK (eN cq (ae (aa 0) aj)) (Q3 0) [pc (.scr d),Q0 k,Q0 ((k:Int)*7919+104729),J,J,J,J]=Y (.fr,.bl (decide ((0:Int)<(d.length:Int)))):=e2v L L L;by_cases h:0<d.length
  ·exact⟨_,(rG (A.trans (by rw[decide_eq_true (by lia)]))).trans (aQ (e2v (e2v L (e2v L L (fQ (by lia))) (DA d _ (XM (k:Int) (b:=(d.length:Int)) (by lia)) (Xo (k:Int) (b:=(d.length:Int)) (by lia)))) (e2v (e2v L L (ku (by lia))) L (mul_r (by decide))) L) (by decide) (by show 2<7;decide))⟩
  ·exact⟨_,(mU (A.trans (by rw[ZS (by lia)]))).trans L⟩
 obtain⟨c,o⟩:=o;have p:e2 oEq (e2 oMod (aa 2) (Q3 2)) (Q3 0) [pc (.scr d),Q0 k,Q0 c,J,J,J,J]=Y (.fr,.bl (c%2==0)):=eq_int 0 (e2v L L (fQ (by decide)));cases hb:(c%2==0) with
 |true =>
  rw[hb]at p;refine⟨c/2,gP L ((aq s1).trans ((aq o).trans (kD ((rG p).trans (fG ?_)))))⟩;unfold dN;rw[xv (e2v L L (ku (by decide))) L];rfl
 |false =>
  rw[hb]at p;have u:=aQ (U:=[pc (.scr d),Q0 k,Q0 c,J,J,J,J]) (e2v (e2v (f:=cu) (e2v (a:=aa 2) (b:=Q3 2) L L (ku (by decide))) (e2v (a:=Q3 40503) (b:=aa 1) L L (ka (by decide))) L) (b:=Q3 2147483629) L (fQ (by decide))) (by decide) (by show 3<7;decide);have v:=XM (c/2+40503*(k:Int)) (b:=2147483629) (by decide);have E:=Xo (c/2+40503*(k:Int)) (b:=2147483629) (by decide);generalize (c/2+40503*(k:Int))%2147483629=left at u v E;obtain⟨Q,f1,l,n,q,g,rfl,_⟩:=ko (tg:=bB 5) (body:=iR) (λ(j:Nat)=>T.int (j:Int)) (λr U=>∃(l n:Int)(q g:Uw),U=[pc (.scr d),Q0 k,Q0 c,Q0 l,Q0 n,q,g]/\0<=l/\l<2147483647/\∀j∈r,j<24) (by
   rintro j r _ ⟨l,n,q,g,rfl,P,O,s⟩;have D:bg 3 (e2 oMod (e2 cu (e2 cu (e2 ie (aa 3) (Q3 69621)) (e2 ie (Q3 7) (aa 5))) (Q3 1)) (Q3 2147483647)) [pc (.scr d),Q0 k,Q0 c,Q0 l,Q0 n,Q0 (j:Int),g]=Y (.nx [pc (.scr d),Q0 k,Q0 c,Q0 ((l*69621+7*(j:Int)+1)%2147483647),Q0 n,Q0 (j:Int),g]) :=
    aQ (e2v (e2v (e2v (e2v L L (ka (by lia))) (e2v L L (ka (by decide))) L) L L) L (fQ (by decide))) (by decide) (by show 3<7;decide)
   have z:=XM (l*69621+7*(j:Int)+1) (b:=2147483647) (by decide);have w:=Xo (l*69621+7*(j:Int)+1) (b:=2147483647) (by decide);generalize (l*69621+7*(j:Int)+1)%2147483647=e at D z w;have C:bg 6 (e2 oMod (e2 ie (aa 3) (aa 3)) (Q3 2147483629)) [pc (.scr d),Q0 k,Q0 c,Q0 e,Q0 n,Q0 (j:Int),g]=Y (.nx [pc (.scr d),Q0 k,Q0 c,Q0 e,Q0 n,Q0 (j:Int),Q0 (e*e%2147483629)]) :=
    aQ (e2v (e2v L L (ka (by lia))) L (fQ (by decide))) (by decide) (by show 6<7;decide)
   have G:=XM (e*e) (b:=2147483629) (by decide);have F:=Xo (e*e) (b:=2147483629) (by decide);generalize e*e%2147483629=mo at C G F;exact⟨_,_,rfl,(aq D).trans ((aq C).trans (aQ (m:=.fr) (e2v (e2v (x:=(.fr,.int n)) (y:=(.fr,.int 999983)) L L (mul_r (by decide))) (e2v (e2v (x:=(.fr,.int mo)) L (e2v (e2v (x:=(.fr,.int mo)) (y:=(.fr,.int 65521)) L L (fQ (by decide))) (y:=(.fr,.int 3)) L L) (ka (by lia))) (y:=(.fr,.int 999983)) L (fQ (by decide))) L) (by decide) (by show 4<7;decide))),e,_,_,_,rfl,z,w,λi H=>s i (Zx _ H)⟩) (List.range 24) [pc (.scr d),Q0 k,Q0 c,Q0 left,Q0 0,J,J] ⟨left,0,J,J,rfl,v,by lia,λj s=>Yd.mp s⟩
  refine⟨n,gP L ((aq s1).trans ((aq o).trans ((aq ((mU p).trans L)).trans ((aq u).trans ((aq L).trans ((aq (by
   refine(dG (m:=.fr) ?_ L).trans f1;rw[eY (m:=.fr) (j:=24) L (by decide),ig];rfl)).trans (fG ?_)))))))⟩
  rfl
end T48
end
section
namespace T48
open VS AU
def nH{n:Nat}{b:Env}{m:Md}(e:c U=Y (m,.bl M))(d:a U=Y (.nx b)):dM c a (n+1) U=dM c a n b:=by
 show (c U).bind _=_;rw[e];show (if M=M then (a U).bind _ else Y (.nx U))=_;rw[Zp L,d];rfl
def fY(b:c U=Y (m,.bl B)):dM c a (n+1) U=Y (.nx U):=by
 show (c U).bind _=_;rw[b];rfl
def ji{mv:List Bool}{as:Kx}{b:Bool}{r:List (Uw)}(i:as (oc (Kf S b) :: r)=Y a)(l:argsOk mv a=M)(j:bX (trees a)=M)(h:g (Nn S) (trees a)=Y (Nn d,v))(f:Kh v=M) :
  bN 0 [] 0 mv g as (oc (Kf S b) :: r)=Y ((.fr,v),oc (Kf d b) :: r):=by
 show ((Y ([])).bind λe=>(as (oc (Kf S b) :: r)).bind λa=>(pm (mM 0 mv g a) e (Kf S b)).map λz=>(z.2,(oc (Kf S b) :: r).set 0 (oc z.1)))=_;rw[Zu,i,Zu];show ((if 1=0+1/\ft (Nn S)=M/\argsOk mv a=M/\bX (trees a)=M then (g (Nn S) (trees a)).bind λz=>if ft z.1=M/\Kh z.2=M then Y (T.obj 1 ((0,.bl b) :: z.1),(Md.fr,z.2)) else J else J).map _)=_;rw[Zp ⟨rfl,kF S,l,j⟩,h,Zu,Zp ⟨kF d,f⟩];rfl
def FK{e:Ex}{S:St}{b:Bool}{r:List (Uw)}{v:Nat}(h:e (oc (Kf S b) :: r)=Y (.fr,.int (v:Int)))(f:S.lg.length<16777216):sX (iT 0 [.fld 1] aJ (ae e aj)) (oc (Kf S b) :: r)=Y (.nx (oc (Kf ⟨S.lg++[v],S.lk,S.wy⟩ b) :: r)):=by
 show (((Y [Ky.fld 1]).bind λd=>(ae e aj (oc (Kf S b) :: r)).bind λa=>(pm (λx=>aJ x a) d (Kf S b)).map _).map _)=_;rw[Zu,xv h L,Zu];show (((aJ (.lst (S.lg.map λ(n:Nat)=>T.int (n:Int))) [(.fr,.int (v:Int))]).map _).map _ |>.map _)=_;rw[dJ (by rw[Zw];exact f),show (S.lg.map λ(n:Nat)=>T.int (n:Int))++[.int (v:Int)]=(S.lg++[v]).map λ(n:Nat)=>T.int (n:Int) from by rw[Yy];rfl];rfl
def Gb{e:Ex}{S:St}{b:Bool}{r:List (Uw)}{v:Option Nat}(h:e (oc (Kf S b) :: r)=Y (.fr,KO v))(f:S.lk.length<16777216):sX (iT 0 [.fld 2] aJ (ae e aj)) (oc (Kf S b) :: r)=Y (.nx (oc (Kf ⟨S.lg,S.lk++[v],S.wy⟩ b) :: r)):=by
 show (((Y [Ky.fld 2]).bind λd=>(ae e aj (oc (Kf S b) :: r)).bind λa=>(pm (λx=>aJ x a) d (Kf S b)).map _).map _)=_;rw[Zu,xv h L,Zu];show (((aJ (.lst (S.lk.map KO)) [(.fr,KO v)]).map _).map _ |>.map _)=_;rw[dJ (by rw[Zw];exact f),show (S.lk.map KO)++[KO v]=(S.lk++[v]).map KO from by rw[Yy];rfl];rfl
def GM(o:Option Nat):up .pu (KO o)=(.fr,KO o):=by
 unfold up;rw[j6];rfl
def zI(S:St)(l:Nat)(o:Option Nat)(w:List (Nat×Nat))(f:S.lg.length<16777216)(d:S.lk.length<16777216)(a:S.wy.length<16777216):aU (Nn S) [.int (l:Int),KO o,K6 w]=Y (Nn ⟨S.lg++[l],S.lk++[o],S.wy++[w]⟩,.int (S.lg.length:Int)):=by
 have g:=fG (e:=e2 vi (eN cq (ae (bj 1 (aa 0)) aj)) (Q3 1)) (U:=[oc (Kf ⟨S.lg++[l],S.lk++[o],S.wy++[w]⟩ M),Q0 (l:Int),pc (KO o),J]) (e2v (GE L) L (by
  show Y (Md.fr,T.int ((((S.lg++[l]).length:Nat):Int)-1))=_;rw[Zs,NN,show (((S.lg.length+1:Nat)):Int)-1=(S.lg.length:Int) by lia]))
 unfold aU Mm;rw[Zp ⟨rfl,rfl⟩];have body:=(aq (b:=ar (sX (iT 0 [.fld 2] aJ (ae (aa 2) aj))) (ar (rJ 0 [.fld 3] 3) (fR (e2 vi (eN cq (ae (bj 1 (aa 0)) aj)) (Q3 1))))) (FK (S:=S) (b:=M) (r:=[Q0 (l:Int),pc (KO o),oc (K6 w)]) (e:=aa 1) (v:=l) L f)).trans ((aq (Gb (S:=⟨S.lg++[l],S.lk,S.wy⟩) (b:=M) (r:=[Q0 (l:Int),pc (KO o),oc (K6 w)]) (e:=aa 2) (v:=o) (congrArg Y (GM o)) d)).trans ((aq (by
  show ((aJ (.lst (S.wy.map K6)) [(.fr,K6 w)]).map _ |>.map _)=_;rw[dJ (by rw[Zw];exact a),show (S.wy.map K6)++[K6 w]=(S.wy++[w]).map K6 from by rw[Yy];rfl];rfl)).trans g))
 exact congrArg (λz:Option Out=>z.bind _) body
def GQ(x:97<=c/\c<=122):∀(k:Nat)(S b:St)(o:Option Nat),WF S->v<S.lg.length->(∀n,o=Y n->n<S.lg.length)->Qz c a v k S o=Y b->WF b/\b.lg=S.lg/\∃d,∀N,k<N->∀z:Uw,
  dM (l5 (fP (aa 1)) (e2 oEq (e2 yu (e2 aE (bj 3 (aa 0)) (aa 1)) (aa 2)) (aa 3))) cY N [oc (Kf S true),pc (KO o),Q2 ([c]),Q0 (a:Int),z,Q0 (v:Int)] =
   Y (.nx [oc (Kf b true),pc (KO d),Q2 ([c]),Q0 (a:Int),z,Q0 (v:Int)]):=by
 intro k
 induction k with
 |zero =>
  intro S b o W f i e;cases o with
  |none =>
   cases (e);refine⟨W,rfl,J,λN hN z=>?_⟩;obtain⟨N,rfl⟩:∃M,N=M+1:=⟨N-1,by lia⟩
   exact fY L
  |some n=>cases e
 |succ k u =>
  intro S b o W f i e;cases o with
  |none =>
   cases (e);refine⟨W,rfl,J,λN hN z=>?_⟩;obtain⟨N,rfl⟩:∃M,N=M+1:=⟨N-1,by lia⟩
   exact fY L
  |some n =>
   have j:=i n L;have l:n<S.wy.length:=by rw[W.wy];exact j
   have cond:∀z:Uw,l5 (fP (aa 1)) (e2 oEq (e2 yu (e2 aE (bj 3 (aa 0)) (aa 1)) (aa 2)) (aa 3)) [oc (Kf S true),Q0 (n:Int),Q2 ([c]),Q0 (a:Int),z,Q0 (v:Int)]=Y (.fr,.bl (decide (gW (S.wy.getD n []) c=Y a))):=λz=>by
    refine vR L (λ_=>?_) (λh=>by cases h);refine e2v (HN (pq L L l) L) L ?_;cases hg:gW (S.wy.getD n []) c with
    |none=>rw[ZS (by simp)];exact oQ L L L
    |some q =>
     refine(oQ L L (show eqT (.int (q:Int)) (.int (a:Int))=decide (Y q=Y a) from ?_));by_cases h:q=a
     ·subst h;simp
     ·rw[ZS (λz=>h (Zl z))];exact beq_eq_false_iff_ne.mpr (by lia)
   unfold Qz at e;split at e
   ·rename_i g;obtain⟨s,r,d,p⟩:=u _ b (S.lk.getD n J) (W.way (n:=n) (c:=c) (v:=v) f x) f (λm w=>W.up n m w) e;refine⟨s,r,d,λN hN z=>?_⟩;obtain⟨N,rfl⟩:∃M,N=M+1:=⟨N-1,by lia⟩
    refine(nH ((cond z).trans (by rw[decide_eq_true g])) ?_).trans (p N (by exact Wi hN) z);refine(aq (Aq l L L L (W.small n))).trans ?_;exact aQ (wY (S:=⟨S.lg,S.lk,S.wy.set n (pW (S.wy.getD n []) c v)⟩) L L (by rw[W.lk];exact j)) (by decide) (by decide:1<6)
   ·rename_i g;cases e;refine⟨W,rfl,Y n,λN hN z=>?_⟩;obtain⟨N,rfl⟩:∃M,N=M+1:=⟨N-1,by lia⟩
    exact fY ((cond z).trans (by rw[ZS g]))
def G8(w:97<=c/\c<=122):∀(k:Nat)(S a:St)(o b:Option Nat),WF S->v<S.lg.length->(∀n,o=Y n->n<S.lg.length)->up1 c v k S o=Y (a,b)->WF a/\a.lg=S.lg/\(∀n,b=Y n->n<S.lg.length)/\∀N,k<N->∀z:Uw,
  dM (l5 (fP (aa 4)) (e2 cN (aa 2) (e2 aE (bj 3 (aa 0)) (aa 4)))) cJ N [oc (Kf S true),z,Q2 ([c]),Q0 (v:Int),pc (KO o)] =
   Y (.nx [oc (Kf a true),z,Q2 ([c]),Q0 (v:Int),pc (KO b)]):=by
 intro k
 induction k with
 |zero =>
  intro S a o b W d g e;cases o with
  |none =>
   cases (e);refine⟨W,rfl,(λn h=>nomatch h),λN hN z=>?_⟩;obtain⟨N,rfl⟩:∃M,N=M+1:=⟨N-1,by lia⟩
   exact fY L
  |some n=>cases e
 |succ k s =>
  intro S a o b W d g e;cases o with
  |none =>
   cases (e);refine⟨W,rfl,(λn h=>nomatch h),λN hN z=>?_⟩;obtain⟨N,rfl⟩:∃M,N=M+1:=⟨N-1,by lia⟩
   exact fY L
  |some n =>
   have i:=g n L;have j:n<S.wy.length:=by rw[W.wy];exact i
   have cond:∀z:Uw,l5 (fP (aa 4)) (e2 cN (aa 2) (e2 aE (bj 3 (aa 0)) (aa 4))) [oc (Kf S true),z,Q2 ([c]),Q0 (v:Int),Q0 (n:Int)]=Y (.fr,.bl (!(gW (S.wy.getD n []) c).isSome)):=λz =>
    vR L (λ_=>EL (pq L L j) L) (λh=>by cases h)
   unfold up1 at e;split at e
   ·rename_i f;cases e;refine⟨W,rfl,g,λN hN z=>?_⟩;obtain⟨N,rfl⟩:∃M,N=M+1:=⟨N-1,by lia⟩
    exact fY ((cond z).trans (by rw[f];rfl))
   ·rename_i f;obtain⟨r,q,l,p⟩:=s _ a (S.lk.getD n J) b (W.way (n:=n) (c:=c) (v:=v) d w) d (λm u=>W.up n m u) e;refine⟨r,q,l,λN hN z=>?_⟩;obtain⟨N,rfl⟩:∃M,N=M+1:=⟨N-1,by lia⟩
    have x:(gW (S.wy.getD n []) c).isSome=B:=by simpa using f
    refine(nH ((cond z).trans (by rw[x];rfl)) ?_).trans (p N (by exact Wi hN) z);refine(aq (Aq j L L L (W.small n))).trans ?_;exact aQ (wY (S:=⟨S.lg,S.lk,S.wy.set n (pW (S.wy.getD n []) c v)⟩) L L (by rw[W.lk];exact i)) (by decide) (by decide:4<5)
def FV(a b:Nat):oEq (m,.int (a:Int)) (n,.int (b:Int))=Y (.fr,.bl (decide (a=b))):=oQ L L (by
 by_cases h:a=b
 ·subst h;simp
 ·rw[ZS h];exact beq_eq_false_iff_ne.mpr (by lia))
def BI{r:Nat}(W:WF S)(x:Sm S)(j:n<S.lg.length)(y:97<=c/\c<=122)(e:QI S n c=Y (a,r)):WF a/\r<a.lg.length/\S.lg.length<=a.lg.length/\a.lg.length<=S.lg.length+1/\av (Nn S) [.int (n:Int),.str [c]]=Y (Nn a,.int (r:Int)):=by
 obtain⟨old,i,e⟩:=Zz.mp e;have hold:=W.on n c old i;have Kd:old<S.lk.length:=by rw[W.lk];exact hold
 have w:S.lg.length<=100001:=x;unfold av Mm;rw[Zp ⟨rfl,rfl⟩];have s1:=aQ (e:=e2 MD (e2 aE (bj 3 (aa 0)) (aa 1)) (aa 2)) (U:=[oc (Kf S M),Q0 (n:Int),Q2 ([c]),J,J,J]) (yR (pq L L (by rw[W.wy];exact j)) L i) (by decide) (by decide:3<6);have h:=aQ (e:=e2 cu (e2 aE (bj 1 (aa 0)) (aa 1)) (Q3 1)) (U:=[oc (Kf S M),Q0 (n:Int),Q2 ([c]),Q0 (old:Int),J,J]) (e2v (uS L L j) L L) (by decide) (by decide:4<6);have cd:e2 oEq (e2 aE (bj 1 (aa 0)) (aa 3)) (aa 4) [oc (Kf S M),Q0 (n:Int),Q2 ([c]),Q0 (old:Int),Q0 ((S.lg.getD n 0+1:Nat):Int),J]=Y (.fr,.bl (decide (S.lg.getD old 0=S.lg.getD n 0+1))):=e2v (uS L L hold) L (FV _ _);split at e
 ·rename_i g;obtain⟨rfl,rfl⟩:=XA (Zl e);rw[decide_eq_true g]at cd;refine⟨W,hold,Zn _,W0 _,?_⟩;have body:∀b:Sx,ar (bg 3 (e2 MD (e2 aE (bj 3 (aa 0)) (aa 1)) (aa 2))) (ar (bg 4 (e2 cu (e2 aE (bj 1 (aa 0)) (aa 1)) (Q3 1))) (ar (LN (e2 oEq (e2 aE (bj 1 (aa 0)) (aa 3)) (aa 4)) (fM 3) eI) b)) [oc (Kf S M),Q0 (n:Int),Q2 ([c]),J,J,J]=Y (.rt (.fr,.int (old:Int)) [oc (Kf S M),Q0 (n:Int),Q2 ([c]),Q0 (old:Int),Q0 ((S.lg.getD n 0+1:Nat):Int),J]):=λb =>
   (aq s1).trans ((aq h).trans (kD ((rG cd).trans L)))
  exact congrArg (λz:Option Out=>z.bind _) (body _)
 ·rename_i g;rw[ZS g]at cd;obtain⟨F,G,e3⟩:=Zy.mp e;obtain⟨rfl,rfl⟩:=XA e3;have wn:=W.SV old;have E:=W.more (l:=S.lg.getD n 0+1) (λm f=>W.up old m f) (λd m f=>W.on old d m f) wn.1 wn.2;have hlen:(S.lg++[S.lg.getD n 0+1]).length=S.lg.length+1:=by rw[Zs];rfl
  have D:=E.link (n:=old) (v:=S.lg.length) (by lia);obtain⟨s,q,H,o⟩:=GQ y 1000 _ F (Y n) D (by lia) (λm f=>by cases f;lia) G;refine⟨s,by lia,by lia,by exact X5 (by rw[q];exact hlen),?_⟩;have args:ae (aa 4) (ae (e2 aE (bj 2 (aa 0)) (aa 3)) (ae (eN n9 (ae (e2 aE (bj 3 (aa 0)) (aa 3)) aj)) aj)) [oc (Kf S M),Q0 (n:Int),Q2 ([c]),Q0 (old:Int),Q0 ((S.lg.getD n 0+1:Nat):Int),J]=Y [(.fr,.int ((S.lg.getD n 0+1:Nat):Int)),(.fr,KO (S.lk.getD old J)),(.fr,K6 (S.wy.getD old []))] :=
   xv L (xv (wY L L Kd) (xv (gF (xv (pq L L (by rw[W.wy];exact hold)) L) (by
    show (if gE (((S.wy.getD old []).map λp=>(T.str [p.1],T.int (p.2:Int))).map (·.2))=M then Y (Md.fr,K6 (S.wy.getD old [])) else J)=_;rw[Zp (by rw[LU];exact nP _ (λ_=>rfl) _)])) L))
  have C:argsOk [B,B,M] [(.fr,.int ((S.lg.getD n 0+1:Nat):Int)),(.fr,KO (S.lk.getD old J)),(.fr,K6 (S.wy.getD old []))]=M:=by
   show (M&&(Kh (KO (S.lk.getD old J))&&M))=M;rw[j6];rfl
  have A:=ji args C (by
   show (M&&(fD (KO (S.lk.getD old J))&&(fD (K6 (S.wy.getD old []))&&M)))=M;rw[lQ _ (j6 _),Ba];rfl) (zI S (S.lg.getD n 0+1) (S.lk.getD old J) (S.wy.getD old []) (by lia) (by rw[W.lk];lia) (by rw[W.wy];lia)) L
  have u:=Aw (S:=⟨S.lg++[S.lg.getD n 0+1],S.lk++[S.lk.getD old J],S.wy++[S.wy.getD old []]⟩) (b:=M) (r:=[Q0 (n:Int),Q2 ([c]),Q0 (old:Int),Q0 ((S.lg.getD n 0+1:Nat):Int),Q0 (S.lg.length:Int)]) (e:=aa 3) (ev:=aa 5) (by rw[Zs];lia) L L;exact congrArg (λz:Option Out=>z.bind _) ((aq s1).trans ((aq h).trans ((aq ((mU cd).trans L)).trans ((aq (by
   unfold eJ;rw[A];rfl)).trans ((aq u).trans ((aq (o yM (by decide) (Q0 ((S.lg.getD n 0+1:Nat):Int)))).trans L))))))
def HZ{r:Nat}(W:WF S)(x:S.lg.length<=100000)(A:h<S.lg.length)(C:97<=c/\c<=122)(e:hb S h c=Y (a,r)):WF a/\r<a.lg.length/\S.lg.length<=a.lg.length/\a.lg.length<=S.lg.length+2/\bL (Nn S) [.int (h:Int),.str [c]]=Y (Nn a,.int (r:Int)):=by
 unfold hb at e;unfold bL Mm;rw[Zp ⟨rfl,rfl⟩];have cd:e2 mV (aa 2) (e2 aE (bj 3 (aa 0)) (aa 1)) [oc (Kf S M),Q0 (h:Int),Q2 ([c]),J,J]=Y (.fr,.bl (gW (S.wy.getD h []) c).isSome):=J4 (pq L L (by rw[W.wy];exact A)) L;split at e
 ·rename_i y;rw[y]at cd;obtain⟨j,u,s,q,G⟩:=BI W (WA x) A C e;refine⟨j,u,s,by exact WA q,?_⟩;have i:=ji (mv:=[B,B]) (as:=ae (aa 1) (ae (aa 2) aj)) (b:=M) (r:=[Q0 (h:Int),Q2 ([c]),J,J]) L L L G L;have s1:mJ (bN 0 [] 0 [B,B] av (ae (aa 1) (ae (aa 2) aj))) [oc (Kf S M),Q0 (h:Int),Q2 ([c]),J,J]=Y (.rt (.fr,.int (r:Int)) [oc (Kf a M),Q0 (h:Int),Q2 ([c]),J,J]):=by
   unfold mJ;rw[i];rfl
  exact congrArg (λz:Option Out=>z.bind _) (kD ((rG cd).trans s1))
 ·rename_i y;have U:(gW (S.wy.getD h []) c).isSome=B:=by simpa using y
  rw[U]at cd;obtain⟨⟨f,o⟩,e1,F⟩:=Zz.mp e;have hlen:(S.lg++[S.lg.getD h 0+1]).length=S.lg.length+1:=by rw[Zs];rfl
  obtain⟨j,u,s,q⟩:=G8 C 1000 _ f (Y h) o (W.more (l:=S.lg.getD h 0+1) (o:=Y 0) (w:=[]) (λm g=>by cases g;exact W.pos) (λd m g=>by cases g) Yn (λp Q=>nomatch Q)) (by lia) (λm g=>by cases g;lia) e1;have args:ae (e2 cu (e2 aE (bj 1 (aa 0)) (aa 1)) (Q3 1)) (ae (Q3 0) (ae (vh 0 []) aj)) [oc (Kf S M),Q0 (h:Int),Q2 ([c]),J,J]=Y [(.fr,.int ((S.lg.getD h 0+1:Nat):Int)),(.fr,.int 0),(.fr,.dct 0 [])] :=
   xv (e2v (uS L L A) L L) (xv L (xv L L))
  have i:=ji (mv:=[B,B,M]) args L L (zI S (S.lg.getD h 0+1) (Y 0) [] (by lia) (by rw[W.lk];lia) (by rw[W.wy];lia)) L;have hd:∀b:Sx,ar (LN (e2 mV (aa 2) (e2 aE (bj 3 (aa 0)) (aa 1))) (mJ (bN 0 [] 0 [B,B] av (ae (aa 1) (ae (aa 2) aj)))) eI)
    (ar (eJ 3 (bN 0 [] 0 [B,B,M] aU (ae (e2 cu (e2 aE (bj 1 (aa 0)) (aa 1)) (Q3 1)) (ae (Q3 0) (ae (vh 0 []) aj)))))
    (ar (bg 4 (aa 1)) (ar (mn (l5 (fP (aa 4)) (e2 cN (aa 2) (e2 aE (bj 3 (aa 0)) (aa 4)))) cJ) b))) [oc (Kf S M),Q0 (h:Int),Q2 ([c]),J,J] =
    b [oc (Kf f M),Q0 (h:Int),Q2 ([c]),Q0 (S.lg.length:Int),pc (KO o)]:=λb =>
   (aq ((mU cd).trans L)).trans ((aq (by
   unfold eJ;rw[i];rfl)).trans ((aq L).trans (aq (q yM (by decide) (Q0 (h:Int))))))
  cases o with
  |none =>
   obtain⟨rfl,rfl⟩:=XA (Zl F);have fin:ar (LN (fP (aa 4)) (ly 0 [.fld 2] (aa 3) (bN 0 [] 0 [B,B] av (ae (aa 4) (ae (aa 2) aj)))) eI) (fM 3) [oc (Kf f M),Q0 (h:Int),Q2 ([c]),Q0 (S.lg.length:Int),pc (KO J)] =
     Y (.rt (.fr,.int (S.lg.length:Int)) [oc (Kf f M),Q0 (h:Int),Q2 ([c]),Q0 (S.lg.length:Int),pc (KO J)]):=(aq ((mU L).trans L)).trans L
   refine⟨j,by lia,by lia,by lia,?_⟩;exact congrArg (λz:Option Out=>z.bind _) ((hd _).trans fin)
  |some n =>
   obtain⟨⟨D,m⟩,e3,R⟩:=Zy.mp F;obtain⟨rfl,rfl⟩:=XA R;obtain⟨E,N,Z,X,H⟩:=BI j (by show f.lg.length<=100001;lia) (by
    have:=s n L;rw[u];exact this) C e3
   have i:=ji (mv:=[B,B]) (as:=ae (aa 4) (ae (aa 2) aj)) (b:=M) (r:=[Q0 (h:Int),Q2 ([c]),Q0 (S.lg.length:Int),Q0 (n:Int)]) L L L H L;have P:=Aw (b:=M) (r:=[Q0 (h:Int),Q2 ([c]),Q0 (S.lg.length:Int),Q0 (n:Int)]) (e:=aa 3) (ev:=λ_=>Y (.fr,.int (m:Int))) (by rw[E.lk];lia) L L;have O:ly 0 [.fld 2] (aa 3) (bN 0 [] 0 [B,B] av (ae (aa 4) (ae (aa 2) aj))) [oc (Kf f M),Q0 (h:Int),Q2 ([c]),Q0 (S.lg.length:Int),Q0 (n:Int)]=Y (.nx [oc (Kf ⟨D.lg,D.lk.set S.lg.length (Y m),D.wy⟩ M),Q0 (h:Int),Q2 ([c]),Q0 (S.lg.length:Int),Q0 (n:Int)]):=by
    unfold ly;rw[i];exact P
   refine⟨(E.link (n:=S.lg.length) (v:=m) N),by lia,by lia,by lia,?_⟩;exact congrArg (λz:Option Out=>z.bind _) ((hd _).trans ((aq ((rG (m:=.fr) L).trans O)).trans L))
theorem zR:∀{word:Uz}{h r:Nat},WF S->S.lg.length+2*word.length<=100000->h<S.lg.length->(∀c∈word,97<=c/\c<=122)->hg S h word=Y (g,r) →
  WF g/\r<g.lg.length/\g.lg.length<=S.lg.length+2*word.length/\∀i:Uw,∀f:T,∃a,forL (bB 3) cW (word.map λc=>T.str [c]) [oc (Kf S M),Q0 (h:Int),pc f,i]=Y (.nx [oc (Kf g M),Q0 (r:Int),pc f,a])
 |[],h,r,W,m,j,l,e=>by
  obtain⟨rfl,rfl⟩:=XA (Zl e);exact⟨W,j,by simp,λi f=>⟨i,rfl⟩⟩
 |c :: word,h,r,W,m,j,l,e=>by
  obtain⟨⟨D,C⟩,e1,x⟩:=Zz.mp e;rw[Zf]at m;obtain⟨p,o,z,y,n⟩:=HZ W (by lia) j (l c Zv) e1;obtain⟨v,u,A,s⟩:=zR p (by lia) o (λd hd=>l d (Zx _ hd)) x;refine⟨v,u,by rw[Zf];lia,λi f=>?_⟩;obtain⟨a,q⟩:=s (Q2 ([c])) f;refine⟨a,?_⟩;rw[Zm];refine(eD (U1:=[oc (Kf S M),Q0 (h:Int),pc f,Q2 ([c])]) L ?_).trans q;have w:=ji (mv:=[B,B]) (as:=ae (aa 1) (ae (aa 3) aj)) (b:=M) (r:=[Q0 (h:Int),pc f,Q2 ([c])]) L L L n L;unfold cW eJ;rw[w];rfl
def E4{S S':St}{a:Tx}{r:Nat}(W:WF S)(i:S.lg.length+2*a.length<=100000)(j:h<S.lg.length)(l:∀c∈a,97<=c/\c<=122)(e:hg S h a=Y (S',r)) :
  WF S'/\r<S'.lg.length/\S'.lg.length<=S.lg.length+2*a.length/\aR (Nn S) [.int (h:Int),.str a]=Y (Nn S',.int (r:Int)):=by
 obtain⟨g,f,d,b⟩:=zR W i j l e;obtain⟨m,q⟩:=b J (.str a);refine⟨g,f,d,?_⟩;unfold aR Mm;rw[Zp ⟨rfl,rfl⟩];have s1:=(dG (it:=fU (aa 2)) L L).trans q;exact congrArg (λz:Option Out=>z.bind _) ((aq s1).trans L)
end T48
end
section
namespace AU
noncomputable abbrev Wd:=Uz
noncomputable abbrev W(a:List Wd)(n:Nat):Wd:=a.getD n []
structure I(fr:Option Nat)(S:St)(nd:Wd->Option Nat)(wd:List Wd):Prop where
 wf:WF S
 len:wd.length=S.lg.length
 lg:∀n,n<wd.length->S.lg.getD n 0=(W wd n).length
 z:nd []=some 0
 wz:W wd 0=[]
 lt:∀{x n},nd x=some n->n<wd.length
 sf:∀{x n},nd x=some n->x <:+ W wd n
 top:∀{n},n<wd.length->nd (W wd n)=some n
 iv:∀{x y n},nd x=some n->x <:+ y->y <:+ W wd n->nd y=some n
 pre:∀{x c n},nd (x++[c])=some n->∃m,nd x=some m
 PD:∀{x y n},nd y=some n->x <:+ y->∃m,nd x=some m
 PM:S.lk.getD 0 none=none
 lk:∀{n},0<n->n<wd.length->some n≠fr->∃m,S.lk.getD n none=some m/\(m<wd.length/\some m≠fr)/\W wd m <:+ W wd n/\(W wd m).length<(W wd n).length/\∀y,y <:+ W wd n->(W wd m).length<y.length->nd y=some n
 wy:∀{x n},nd x=some n->∀c,gW (S.wy.getD n []) c=nd (x++[c])
def cU{α:Type}{x y w:List α}(d:x <:+ w)(b:y <:+ w)(a:x.length<=y.length):x <:+ y:=List.suffix_of_suffix_length_le d b a
section
def I.up(H:I fr S nd wd):∀(k n:Nat)(x:Wd),(W wd n).length<=k->n<wd.length->Y n≠fr->x <:+ W wd n->∃m,nd x=Y m/\W wd m <:+ W wd n:=by
 intro k
 induction k with
 |zero =>
  intro n x e b f a;rw[(XZ.mp (Nat.le_zero.mp e))]at a;have:x=[]:=YA.mp a;subst this;exact⟨0,H.z,by rw[H.wz];exact WT⟩
 |succ k l =>
  intro n x e b f a;by_cases h:n=0
  ·subst h;rw[H.wz]at a;have:x=[]:=YA.mp a;subst this;exact⟨0,H.z,Yw _⟩
  ·obtain⟨m,u,⟨p,r⟩,g,s,o⟩:=H.lk (Ya h) b f;by_cases d:(W wd m).length<x.length
   ·exact⟨n,o x a d,Yw _⟩
   ·obtain⟨q,j,i⟩:=l m x (by lia) p r (cU a g (by exact ZD d));exact⟨q,j,i.trans g⟩
def I.UM(H:I fr S nd wd)(b:n<wd.length)(d:Y n≠fr)(a:x <:+ W wd n):∃m,nd x=Y m/\W wd m <:+ W wd n:=H.up _ n x (Zn _) b d a
def I.all(H:I fr S nd wd)(e:q<wd.length)(f:Y q≠fr)(d:nd x=Y n)(b:nd y=Y n)(h:x <:+ W wd q):y <:+ W wd q:=by
 obtain⟨m,a,g⟩:=H.UM e f h;rw[d]at a;cases a;exact(H.sf b).trans g
def I.inj(H:I fr S nd wd)(b:m<wd.length)(a:n<wd.length)(h:W wd m=W wd n):m=n:=by
 have:=H.top b;rw[h,H.top a]at this;exact(Zl this).symm
def I.way(H:I fr S nd wd){n c:Nat}(b:n<wd.length)(h:gW (S.wy.getD n []) c=Y a):nd (W wd n++[c])=Y a:=by
 rw[← H.wy (H.top b) c];exact h
def I.zero(H:I fr S nd wd)(h:nd x=Y 0):x=[]:=by
 have:=H.sf h;rw[H.wz]at this;exact YA.mp this
def I.low(H:I fr S nd wd)(g:Y n≠fr)(a:S.lk.getD n J=Y m)(b:nd y=Y n):(W wd m).length<y.length/\m<wd.length/\W wd m <:+ W wd n/\Y m≠fr:=by
 by_cases f:n=0
 ·subst f;rw[H.PM]at a;cases a
 ·obtain⟨l,i,⟨e,j⟩,d,h,o⟩:=H.lk (Ya f) (H.lt b) g;rw[i]at a;cases a;refine⟨V2 λhle=>?_,e,d,j⟩;have:=H.iv b (cU (H.sf b) d hle) d;rw[H.top e]at this;cases this;exact YE _ h
def I.below(H:I fr S nd wd)(e:n<wd.length)(g:Y n≠fr)(a:S.lk.getD n J=Y q)(f:m<wd.length)(b:W wd m <:+ W wd n)(l:m≠n):W wd m <:+ W wd q:=by
 by_cases d:n=0
 ·subst d;rw[H.PM]at a;cases a
 ·obtain⟨p,j,⟨s,_⟩,i,r,h⟩:=H.lk (Ya d) e g;rw[j]at a;cases a;refine cU b i (ZD λo=>l ?_);have:=h _ b o;rw[H.top f]at this;exact Zl this
def I.root(H:I fr S nd wd)(b:n<wd.length)(g:Y n≠fr)(d:S.lk.getD n J=J)(f:m<wd.length)(a:W wd m <:+ W wd n):m=n:=by
 have i:n=0:=Nat.eq_zero_of_not_pos λe=>by
  obtain⟨q,h,_⟩:=H.lk e b g;rw[h]at d;cases d
 subst i;rw[H.wz]at a;exact H.inj f b (by rw[H.wz,YA.mp a])
def gq(a:List (List (Nat×Nat)))(n m c v d:Nat)(b:n<a.length):gW ((a.set n (pW (a.getD n []) c v)).getD m []) d=if m=n/\d=c then Y v else gW (a.getD m []) d:=by
 rw[ik];by_cases h:n=m
 ·subst h;rw[Zp ⟨rfl,b⟩,EO];by_cases hd:d=c
  ·rw[Zp hd,Zp ⟨rfl,hd⟩]
  ·rw[Zo hd,Zo (λz=>hd z.2)]
 ·rw[Zo (λz=>h z.1),Zo (λz=>h z.1.symm)]
def I.R7(H:I fr S nd wd){c v:Nat}:∀(k:Nat)(T:St)(n:Nat),n<wd.length->Y n≠fr->(W wd n).length<k->(∀m,m<wd.length->W wd m <:+ W wd n->T.lk.getD m J=S.lk.getD m J)->wd.length<=T.wy.length →
  (∀m i,m<wd.length->i<wd.length->W wd m <:+ W wd i->W wd i <:+ W wd n->gW (T.wy.getD m []) c=Y b->gW (T.wy.getD i []) c=Y b) →
  ∃o,Qz c b v k T (Y n)=Y ⟨T.lg,T.lk,o⟩/\o.length=T.wy.length/\∀m d,gW (o.getD m []) d=if d=c/\m<wd.length/\W wd m <:+ W wd n/\gW (T.wy.getD m []) c=Y b then Y v else gW (T.wy.getD m []) d:=by
 intro k
 induction k with
 |zero=>intro T n _ _ h;lia
 |succ k E =>
  intro T n f u N A hw mono;have l:=Zg f hw;unfold Qz;by_cases j:gW (T.wy.getD n []) c=Y b
  ·rw[Zp j,A n f (Yw _)];cases s:S.lk.getD n J with
   |none =>
    refine⟨T.wy.set n (pW (T.wy.getD n []) c v),by cases k<;>rfl,Yi,λm d=>?_⟩;rw[gq _ _ _ _ _ _ l];by_cases a:m=n/\d=c
    ·rw[Zp a,Zp ⟨a.2,by rw[a.1];exact f,by rw[a.1];exact Yw _,by rw[a.1];exact j⟩]
    ·rw[Zo a,Zo λz=>a ⟨H.root f u s z.2.1 z.2.2.1,z.1⟩]
   |some q =>
    obtain⟨G,D,r,C⟩:=H.low u s (H.top f);have ne:∀m,W wd m <:+ W wd q->m≠n:=λm a e=>by
     rw[e]at a;have:=a.length_le;lia
    obtain⟨o,e1,e2,e3⟩:=E ⟨T.lg,T.lk,T.wy.set n (pW (T.wy.getD n []) c v)⟩ q D C (by lia) (λm a p=>A m a (p.trans r)) (by rw[Yi];exact hw) (λm i a F p w h=>by
     have x:=h;rw[gq _ _ _ _ _ _ l,Zo (λz=>ne m (p.trans w) z.1)]at x;rw[gq _ _ _ _ _ _ l,Zo (λz=>ne i w z.1)];exact mono m i a F p (w.trans r) x)
    refine⟨o,e1,by rw[e2];exact Yi,λm d=>?_⟩;rw[e3 m d];by_cases a:m=n
    ·subst a;rw[Zo (λz=>ne m z.2.2.1 L),gq _ _ _ _ _ _ l];by_cases hd:d=c
     ·rw[Zp ⟨rfl,hd⟩,Zp ⟨hd,f,Yw _,j⟩]
     ·rw[Zo (λz=>hd z.2),Zo (λz=>hd z.1)]
    ·have y:∀d,gW ((T.wy.set n (pW (T.wy.getD n []) c v)).getD m []) d=gW (T.wy.getD m []) d:=λd=>by rw[gq _ _ _ _ _ _ l,Zo (λz=>a z.1)]
     rw[y,y];by_cases g:d=c/\m<wd.length/\W wd m <:+ W wd n/\gW (T.wy.getD m []) c=Y b
     ·rw[Zp g,Zp ⟨g.1,g.2.1,H.below f u s g.2.1 g.2.2.1 a,g.2.2.2⟩]
     ·rw[Zo g,Zo λz=>g ⟨z.1,z.2.1,z.2.2.1.trans r,z.2.2.2⟩]
  ·rw[Zo j];refine⟨T.wy,rfl,rfl,λm d=>?_⟩;rw[Zo λz=>j (mono m n z.2.1 f z.2.2.1 (Yw _) z.2.2.2)]
def I.R8(H:I fr S nd wd){c v:Nat}:∀(k:Nat)(T:St)(n:Nat),n<wd.length->Y n≠fr->(W wd n).length<k->(∀m,m<wd.length->W wd m <:+ W wd n->T.lk.getD m J=S.lk.getD m J)->wd.length<=T.wy.length →
  (∀m i,m<wd.length->i<wd.length->W wd m <:+ W wd i->W wd i <:+ W wd n->(gW (T.wy.getD i []) c).isSome->(gW (T.wy.getD m []) c).isSome) →
  ∃A s,up1 c v k T (Y n)=Y (⟨T.lg,T.lk,A⟩,s)/\A.length=T.wy.length/\(∀m d,gW (A.getD m []) d=if d=c/\m<wd.length/\W wd m <:+ W wd n/\gW (T.wy.getD m []) c=J then Y v else gW (T.wy.getD m []) d) ∧
   (s=J->∀m,m<wd.length->W wd m <:+ W wd n->gW (T.wy.getD m []) c=J) ∧
   ∀p,s=Y p->p<wd.length/\W wd p <:+ W wd n/\(gW (T.wy.getD p []) c).isSome/\∀m,m<wd.length->W wd m <:+ W wd n->(W wd p).length<(W wd m).length->gW (T.wy.getD m []) c=J:=by
 intro k
 induction k with
 |zero=>intro T n _ _ h;lia
 |succ k ih =>
  intro T n f o hk O hw mono;have r:=Zg f hw;unfold up1;by_cases l:(gW (T.wy.getD n []) c).isSome=M
  ·rw[Zp l];refine⟨T.wy,Y n,rfl,rfl,λm d=>?_,(λh=>nomatch h),λp u=>?_⟩
   ·rw[Zo λz=>?_];have:=mono m n z.2.1 f z.2.2.1 (Yw _) l;rw[z.2.2.2]at this;cases this
   ·cases u;refine⟨f,Yw _,l,λm a b j=>?_⟩;have:=b.length_le;lia
  ·have y:gW (T.wy.getD n []) c=J:=by
    cases h:gW (T.wy.getD n []) c with
    |none=>rfl
    |some x=>rw[h]at l;exact absurd L l
   rw[Zo l,O n f (Yw _)];cases j:S.lk.getD n J with
   |none =>
    refine⟨T.wy.set n (pW (T.wy.getD n []) c v),J,by cases k<;>rfl,Yi,λm d=>?_,λ_ m a b=>?_,(λp u=>nomatch u)⟩
    ·rw[gq _ _ _ _ _ _ r];by_cases a:m=n/\d=c
     ·rw[Zp a,Zp ⟨a.2,by rw[a.1];exact f,by rw[a.1];exact Yw _,by rw[a.1];exact y⟩]
     ·rw[Zo a,Zo λz=>a ⟨H.root f o j z.2.1 z.2.2.1,z.1⟩]
    ·rw[H.root f o j a b];exact y
   |some q =>
    refine L2.ai λP_ Z=>?_;obtain⟨l1,X,C,U⟩:=H.low o j (H.top f);have ne:∀m,W wd m <:+ W wd q->m≠n:=λm a e=>by
     rw[e]at a;have:=a.length_le;lia
    obtain⟨A,s,e1,e2,e3,e4,e5⟩:=ih ⟨T.lg,T.lk,T.wy.set n (pW (T.wy.getD n []) c v)⟩ q X U (by lia) (λm a b=>O m a (b.trans C)) (by rw[Yi];exact hw) (λm i a LJ b D h=>by
     have F:=h;rw[gq _ _ _ _ _ _ r,Zo (λz=>ne i D z.1)]at F;rw[gq _ _ _ _ _ _ r,Zo (λz=>ne m (b.trans D) z.1)];exact mono m i a LJ b (D.trans C) F)
    refine Z ?_;have old:∀m,W wd m <:+ W wd q->gW ((T.wy.set n (pW (T.wy.getD n []) c v)).getD m []) c=gW (T.wy.getD m []) c:=λm a=>by rw[gq _ _ _ _ _ _ r,Zo (λz=>ne m a z.1)]
    refine⟨A,s,e1,by rw[e2];exact Yi,λm d=>?_,λho m a b=>?_,λp u=>?_⟩
    ·rw[e3 m d];by_cases a:m=n
     ·subst a;rw[Zo (λz=>ne m z.2.2.1 L),gq _ _ _ _ _ _ r];by_cases hd:d=c
      ·rw[Zp ⟨rfl,hd⟩,Zp ⟨hd,f,Yw _,y⟩]
      ·rw[Zo (λz=>hd z.2),Zo (λz=>hd z.1)]
     ·have G:∀d,gW ((T.wy.set n (pW (T.wy.getD n []) c v)).getD m []) d=gW (T.wy.getD m []) d:=λd=>by rw[gq _ _ _ _ _ _ r,Zo (λz=>a z.1)]
      rw[G,G];by_cases g:d=c/\m<wd.length/\W wd m <:+ W wd n/\gW (T.wy.getD m []) c=J
      ·rw[Zp g,Zp ⟨g.1,g.2.1,H.below f o j g.2.1 g.2.2.1 a,g.2.2.2⟩]
      ·rw[Zo g,Zo λz=>g ⟨z.1,z.2.1,z.2.2.1.trans C,z.2.2.2⟩]
    ·by_cases w:m=n
     ·rw[w];exact y
     ·have hb:=H.below f o j a b w;rw[← old m hb];exact e4 ho m a hb
    ·obtain⟨R,E,Q,P⟩:=e5 p u;have N:=Q;rw[old p E]at N;refine⟨R,E.trans C,N,λm a b Lp=>?_⟩;by_cases w:m=n
     ·rw[w];exact y
     ·have hb:=H.below f o j a b w;rw[← old m hb];exact P m a hb Lp
end
def GZ(g:97<=c/\c<=122):∀(k:Nat)(S a:St)(o:Option Nat),WF S->v<S.lg.length->Qz c b v k S o=Y a->WF a:=by
 intro k
 induction k with
 |zero =>
  intro S a o H d e;cases o with
  |none=>cases (e);exact H
  |some n=>cases e
 |succ k f =>
  intro S a o H d e;cases o with
  |none=>cases (e);exact H
  |some n =>
   unfold Qz at e;split at e
   ·exact f ⟨S.lg,S.lk,S.wy.set n (pW (S.wy.getD n []) c v)⟩ a _ (H.way (n:=n) d g) d e
   ·cases e;exact H
def FB(g:97<=c/\c<=122):∀(k:Nat)(S a:St)(o b:Option Nat),WF S->v<S.lg.length->up1 c v k S o=Y (a,b)->WF a:=by
 intro k
 induction k with
 |zero =>
  intro S a o b H d e;cases o with
  |none=>cases (e);exact H
  |some n=>cases e
 |succ k f =>
  intro S a o b H d e;cases o with
  |none=>cases (e);exact H
  |some n =>
   unfold up1 at e;split at e
   ·cases e;exact H
   ·exact f ⟨S.lg,S.lk,S.wy.set n (pW (S.wy.getD n []) c v)⟩ a _ b (H.way (n:=n) d g) d e
def jg{α:Type}{x y:List α}{a b:α}(h:x++[a] <:+ y++[b]):a=b/\x <:+ y:=by
 obtain⟨t,e⟩:=h;rw[← Ze]at e;obtain⟨e1,e2⟩:=List.append_inj' e L;exact⟨by simpa using e2,⟨t,e1⟩⟩
def h9{α:Type}{x y:List α}(a:α)(h:x <:+ y):x++[a] <:+ y++[a]:=by
 obtain⟨t,e⟩:=h;exact⟨t,by rw[← e,Ze]⟩
noncomputable def iW(b:Wd->Option Nat)(a l h:Nat)(x:Wd):Option Nat:=if b x=Y a/\x.length<=l then Y h else b x
theorem I.split(H:I Q S o b)(N:n<b.length)(hf:Y n≠Q)(hc:97<=c/\c<=122)(ho:gW (S.wy.getD n []) c=Y a)(RL:Y a≠Q)(QS:Q≠Y b.length)(Mu:S.lg.getD a 0≠S.lg.getD n 0+1)(hk:(W b n).length<1000) :
  ∃S',QI S n c=Y (S',S.lg.length)/\I Q S' (iW o a ((W b n).length+1) b.length) (b++[W b n++[c]]):=by
 have O:=H.len.symm;have hw:=H.way N ho;have hold:=H.lt hw;have u:=H.sf hw;have lw:(W b n++[c]).length=(W b n).length+1:=by rw[Zs];rfl
 rw[H.lg a hold,H.lg n N]at Mu;have Lp:(W b n).length+1<(W b a).length:=by
  have:=u.length_le;rw[lw]at this;lia
 have o0:a≠0:=λe=>by
  rw[e,H.wz]at Lp;simp at Lp
 have T4:0<b.length:=by rw[H.len];exact H.wf.pos
 have l1:S.lk.length=b.length:=by rw[H.wf.lk,O]
 have l2:S.wy.length=b.length:=by rw[H.wf.wy,O]
 have QL:∀m,((S.lk++[S.lk.getD a J]).set a (Y S.lg.length)).getD m J=if m=a then Y b.length else if m=b.length then S.lk.getD a J else S.lk.getD m J:=λm=>by
  rw[ik,bV,l1,O];by_cases h:m=a
  ·rw[Zp ⟨h.symm,by rw[Zs,l1];lia⟩,Zp h]
  ·rw[Zo (λz=>h z.1.symm),Zo h]
 have M9:∀m,(S.wy++[S.wy.getD a []]).getD m []=if m=b.length then S.wy.getD a [] else S.wy.getD m []:=λm=>by rw[bV,l2]
 have OB:∀m,m<b.length->(S.wy++[S.wy.getD a []]).getD m []=S.wy.getD m []:=λm f=>by rw[M9,Zo (Za f)]
 obtain⟨w2,e1,e2,e3⟩:=H.R7 (c:=c) (v:=S.lg.length) 1000 ⟨S.lg++[S.lg.getD n 0+1],(S.lk++[S.lk.getD a J]).set a (Y S.lg.length),S.wy++[S.wy.getD a []]⟩ n N hf hk (λm f hs=>by
   have:=hs.length_le;rw[QL,Zo (λe=>by rw[e]at this;lia),Zo (Za f)])
  (by rw[Zs,l2];exact Zd _ _)
  (λm w f E hs Ly h=>by
   have D:=h;rw[OB m f]at D;rw[OB w E,H.wy (H.top E) c];rw[H.wy (H.top f) c]at D;exact H.iv D (h9 c hs) ((h9 c Ly).trans u))
 have wn:=H.wf.SV a;have W1:=H.wf.more (l:=S.lg.getD n 0+1) (λm f=>H.wf.up a m f) (λd m f=>H.wf.on a d m f) wn.1 wn.2;have hlen:(S.lg++[S.lg.getD n 0+1]).length=S.lg.length+1:=by rw[Zs];rfl
 have W2:=W1.link (n:=a) (v:=S.lg.length) (by lia);have X:=GZ hc 1000 _ _ _ W2 (by lia) e1;refine⟨⟨S.lg++[S.lg.getD n 0+1],(S.lk++[S.lk.getD a J]).set a (Y S.lg.length),w2⟩,?_,?_⟩
 ·unfold QI;rw[ho,Zu,Zo (by rw[H.lg a hold,H.lg n N];exact Mu),e1];rfl
 have Wn:∀m,W (b++[W b n++[c]]) m=if m=b.length then W b n++[c] else W b m:=λm=>bV b _ _ m
 have s:W (b++[W b n++[c]]) b.length=W b n++[c]:=by rw[Wn,Zp L]
 have g:∀{m},m<b.length->W (b++[W b n++[c]]) m=W b m:=λ{m} f=>by rw[Wn,Zo (Za f)]
 have dW:(b++[W b n++[c]]).length=b.length+1:=by rw[Zs];rfl
 have tell:∀{x m},iW o a ((W b n).length+1) b.length x=Y m->(m=b.length/\o x=Y a/\x.length<=(W b n).length+1)\/(m<b.length/\o x=Y m/\¬(m=a/\x.length<=(W b n).length+1)):=λ{x m} h=>by
  unfold iW at h;split at h
  ·rename_i q;cases h;exact .inl ⟨rfl,q.1,q.2⟩
  ·rename_i q;exact .inr ⟨H.lt h,h,λz=>q ⟨by rw[h,z.1],z.2⟩⟩
 have tL:∀{x},o x=Y a->x.length<=(W b n).length+1->iW o a ((W b n).length+1) b.length x=Y b.length:=λ{x} C h2=>Zp ⟨C,h2⟩;have tO:∀{x m},o x=Y m->¬(m=a/\x.length<=(W b n).length+1)->iW o a ((W b n).length+1) b.length x=Y m:=λ{x m} C h2=>by
  unfold iW;rw[Zo (λz=>h2 ⟨by rw[C]at z;exact Zl z.1,z.2⟩),C]
 have QC:∀{x m},o x=Y m->∃w,iW o a ((W b n).length+1) b.length x=Y w:=λ{x m} h=>by
  unfold iW;split
  ·exact⟨_,rfl⟩
  ·exact⟨m,h⟩
 have un:∀{x m},iW o a ((W b n).length+1) b.length x=Y m->∃w,o x=Y w:=λ{x m} h=>(tell h).elim (λz=>⟨_,z.2.1⟩) λz=>⟨_,z.2.1⟩
 refine⟨X,by rw[dW,hlen,O],λm f=>?_,tO H.z (λz=>o0 z.1.symm),by rw[g T4];exact H.wz,λ{x m} h=>by rcases tell h with z | z<;>lia,λ{x m} h=>?_,λ{m} f=>?_,λ{x y m} h R i=>?_,λ{x d m} h=>?_,λ{x y m} h R=>?_,?_,λ{m} h0 f hmf=>?_,λ{x m} h d=>?_⟩
 ·rw[dW]at f;rw[bV,O];by_cases e:m=b.length
  ·rw[Zp e,e,s,H.lg n N,lw]
  ·rw[Zo e,g (by lia),H.lg m (by lia)]
 ·rcases tell h with⟨rfl,j,F⟩ | ⟨G,j,_⟩
  ·rw[s];exact cU (H.sf j) u (by rw[lw];exact F)
  ·rw[g G];exact H.sf j
 ·rw[dW]at f;by_cases e:m=b.length
  ·rw[e,s];exact tL hw (by rw[lw];exact Zn _)
  ·rw[g (by lia)];exact tO (H.top (by lia)) (λz=>by have:=z.2;rw[z.1]at this;lia)
 ·rcases tell h with⟨rfl,j,F⟩ | ⟨G,j,F⟩
  ·rw[s]at i;have:=i.length_le;rw[lw]at this;exact tL (H.iv j R (i.trans u)) this
  ·rw[g G]at i;exact tO (H.iv j R i) (λz=>F ⟨z.1,ZR R.length_le z.2⟩)
 ·obtain⟨w,D⟩:=un h;obtain⟨q,p⟩:=H.pre D;exact QC p
 ·obtain⟨w,D⟩:=un h;obtain⟨q,p⟩:=H.PD D R;exact QC p
 ·rw[QL,Zo (Y4 o0),Zo (by exact Za T4)];exact H.PM
 ·rw[dW]at f;show ∃q,((S.lk++[S.lk.getD a J]).set a (Y S.lg.length)).getD m J=Y q/\_;rw[QL,dW];refine L2.ai λP_ P=>?_;obtain⟨q,q1,⟨U,q2'⟩,q3,q4,q5⟩:=H.lk (Ya o0) hold RL;obtain⟨lo,_⟩:=H.low RL q1 hw;refine P ?_;rw[lw]at lo;by_cases e:m=a
  ·subst e;rw[Zp L];refine⟨b.length,rfl,⟨by exact Yk _,λz=>QS z.symm⟩,?_,?_,λy i A=>?_⟩
   ·rw[s,g hold];exact u
   ·rw[s,g hold,lw];exact Lp
   ·rw[s,lw]at A;rw[g hold]at i;exact tO (H.iv hw (cU u i (by rw[lw];exact ZQ A)) i) (λz=>by have:=z.2;lia)
  ·rw[Zo e];by_cases eL:m=b.length
   ·subst eL;rw[Zp L,q1];refine⟨q,rfl,⟨by exact M0 U,q2'⟩,?_,?_,λy i A=>?_⟩
    ·rw[s,g U];exact cU q3 u (by rw[lw];exact ZQ lo)
    ·rw[s,g U,lw];exact lo
    ·rw[s]at i;rw[g U]at A;have:=i.length_le;rw[lw]at this;exact tL (q5 y (i.trans u) A) this
   ·rw[Zo eL];have E:m<b.length:=by lia
    refine L2.ai λP_ P=>?_;obtain⟨r,r1,⟨r2,Z⟩,r3,r4,r5⟩:=H.lk h0 E hmf;refine P ?_;rw[r1];refine⟨r,rfl,⟨by exact M0 r2,Z⟩,by rw[g r2,g E];exact r3,by rw[g r2,g E];exact r4,λy i A=>?_⟩;rw[g E]at i;rw[g r2]at A;exact tO (r5 y i A) (λz=>e z.1)
 ·rw[e3 m d];rcases tell h with⟨rfl,j,F⟩ | ⟨G,j,F⟩
  ·rw[Zo (λz=>YE _ z.2.1),M9,Zp L,H.wy j d];unfold iW;rw[Zo];intro z;have C:=z.1;rw[← H.wy j d,H.wy (H.top hold) d]at C;have:=(H.sf C).length_le;rw[Zs,NN]at this;lia
  ·rw[OB m G,H.wy j c,H.wy j d];unfold iW;by_cases p:o (x++[d])=Y a/\(x++[d]).length<=(W b n).length+1
   ·refine L2.ai λP_ P=>?_;obtain⟨rfl,hx⟩:=jg (cU (H.sf p.1) u (by rw[lw];exact p.2));obtain⟨w,m1,m2⟩:=H.UM N hf hx;rw[j]at m1;cases m1;refine P ?_;rw[Zp ⟨rfl,G,m2,p.1⟩,Zp p,O]
   ·rw[Zo p,Zo];rintro⟨rfl,_,a3,a4⟩;refine p ⟨a4,?_⟩;have b1:=(H.sf j).length_le;have b2:=a3.length_le;rw[Zs,NN];lia
end AU
end
section
namespace AU
open Classical in
noncomputable def iH(a:Wd->Option Nat)(w:Wd)(f:Nat)(x:Wd):Option Nat:=match a x with
 |some m=>Y m
 |none=>if x <:+ w then Y f else J
def dB(h:a x=Y m):iH a w f x=Y m:=by
 unfold iH;rw[h]
def gz(h:a x=J)(b:x <:+ w):iH a w f x=Y f:=by
 unfold iH;rw[h];exact Zp b
def cR(h:iH a w f x=Y m):a x=Y m\/(m=f/\a x=J/\x <:+ w):=by
 unfold iH at h;split at h
 ·rename_i q e;cases h;exact .inl e
 ·rename_i e;split at h
  ·rename_i b;cases h;exact .inr ⟨rfl,e,b⟩
  ·cases h
def AK{α:Type}{y t:List α}{c:α}(h:y <:+ t++[c])(d:y≠[]):∃a,y=a++[c]/\a <:+ t:=by
 rcases List.eq_nil_or_concat y with e | ⟨a,b,e⟩
 ·exact absurd e d
 ·rw[List.concat_eq_append]at e;subst e;obtain⟨e1,e2⟩:=jg h;exact⟨a,by rw[e1],e2⟩
section
def I.fresh(H:I J S nd wd)(u:h<wd.length)(hc:97<=c/\c<=122)(hn:gW (S.wy.getD h []) c=J)(hk:(W wd h).length<1000) :
  ∃E A,up1 c S.lg.length 1000 ⟨S.lg++[S.lg.getD h 0+1],S.lk++[Y 0],S.wy++[[]]⟩ (Y h)=Y (E,A)/\I (Y wd.length) E (iH nd (W wd h++[c]) wd.length) (wd++[W wd h++[c]])/\E.lk.getD wd.length J=Y 0/\E.lg.length=S.lg.length+1 ∧
   (∀m,m<wd.length->(gW (S.wy.getD m []) c).isSome->gW (E.wy.getD m []) c=gW (S.wy.getD m []) c) ∧
   (A=J->∀m,m<wd.length->W wd m <:+ W wd h->gW (S.wy.getD m []) c=J) ∧
   ∀p,A=Y p->p<wd.length/\W wd p <:+ W wd h/\(gW (S.wy.getD p []) c).isSome/\∀m,m<wd.length->W wd m <:+ W wd h->(W wd p).length<(W wd m).length->gW (S.wy.getD m []) c=J:=by
 have D:=H.len.symm;have l1:S.lk.length=wd.length:=by rw[H.wf.lk,D]
 have l2:S.wy.length=wd.length:=by rw[H.wf.wy,D]
 have T4:0<wd.length:=by rw[H.len];exact H.wf.pos
 have Q:∀m,(S.lk++[Y 0]).getD m J=if m=wd.length then Y 0 else S.lk.getD m J:=λm=>by rw[bV,l1]
 have M9:∀m,(S.wy++[[]]).getD m []=if m=wd.length then [] else S.wy.getD m []:=λm=>by rw[bV,l2]
 have s:∀m,m<wd.length->(S.wy++[[]]).getD m []=S.wy.getD m []:=λm b=>by rw[M9,Zo (Za b)]
 obtain⟨w2,A,e1,e2,e3,e4,e5⟩:=H.R8 (c:=c) (v:=S.lg.length) 1000 ⟨S.lg++[S.lg.getD h 0+1],S.lk++[Y 0],S.wy++[[]]⟩ h u (λz=>nomatch z) hk (λm b _=>by
   rw[Q,Zo (Za b)])
  (by rw[Zs,l2];exact Zd _ _)
  (λm m' b j g Ly q=>by
   have q':=q;rw[s m' j,H.wy (H.top j) c]at q';rw[s m b,H.wy (H.top b) c];obtain⟨r,f⟩:=YS.mp q';obtain⟨r',X⟩:=H.PD f (h9 c g);rw[X];rfl)
 have hlen:(S.lg++[S.lg.getD h 0+1]).length=S.lg.length+1:=by rw[Zs];rfl
 have R:=FB hc 1000 _ _ _ _ (H.wf.more (l:=S.lg.getD h 0+1) (o:=Y 0) (w:=[]) (λm b=>by cases b;exact H.wf.pos) (λd m b=>by cases b) Yn (λp Z=>nomatch Z)) (by lia) e1;have lw:(W wd h++[c]).length=(W wd h).length+1:=by rw[Zs];rfl
 have Wn:∀m,W (wd++[W wd h++[c]]) m=if m=wd.length then W wd h++[c] else W wd m:=λm=>bV wd _ _ m
 have P:W (wd++[W wd h++[c]]) wd.length=W wd h++[c]:=by rw[Wn,Zp L]
 have i:∀{m},m<wd.length->W (wd++[W wd h++[c]]) m=W wd m:=λ{m} b=>by rw[Wn,Zo (Za b)]
 have dW:(wd++[W wd h++[c]]).length=wd.length+1:=by rw[Zs];rfl
 refine⟨⟨S.lg++[S.lg.getD h 0+1],S.lk++[Y 0],w2⟩,A,e1,?_,by rw[Q,Zp L],hlen,λm b g=>?_,λho m b g=>?_,λp Z=>?_⟩
 rotate_left
 ·rw[e3 m c];rw[s m b,Zo (λz=>by rw[z.2.2.2]at g;cases g)]
 ·have:=e4 ho m b g;have G:=this;rw[s m b]at G;exact G
 ·obtain⟨p1,p2,p3,p4⟩:=e5 p Z;have Tf:=p3;rw[s p p1]at Tf;refine⟨p1,p2,Tf,λm b g O=>?_⟩;have:=p4 m b g O;have G:=this;rw[s m b]at G;exact G
 refine⟨R,by rw[dW];rw[hlen,D],λm b=>?_,dB H.z,by rw[i T4];exact H.wz,λ{x m} q=>?_,λ{x m} q=>?_,λ{m} b=>?_,λ{x y m} q F n=>?_,λ{x d m} q=>?_,λ{x y m} q F=>?_,?_,λ{m} h0 b hmf=>?_,λ{x m} q d=>?_⟩
 ·rw[dW]at b;rw[bV,D];by_cases e:m=wd.length
  ·rw[Zp e,e,P,H.lg h u,lw]
  ·rw[Zo e,i (by lia),H.lg m (by lia)]
 ·rw[dW];rcases cR q with z | z
  ·have:=H.lt z;exact M0 this
  ·lia
 ·rcases cR q with z | ⟨rfl,_,z⟩
  ·rw[i (H.lt z)];exact H.sf z
  ·rw[P];exact z
 ·rw[dW]at b;by_cases e:m=wd.length
  ·rw[e,P];exact gz (by rw[← H.wy (H.top u) c];exact hn) (Yw _)
  ·rw[i (by lia)];exact dB (H.top (by lia))
 ·rcases cR q with z | ⟨rfl,N,z2⟩
  ·rw[i (H.lt z)]at n;exact dB (H.iv z F n)
  ·rw[P]at n;refine gz ?_ n;cases e:nd y with
   |none=>rfl
   |some r =>
    obtain⟨r',f⟩:=H.PD e F;rw[N]at f;cases f
 ·rcases cR q with z | ⟨_,_,z⟩
  ·obtain⟨r,f⟩:=H.pre z;exact⟨r,dB f⟩
  ·obtain⟨_,C⟩:=jg z;obtain⟨r,f⟩:=H.PD (H.top u) C;exact⟨r,dB f⟩
 ·rcases cR q with z | ⟨_,_,z⟩
  ·obtain⟨r,f⟩:=H.PD z F;exact⟨r,dB f⟩
  ·cases e:nd x with
   |none=>exact⟨_,gz e (F.trans z)⟩
   |some r=>exact⟨r,dB e⟩
 ·rw[Q,Zo (by exact Za T4)];exact H.PM
 ·rw[dW]at b;have j:m<wd.length:=by
   have:m≠wd.length:=λe=>hmf (by rw[e]);lia
  show ∃q,(S.lk++[Y 0]).getD m J=Y q/\_;rw[Q,Zo (Za j),dW];refine L2.ai λP_ U=>?_;obtain⟨r,r1,⟨r2,_⟩,r3,r4,r5⟩:=H.lk h0 j (λz=>nomatch z);refine U ?_;refine⟨r,r1,⟨by exact M0 r2,λz=>?_⟩,by rw[i r2,i j];exact r3,by rw[i r2,i j];exact r4,λy n O=>?_⟩
  ·have:=Zl z;lia
  ·rw[i j]at n;rw[i r2]at O;exact dB (r5 y n O)
 ·rw[e3 m d];rcases cR q with z | ⟨rfl,N,z2⟩
  ·have b:=H.lt z;rw[s m b,H.wy z c,H.wy z d];cases e:nd (x++[d]) with
   |some r =>
    rw[dB e,Zo];rintro⟨rfl,_,_,a⟩;rw[e]at a;cases a
   |none =>
    by_cases g:x++[d] <:+ W wd h++[c]
    ·refine L2.ai λP_ U=>?_;obtain⟨rfl,C⟩:=jg g;obtain⟨m',m1,m2⟩:=H.UM u (λz=>nomatch z) C;rw[z]at m1;cases m1;refine U ?_;rw[gz e g,Zp ⟨rfl,b,m2,e⟩,D]
    ·have:iH nd (W wd h++[c]) wd.length (x++[d])=J:=by
      unfold iH;rw[e];exact Zo g
     rw[this,Zo];rintro⟨rfl,_,a,_⟩;exact g (h9 d ((H.sf z).trans a))
  ·rw[Zo (λa=>YE _ a.2.1),M9,Zp L];have e:nd (x++[d])=J:=by
    cases e:nd (x++[d]) with
    |none=>rfl
    |some r =>
     obtain⟨r',f⟩:=H.pre e;rw[N]at f;cases f
   have:iH nd (W wd h++[c]) wd.length (x++[d])=J:=by
    unfold iH;rw[e];refine Zo λg=>?_;obtain⟨_,C⟩:=jg g;obtain⟨r,f⟩:=H.PD (H.top u) C;rw[N]at f;cases f
   rw[this];rfl
def I.fix{f m:Nat}(H:I (Y f) S nd wd)(j:f<wd.length)(b:m<wd.length)(h:W wd m <:+ W wd f)(a:(W wd m).length<(W wd f).length)(g:∀y,y <:+ W wd f->(W wd m).length<y.length->nd y=Y f):I J ⟨S.lg,S.lk.set f (Y m),S.wy⟩ nd wd:=by
 refine⟨H.wf.link (by rw[← H.len];exact b),H.len,H.lg,H.z,H.wz,H.lt,H.sf,H.top,H.iv,H.pre,H.PD,?_,λ{n} l i _=>?_,H.wy⟩
 ·rw[ik,Zo (λz=>(λe=>by
  rw[e,H.wz]at a;simp at a) z.1)]
  exact H.PM
 ·show ∃q,(S.lk.set f (Y m)).getD n J=Y q/\_;rw[ik];by_cases e:f=n
  ·subst e;rw[Zp ⟨rfl,(by rw[H.wf.lk,← H.len];exact j)⟩];exact⟨m,rfl,⟨b,λz=>nomatch z⟩,h,a,g⟩
  ·rw[Zo (λz=>e z.1)];obtain⟨r,r1,⟨r2,_⟩,d⟩:=H.lk l i (λz=>e (Zl z).symm);exact⟨r,r1,⟨r2,λz=>nomatch z⟩,d⟩
end
end AU
end
section
namespace AU
structure UI(nd Lk:Wd->Option Nat)(w:Wd):Prop where
 eq:∀{x y m n},Lk x=some m->Lk y=some n->(m=n↔nd x=nd y/\(x <:+ w↔y <:+ w))
section
def I.Tw(H:I fr S nd wd){n c:Nat}(v:n<wd.length)(X:Y n≠fr)(Z:97<=c/\c<=122)(u:gW (S.wy.getD n []) c=Y a)(o:Y a≠fr)(p:fr≠Y wd.length)(U:(W wd n).length<1000) :
  ∃j r s KI,QI S n c=Y (j,r)/\I fr j s KI/\r<KI.length/\Y r≠fr/\W KI r=W wd n++[c]/\(∀m,m<wd.length->W KI m=W wd m)/\wd.length<=KI.length/\KI.length<=wd.length+1 ∧
   (∀x,(∃m,s x=Y m) ↔ ∃m,nd x=Y m)/\UI nd s (W wd n++[c])/\∀x f,f≠a->nd x=Y f->s x=Y f:=by
 have hw:=H.way v u;have hold:=H.lt hw;have N:=H.sf hw;have lw:(W wd n++[c]).length=(W wd n).length+1:=by rw[Zs];rfl
 by_cases A:S.lg.getD a 0=S.lg.getD n 0+1
 ·have e:W wd a=W wd n++[c]:=by
   have:=A;rw[H.lg a hold,H.lg n v]at this;exact(N.eq_of_length (by rw[lw,this])).symm
  refine⟨S,a,nd,wd,?_,H,hold,o,e,λm _=>rfl,Zn _,W0 _,λx=>Iff.rfl,⟨λ{x y m k} d b=>?_⟩,λx f _ h=>h⟩
  ·unfold QI;rw[u,Zu,Zp A]
  ·constructor
   ·rintro rfl;exact⟨by rw[d,b],λh=>by rw[← e]at h ⊢;exact H.all hold o d b h,λh=>by rw[← e]at h ⊢;exact H.all hold o b d h⟩
   ·rintro⟨h,_⟩;rw[d,b]at h;exact Zl h
 ·obtain⟨j,e1,C⟩:=H.split v X Z u o p A U;have G:W (wd++[W wd n++[c]]) wd.length=W wd n++[c]:=(bV wd _ _ _).trans (Zp L);have dW:(wd++[W wd n++[c]]).length=wd.length+1:=by rw[Zs];rfl
  have inv:∀{x m},iW nd a ((W wd n).length+1) wd.length x=Y m->(m=wd.length/\nd x=Y a/\x.length<=(W wd n).length+1)\/nd x=Y m:=λ{x m} h=>by
   unfold iW at h;split at h
   ·rename_i q;cases h;exact .inl ⟨rfl,q.1,q.2⟩
   ·exact .inr h
  have g:∀{x},nd x=Y a->(x.length<=(W wd n).length+1↔x <:+ W wd n++[c]):=λ{x} h=>⟨λR=>cU (H.sf h) N (by rw[lw];exact R),λi=>by have:=i.length_le;rw[lw]at this;exact this⟩
  refine⟨j,S.lg.length,_,_,e1,C,by rw[dW,← H.len];exact Yk _,by rw[← H.len];exact λz=>p z.symm,by rw[← H.len];exact G,(λm Q=>(bV wd _ _ m).trans (Zo (Za Q))),by lia,by exact X5 dW,λx=>⟨λ⟨m,h⟩=>(inv h).elim (λz=>⟨_,z.2.1⟩) λz=>⟨_,z⟩,λ⟨m,h⟩=>?_⟩,⟨λ{x y m k} d b=>?_⟩,λx f w h=>?_⟩
  ·unfold iW;split
   ·exact⟨_,rfl⟩
   ·exact⟨m,h⟩
  ·constructor
   ·rintro rfl;have D:wd.length<(wd++[W wd n++[c]]).length:=by lia
    have F:=λh=>C.all D (λz=>p z.symm) d b h;have E:=λh=>C.all D (λz=>p z.symm) b d h;rw[G]at F E;refine⟨?_,F,E⟩;rcases inv d with⟨z1,O,_⟩ | z
    ·rcases inv b with⟨_,P,_⟩ | y
     ·rw[O,P]
     ·have:=H.lt y;lia
    ·rcases inv b with⟨y1,_,_⟩ | y
     ·have:=H.lt z;lia
     ·rw[z,y]
   ·rintro⟨h,i⟩;have:iW nd a ((W wd n).length+1) wd.length x=iW nd a ((W wd n).length+1) wd.length y:=by
     unfold iW;rw[h];by_cases q:nd y=Y a
     ·have e1:=g (by rw[h,q]);have e2:=g q;by_cases l:y.length<=(W wd n).length+1
      ·rw[Zp ⟨q,e1.mpr (i.mpr (e2.mp l))⟩,Zp ⟨q,l⟩]
      ·rw[Zo (λz=>l (e2.mpr (i.mp (e1.mp z.2)))),Zo (λz=>l z.2)]
     ·rw[Zo (λz=>q z.1),Zo (λz=>q z.1)]
    rw[d,b]at this;exact Zl this
  ·unfold iW;rw[Zo (λz=>w (by rw[h]at z;exact Zl z.1))];exact h
end
section
def I.step(H:I J S nd wd)(Q:h<wd.length)(hc:97<=c/\c<=122)(hk:(W wd h).length+1<1000) :
  ∃S' r A KI,hb S h c=Y (S',r)/\I J S' A KI/\r<KI.length/\W KI r=W wd h++[c]/\(∀m,m<wd.length->W KI m=W wd m)/\wd.length<=KI.length/\KI.length<=wd.length+2 ∧
   (∀x,(∃m,A x=Y m)↔(∃m,nd x=Y m)\/x <:+ W wd h++[c])/\UI nd A (W wd h++[c]):=by
 cases hg:gW (S.wy.getD h []) c with
 |some old =>
  refine L2.ai λP_ N=>?_;obtain⟨S',r,A,KI,e,H',h1,_,h2,h3,h4,h5,h6,h7,_⟩:=H.Tw Q (λz=>nomatch z) hc hg (λz=>nomatch z) (λz=>nomatch z) (by exact Xv hk);refine N ?_;refine⟨S',r,A,KI,?_,H',h1,h2,h3,h4,by exact WA h5,λx=>(h6 x).trans ⟨.inl,λz=>z.elim id λz=>H.PD (H.way Q hg) z⟩,h7⟩;unfold hb;rw[hg];exact e
 |none =>
  have R:=H.len.symm;refine L2.ai λP_ N=>?_;obtain⟨o,o',e1,C,k0,k1,k2,k3,k4⟩:=H.fresh Q hc hg (by exact Xv hk);refine N ?_;have WL:W (wd++[W wd h++[c]]) wd.length=W wd h++[c]:=(bV wd _ _ _).trans (Zp L);have Wl:∀m,m<wd.length->W (wd++[W wd h++[c]]) m=W wd m:=λm hm=>(bV wd _ _ m).trans (Zo (Za hm));have dW:(wd++[W wd h++[c]]).length=wd.length+1:=by rw[Zs];rfl
  have lw:(W wd h++[c]).length=(W wd h).length+1:=by rw[Zs];rfl
  have ex:∀x,(∃m,iH nd (W wd h++[c]) wd.length x=Y m)↔(∃m,nd x=Y m)\/x <:+ W wd h++[c]:=λx=>⟨λ⟨m,q⟩=>(cR q).elim (λz=>.inl ⟨_,z⟩) λz=>.inr z.2.2,λq=>by
   cases e:nd x with
   |some m=>exact⟨m,dB e⟩
   |none=>exact q.elim (λ⟨m,z⟩=>by rw[e]at z;cases z) λz=>⟨_,gz e z⟩⟩
  have same:∀{x y m n},iH nd (W wd h++[c]) wd.length x=Y m->iH nd (W wd h++[c]) wd.length y=Y n->(m=n↔nd x=nd y):=λ{x y m n} s j=>by
   rcases cR s with z | ⟨z1,z2,_⟩
   ·rcases cR j with i | ⟨y1,y2,_⟩
    ·rw[z,i];exact⟨λe=>by rw[e],λe=>Zl e⟩
    ·have:=H.lt z;refine⟨λe=>by lia,λe=>?_⟩;rw[z,y2]at e;cases e
   ·rcases cR j with i | ⟨y1,y2,_⟩
    ·have:=H.lt i;refine⟨λe=>by lia,λe=>?_⟩;rw[z2,i]at e;cases e
    ·exact⟨λ_=>by rw[z2,y2],λ_=>by rw[z1,y1]⟩
  have wV:∀{y},y <:+ W wd h++[c]->y≠[]->∀{q},nd y=Y q->∃i m,y=i++[c]/\i <:+ W wd h/\nd i=Y m/\m<wd.length/\W wd m <:+ W wd h/\(gW (S.wy.getD m []) c).isSome:=λ{y} d Mu {q} hq=>by
   obtain⟨i,rfl,VL⟩:=AK d Mu;obtain⟨m,G,m2⟩:=H.UM Q (λz=>nomatch z) VL;exact⟨i,m,rfl,VL,G,H.lt G,m2,by rw[H.wy G c,hq];rfl⟩
  unfold hb;rw[hg,Zo (by simp),e1];cases o' with
  |none =>
   have none_:∀{y},y <:+ W wd h++[c]->y≠[]->nd y=J:=λ{y} d Mu=>by
    cases e:nd y with
    |none=>rfl
    |some q =>
     obtain⟨i,m,_,_,_,m3,m4,F⟩:=wV d Mu e;rw[(k3 L) m m3 m4]at F;cases F
   have H3:=C.fix (m:=0) (by lia) (by lia) (by rw[C.wz];exact WT) (by rw[C.wz,WL,lw];exact XS _) (λy d g=>by
    rw[WL]at d;rw[C.wz]at g;exact gz (none_ d (λe=>by rw[e]at g;cases g)) d)
   have eS:(⟨o.lg,o.lk.set wd.length (Y 0),o.wy⟩:St)=o:=by
    have g:wd.length<o.lk.length:=by rw[C.wf.lk,← C.len,dW];exact Yk _
    have:o.lk.set wd.length (Y 0)=o.lk:=by
     rw[Zt,Zq g,Wa]at k0;rw[← k0];exact Vi g
    rw[this]
   rw[eS]at H3;refine⟨o,S.lg.length,_,_,rfl,H3,by rw[dW,R];exact Yk _,by rw[R];exact WL,Wl,by lia,by lia,ex,⟨λ{x y m n} s j=>?_⟩⟩;rw[same s j];refine⟨λe=>⟨e,?_⟩,λe=>e.1⟩;have key:∀{x y m n},iH nd (W wd h++[c]) wd.length x=Y m->iH nd (W wd h++[c]) wd.length y=Y n->nd x=nd y->x <:+ W wd h++[c]->y <:+ W wd h++[c]:=λ{x y m n} s j e hx=>by
    rcases cR j with z | z
    ·rw[z]at e;by_cases P:x=[]
     ·subst P;rw[H.z]at e;cases e;rw[H.zero z];exact WT
     ·rw[none_ hx P]at e;cases e
    ·exact z.2.2
   exact⟨key s j e,key j s e.symm⟩
  |some p =>
   refine L2.ai λP_ N=>?_;obtain⟨D,Z,p3,p4⟩:=k4 p L;obtain⟨old,ho⟩:=YS.mp p3;have ho2:gW (o.wy.getD p []) c=Y old:=by rw[k2 p D p3];exact ho
   have E:=H.way D ho;have hold:=H.lt E;have ph:(W wd p).length<(W wd h).length:=by
    rcases VQ Z.length_le with l | l
    ·exact l
    ·have:=H.inj D Q (Z.eq_of_length l);rw[this,hg]at ho;cases ho
   obtain⟨S3,r,A,KI,f1,H3,f2,f2',f3,f4,f5,f6,f7,f8,f9⟩:=C.Tw (n:=p) (c:=c) (by lia) (λz=>by have:=Zl z;lia) hc ho2 (λz=>by have:=Zl z;lia) (λz=>by have:=Zl z;lia) (by rw[Wl p D];lia);refine N ?_;rw[Wl p D]at f3 f8;have w:(W wd p++[c]).length=(W wd p).length+1:=by rw[Zs];rfl
   have v:W KI wd.length=W wd h++[c]:=by rw[f4 _ (by lia),WL]
   have none_:∀{y},y <:+ W wd h++[c]->(W wd p).length+1<y.length->nd y=J:=λ{y} d g=>by
    cases e:nd y with
    |none=>rfl
    |some q =>
     obtain⟨i,m,rfl,G,m2,m3,m4,F⟩:=wV d (λe=>by rw[e]at g;cases g) e;have l1:=(H.sf m2).length_le;rw[Zs,NN]at g;rw[p4 m m3 m4 (by lia)]at F;cases F
   refine⟨⟨S3.lg,S3.lk.set S.lg.length (Y r),S3.wy⟩,S.lg.length,A,KI,?_,by rw[R];exact(H3.fix (f:=wd.length) (m:=r) (by lia) f2 (by rw[f3,v];exact h9 c Z) (by rw[f3,v,w,lw];exact Nat.succ_lt_succ ph) (λy d g=>by
    rw[v]at d;rw[f3,w]at g;exact f9 y wd.length (by exact Wk hold) (gz (none_ d g) d))),by rw[R];lia,by rw[R];exact v,λm hm=>by rw[f4 m (by lia),Wl m hm],by lia,by lia,λx=>(f7 x).trans (ex x),⟨λ{x y m n} s j=>?_⟩⟩
   ·show (QI o p c).map _=_;rw[f1];rfl
   ·rw[f8.eq s j];obtain⟨G,X⟩:=(f7 x).mp ⟨m,s⟩;obtain⟨n1,U⟩:=(f7 y).mp ⟨n,j⟩;have e1:iH nd (W wd h++[c]) wd.length x=iH nd (W wd h++[c]) wd.length y↔nd x=nd y:=by
     rw[X,U];exact⟨λe=>(same X U).mp (Zl e),λe=>by rw[(same X U).mpr e]⟩
    rw[e1];have sw:=h9 c Z;have kn:∀{z q},nd z=Y q->(z <:+ W wd h++[c]↔z <:+ W wd p++[c]):=λ{z q} O=>⟨λa=>cU a sw (by
     rw[w];refine ZD λb=>?_;rw[none_ a b]at O;cases O),λa=>a.trans sw⟩
    have un:∀{z q},nd z=J->iH nd (W wd h++[c]) wd.length z=Y q->z <:+ W wd h++[c]/\¬z <:+ W wd p++[c]:=λ{z q} O a=>by
     rcases cR a with b | b
     ·rw[O]at b;cases b
     ·refine⟨b.2.2,λa=>?_⟩;obtain⟨q',hq⟩:=H.PD E a;rw[O]at hq;cases hq
    refine⟨λ⟨a,b⟩=>⟨a,?_⟩,λ⟨a,b⟩=>⟨a,?_⟩⟩
    ·cases u:nd x with
     |some q=>rw[kn u,kn (by rw[← a,u])];exact b
     |none =>
      exact⟨λ_=>(un (show nd y=J by rw[← a,u]) U).1,λ_=>(un u X).1⟩
    ·cases u:nd x with
     |some q=>rw[← kn u,← kn (by rw[← a,u])];exact b
     |none =>
      exact⟨λz=>absurd z (un u X).2,λz=>absurd z (un (show nd y=J by rw[← a,u]) U).2⟩
end
structure K(P:Wd->Prop)(S:St)(nd:Wd->Option Nat)(wd:List Wd):Prop where
 i:I none S nd wd
 nil:P []
 some:∀x,(∃m,nd x=some m) ↔ ∃p,P p/\x <:+ p
 eq:∀{x y m n},nd x=.some m->nd y=.some n->(m=n ↔ ∀p,P p->(x <:+ p↔y <:+ p))
def K.congr(H:K P S b a)(h:∀p,P p↔Q p):K Q S b a:=by
 have:P=Q:=funext λp=>propext (h p);rw[← this];exact H
noncomputable def nd0(x:Wd):Option Nat:=if x=[] then Y 0 else J
def fS(h:nd0 x=Y n):x=[]/\n=0:=by
 unfold nd0 at h;split at h
 ·exact⟨by assumption,(Zl h).symm⟩
 ·cases h
def K0:K (λp=>p=[]) S0 nd0 [[]]:=by
 refine⟨⟨EF,rfl,λn d=>?_,rfl,rfl,λ{x n} h=>?_,λ{x n} h=>?_,λ{n} d=>?_,λ{x y n} h b a=>?_,λ{x c n} h=>?_,λ{x y n} h b=>?_,rfl,λ{n} b a=>?_,λ{x n} h c=>?_⟩,rfl,λx=>?_,λ{x y m n} b a=>?_⟩
 ·have:n=0:=Nat.lt_one_iff.mp d;subst this;rfl
 ·rw[(fS h).2];exact Nat.one_pos
 ·rw[(fS h).1];exact WT
 ·have:n=0:=Nat.lt_one_iff.mp d;subst this;rfl
 ·have e:=(fS h).2;subst e;have:y=[]:=YA.mp a;subst this;rfl
 ·have:=(fS h).1;exact absurd this (by simp)
 ·have e:=(fS h).1;subst e;have:x=[]:=YA.mp b;subst this;exact⟨0,rfl⟩
 ·have:n<1:=a;lia
 ·obtain⟨rfl,rfl⟩:=(fS h)
  rfl
 ·constructor
  ·rintro⟨m,h⟩;exact⟨[],rfl,by rw[(fS h).1];exact WT⟩
  ·rintro⟨p,rfl,h⟩;have:x=[]:=YA.mp h;subst this;exact⟨0,rfl⟩
 ·obtain⟨rfl,rfl⟩:=fS b;obtain⟨rfl,rfl⟩:=fS a;exact⟨λ_ _ _=>Iff.rfl,λ_=>rfl⟩
section
theorem K.step(H:K P S nd wd)(C:h<wd.length)(D:97<=c/\c<=122)(A:(W wd h).length+1<1000) :
  ∃g r j KI,hb S h c=.some (g,r)/\K (λp=>P p\/p=W wd h++[c]) g j KI/\r<KI.length/\W KI r=W wd h++[c]/\(∀m,m<wd.length->W KI m=W wd m)/\wd.length<=KI.length/\KI.length<=wd.length+2:=by
 refine L2.ai λU v=>?_;obtain⟨g,r,j,KI,e,R,Q,O,N,G,F,u,E⟩:=H.i.step C D A;refine v ?_;refine⟨g,r,j,KI,e,⟨R,.inl H.nil,λx=>?_,λ{x y m n} s o=>?_⟩,Q,O,N,G,F⟩
 ·rw[u,H.some];constructor
  ·rintro (⟨p,a,b⟩ | a)
   ·exact⟨p,.inl a,b⟩
   ·exact⟨_,.inr L,a⟩
  ·rintro⟨p,a | rfl,b⟩
   ·exact .inl ⟨p,a,b⟩
   ·exact .inr b
 ·rw[E.eq s o];have un:∀{z q},j z=.some q->nd z=J->z <:+ W wd h++[c]/\∀p,P p->¬z <:+ p:=λ{z q} a b=>⟨((u z).mp ⟨q,a⟩).elim (λ⟨m,x⟩=>by rw[b]at x;cases x) id,λp d w=>by
   obtain⟨m,x⟩:=(H.some z).mpr ⟨p,d,w⟩;rw[b]at x;cases x⟩
  have old:nd x=nd y ↔ ∀p,P p->(x <:+ p↔y <:+ p):=by
   cases ex:nd x with
   |some a =>
    cases f:nd y with
    |some b=>exact⟨λe=>(H.eq ex f).mp (Zl e),λe=>by rw[(H.eq ex f).mpr e]⟩
    |none =>
     refine⟨λe=>(nomatch e),λe=>?_⟩;obtain⟨p,d,l⟩:=(H.some x).mp ⟨a,ex⟩;exact absurd ((e p d).mp l) ((un o f).2 p d)
   |none =>
    cases f:nd y with
    |some b =>
     refine⟨λe=>(nomatch e),λe=>?_⟩;obtain⟨p,d,l⟩:=(H.some y).mp ⟨b,f⟩;exact absurd ((e p d).mpr l) ((un s ex).2 p d)
    |none=>exact⟨λ_ p d=>⟨λz=>absurd z ((un s ex).2 p d),λz=>absurd z ((un o f).2 p d)⟩,λ_=>rfl⟩
  rw[old];constructor
  ·rintro⟨a,b⟩ p (d | rfl)
   ·exact a p d
   ·exact b
  ·intro a;exact⟨λp d=>a p (.inl d),a _ (.inr L)⟩
end
def K.grow:∀(w:Uz){P:Wd->Prop}{S:St}{nd:Wd->Option Nat}{b:List Wd}(H:K P S nd b){h:Nat},h<b.length->P (W b h)->(∀c∈w,97<=c/\c<=122)->(W b h).length+w.length<1000 →
  ∃q r L KI,hg S h w=.some (q,r)/\K (λp=>P p\/∃v,v <+: w/\p=W b h++v) q L KI/\r<KI.length/\W KI r=W b h++w/\(∀m,m<b.length->W KI m=W b m)/\b.length<=KI.length/\KI.length<=b.length+2*w.length:=by
 intro w
 induction w with
 |nil =>
  intro P S nd b H h j i hw n;refine⟨S,h,nd,b,rfl,H.congr λp=>⟨.inl,?_⟩,j,(ZM _).symm,λ_ _=>rfl,Zn _,Zn _⟩;rintro (a | ⟨v,a,rfl⟩)
  ·exact a
  ·rw[List.prefix_nil.mp a,ZM];exact i
 |cons c w x =>
  intro P S nd b H h j i hw n;rw[Zf]at n;refine L2.ai λZ u=>?_;obtain⟨X,r1,U,s,e1,O,E,e,D,o,R⟩:=H.step j (hw c Zv) (by lia);obtain⟨G,r2,g,f,e2,N,C,A,z,y,Q⟩:=x O E (.inr e) (λd hd=>hw d (Zx _ hd)) (by rw[e,Zs,NN];lia);refine u ?_;refine⟨G,r2,g,f,?_,N.congr λp=>?_,C,?_,λm l=>by rw[z m (by exact Zg l o),D m l],by exact ZR o y,by rw[Zf];lia⟩
  ·show (hb S h c).bind _=_;rw[e1];exact e2
  ·rw[e];constructor
   ·rintro ((a | rfl) | ⟨v,a,rfl⟩)
    ·exact .inl a
    ·exact .inr ⟨[c],Vh.mpr ⟨rfl,List.nil_prefix⟩,rfl⟩
    ·exact .inr ⟨c :: v,Vh.mpr ⟨rfl,a⟩,by rw[Ze];rfl⟩
   ·rintro (a | ⟨v,a,rfl⟩)
    ·exact .inl (.inl a)
    ·cases v with
     |nil=>rw[ZM];exact .inl (.inl i)
     |cons d v =>
      obtain⟨rfl,F⟩:=Vh.mp a;exact .inr ⟨v,F,by rw[Ze];rfl⟩
  ·rw[A,e,Ze];rfl
def mB(S:St):List Wd->Option St
 |[]=>Y S
 |t :: b=>(hg S 0 t).bind λz=>mB z.1 b
def K.book:∀(b:List Wd){P:Wd->Prop}{S:St}{nd:Wd->Option Nat}{d:List Wd}(H:K P S nd d),(∀t∈b,∀c∈t,97<=c/\c<=122)->(∀t∈b,t.length<1000) →
  ∃m x KI,mB S b=.some m/\K (λp=>P p\/∃t∈b,p <+: t) m x KI/\d.length<=KI.length/\KI.length<=d.length+2*(b.map List.length).sum:=by
 intro b
 induction b with
 |nil =>
  intro P S nd d H _ _;refine⟨S,nd,d,rfl,H.congr λp=>⟨.inl,?_⟩,Zn _,Zd _ _⟩;rintro (a | ⟨t,f,_⟩)
  ·exact a
  ·cases f
 |cons t b q =>
  intro P S nd d H l j;refine L2.ai λO o=>?_;obtain⟨N,r1,L,n,e1,A,G,F,E,s,D⟩:=H.grow t (H.i.lt H.i.z) (by rw[H.i.wz];exact H.nil) (l t Zv) (by rw[H.i.wz];have:=j t Zv;simpa using this);obtain⟨w,h,g,e2,y,r,C⟩:=q A (λt f=>l t (Zx _ f)) (λt f=>j t (Zx _ f));refine o ?_;refine⟨w,h,g,?_,y.congr λp=>?_,by exact ZR s r,by rw[Zm,Xf];lia⟩
  ·show (hg S 0 t).bind _=_;rw[e1];exact e2
  ·rw[H.i.wz];constructor
   ·rintro ((a | ⟨v,a,rfl⟩) | ⟨u,e,a⟩)
    ·exact .inl a
    ·exact .inr ⟨t,Zv,a⟩
    ·exact .inr ⟨u,Zx _ e,a⟩
   ·rintro (a | ⟨u,e,a⟩)
    ·exact .inl (.inl a)
    ·rcases Zi.mp e with rfl | e
     ·exact .inl (.inr ⟨p,a,rfl⟩)
     ·exact .inr ⟨u,e,a⟩
noncomputable def Hd(b:List Wd)(p:Wd):Prop:=p=[]\/∃t∈b,p <+: t
def K.of(b:List Wd)(f:∀t∈b,∀c∈t,97<=c/\c<=122)(d:∀t∈b,t.length<1000):∃S nd a,mB S0 b=.some S/\K (Hd b) S nd a/\a.length<=1+2*(b.map List.length).sum:=by
 obtain⟨S,nd,a,e,H,_,l⟩:=K0.book b f d;exact⟨S,nd,a,e,H,l⟩
def sk(w:List (Nat×Nat)):Uz:=(List.range' 97 26).filter λc=>(gW w c).isSome
def visit(w:List (Nat×Nat)):Uz->Uz->Uz
 |[],met=>met
 |c :: r,met=>visit w r (if (gW w c).getD 0∈met then met else met++[(gW w c).getD 0])
def N2(S:St):Nat->Uz->Nat->Option (Uz)
 |k,met,d=>if d<met.length then (match k with
  |0=>J
  |k+1=>N2 S k (visit (S.wy.getD (met.getD d 0) []) (sk (S.wy.getD (met.getD d 0) [])) met) (d+1)) else Y met
def steps(S:St)(a:Uz)(n:Nat):List (Nat×Nat):=(sk (S.wy.getD n [])).map λc=>(c,a.idxOf ((gW (S.wy.getD n []) c).getD 0))
noncomputable abbrev Row:=Nat×Nat×Option Nat×List (Nat×Nat)
def row(S:St)(a:Uz)(n:Nat):Row:=match S.lk.getD n J with
 |none=>(0,0,J,steps S a n)
 |some l=>(S.lg.getD l 0+1,S.lg.getD n 0,Y (a.idxOf l),steps S a n)
def tab(S:St)(a:Uz):List Row:=a.map (row S a)
section
def l7{w:List (Nat×Nat)}{c:Nat}(h:c∈sk w):∃m,gW w c=Y m:=YS.mp (YM.mp h).2
theorem o8(hw:∀c m,gW w c=Y m->m<N):∀(r met:Uz),(∀c∈r,∃m,gW w c=Y m)->(∀x∈met,x<N)->∀x∈visit w r met,x<N
 |[],met,_,a=>a
 |c :: r,met,b,a=>by
  refine o8 hw r _ (λd hd=>b d (Zx _ hd)) ?_;obtain⟨m,e⟩:=b c Zv;rw[e,Wa];split
  ·exact a
  ·intro x g;rcases Zc.mp g with h | h
   ·exact a x h
   ·rw[ZZ.mp h];exact hw c m e
def getD_mem{l:Uz}(h:d<l.length):l.getD d 0∈l:=by
 rw[Zt,Zq h];exact Yu h
end
theorem lO{w:List (Nat×Nat)}:∀(r met:Uz),∃l,visit w r met=met++l
 |[],met=>⟨[],(ZM _).symm⟩
 |c :: r,met=>by
  obtain⟨l,e⟩:=lO (w:=w) r (if (gW w c).getD 0∈met then met else met++[(gW w c).getD 0]);show ∃l,visit w r _=_;rw[e];split
  ·exact⟨l,rfl⟩
  ·exact⟨_,Ze _ _ _⟩
theorem pk{w:List (Nat×Nat)}:∀(r met:Uz),met.Nodup->(visit w r met).Nodup
 |[],met,h=>h
 |c :: r,met,h=>by
  refine pk (w:=w) r _ ?_;split
  ·exact h
  ·rename_i q;rw[ZF];refine⟨h,by simp,λa d b hb e=>q ?_⟩;rw[ZZ.mp hb]at e;rw[← e];exact d
theorem qd{w:List (Nat×Nat)}:∀(r met:Uz),∀c∈r,(gW w c).getD 0∈visit w r met
 |d :: r,met,c,a=>by
  rcases Zi.mp a with rfl | a
  ·obtain⟨l,e⟩:=lO (w:=w) r (if (gW w c).getD 0∈met then met else met++[(gW w c).getD 0]);show _∈visit w r _;rw[e];refine Yl _ ?_;split
   ·assumption
   ·exact ZI _ Zv
  ·exact qd r _ c a
def zy(d:∀p∈w,97<=p.1/\p.1<=122)(h:gW w c=Y m):c∈sk w:=by
 refine YM.mpr ⟨?_,by rw[h];rfl⟩;obtain⟨p,a,_⟩:=Zy.mp h;have:=d p (List.mem_of_find?_eq_some a);have b:p.1=c:=by simpa using(List.find?_some a)
 rw[b]at this;rw[VC];lia
def FE(o:WF S):∀(k:Nat)(met:Uz)(d:Nat),met.Nodup->(∀x∈met,x<S.lg.length)->d<=met.length->S.lg.length<=k+d->(∀i,i<d->∀c m,gW (S.wy.getD (met.getD i 0) []) c=Y m->m∈met) →
  ∃l,N2 S k met d=Y (met++l)/\(met++l).Nodup/\(∀x∈met++l,x<S.lg.length)/\∀n∈met++l,∀c m,gW (S.wy.getD n []) c=Y m->m∈met++l:=by
 intro k;have fin:∀(met:Uz)(d:Nat),¬d<met.length->d<=met.length->(∀i,i<d->∀c m,gW (S.wy.getD (met.getD i 0) []) c=Y m->m∈met)->∀n∈met,∀c m,gW (S.wy.getD n []) c=Y m->m∈met:=by
  intro met d f b h n u c m e;obtain⟨i,g,q⟩:=List.mem_iff_getElem.mp u;refine h i (by lia) c m ?_;have:met.getD i 0=n:=by rw[Zt,Zq g,q];rfl
  rw[this];exact e
 induction k with
 |zero =>
  intro met d nd lt hd v h;have A:met.length<=S.lg.length:=by
   have:=sub_len met (List.range S.lg.length) nd λx s=>Yd.mpr (lt x s)
   rwa [MH]at this
  have a:¬d<met.length:=by lia
  refine⟨[],?_,?_⟩
  ·unfold N2;rw[Zo a,ZM]
  ·rw[ZM];exact⟨nd,lt,fin met d a hd h⟩
 |succ k r =>
  intro met d nd lt hd v h;by_cases a:d<met.length
  ·obtain⟨p,e1⟩:=lO (sk (S.wy.getD (met.getD d 0) [])) met;obtain⟨l,e,f,b,j⟩:=r (visit (S.wy.getD (met.getD d 0) []) (sk (S.wy.getD (met.getD d 0) [])) met) (d+1) (pk _ _ nd) (o8 (λc m e=>o.on _ c m e) _ _ (λc y=>l7 y) lt) (by rw[e1,Zs];lia) (by lia) (λi g c m e=>by
    have z:(visit (S.wy.getD (met.getD d 0) []) (sk (S.wy.getD (met.getD d 0) [])) met).getD i 0=met.getD i 0:=by
     rw[e1,Zt,Zt,Yt (by lia)]
    rw[z]at e;by_cases q:i=d
    ·subst q;have:=qd (w:=S.wy.getD (met.getD i 0) []) (sk (S.wy.getD (met.getD i 0) [])) met c (zy (o.SV _).2 e);rw[e]at this;exact this
    ·rw[e1];exact Yl _ (h i (by lia) c m e))
   rw[e1,Ze]at f b j;refine⟨p++l,?_,f,b,j⟩;unfold N2;rw[Zp a];show N2 S k _ (d+1)=_;rw[e,e1,Ze]
  ·refine⟨[],?_,?_⟩
   ·unfold N2;rw[Zo a,ZM]
   ·rw[ZM];exact⟨nd,lt,fin met d a hd h⟩
def DS{α:Type}{p:List α->Prop}(h0:p [])(h1:∀l a,p l->p (l++[a]))(l:List α):p l:=by
 have:∀l:List α,p l.reverse:=by
  intro l
  induction l with
  |nil=>exact h0
  |cons a l ih=>rw[List.reverse_cons];exact h1 _ a ih
 rw[← List.reverse_reverse l];exact this _
def K.met{S:St}(H:K P S nd wd){k:Nat}(hk:wd.length<=k):∃l,N2 S k [0] 0=Y (0 :: l)/\(0 :: l).Nodup/\(∀x,x∈0 :: l↔x<wd.length)/\(0 :: l).length=wd.length:=by
 have L:=H.i.len.symm;obtain⟨l,e,h1,h2,h3⟩:=FE H.i.wf k [0] 0 (by simp) (λx hx=>by rw[ZZ.mp hx];exact H.i.wf.pos) (ZA _) (by lia) (λi hi=>absurd hi (Nat.not_lt_zero _));have h0:∀(x:Wd) n,nd x=Y n->n∈0 :: l:=by
  intro x
  induction x using DS with
  |h0=>intro n e;rw[H.i.z]at e;cases e;exact Zv
  |h1 x c ih =>
   intro n e;obtain⟨m,hm⟩:=H.i.pre e;exact h3 m (ih m hm) c n (by rw[H.i.wy hm];exact e)
 have hx:∀x,x∈0 :: l↔x<wd.length:=λx=>⟨λz=>by rw[← L];exact h2 x z,λz=>h0 _ x (H.i.top z)⟩
 refine⟨l,e,h1,hx,Xs ?_ ?_⟩
 ·have:=sub_len (0 :: l) (List.range wd.length) h1 λx z=>Yd.mpr ((hx x).mp z)
  rwa [MH]at this
 ·have:=sub_len (List.range wd.length) (0 :: l) Vu λx z=>(hx x).mpr (Yd.mp z)
  rwa [MH]at this
end AU
end
section
namespace T48
open VS AU
def CC(w:List (Nat×Nat))(c:Nat):c∈w.map (·.1)↔(gW w c).isSome=M:=by
 rw[← FA,Xp,ZC];exact⟨λ⟨p,b,a⟩=>⟨p,b,by rw[a];exact beq_self_eq_true c⟩,λ⟨p,b,a⟩=>⟨p,b,by simpa using a⟩⟩
def xG{w:List (Nat×Nat)}(a:(w.map (·.1)).Nodup)(b:∀p∈w,97<=p.1/\p.1<=122):(sk w).Perm (w.map (·.1)):=by
 refine(List.perm_ext_iff_of_nodup ?_ a).mpr λc=>?_
 ·exact VO VX List.nodup_range'
 ·rw[CC];constructor
  ·intro h;exact(YM.mp h).2
  ·intro h;obtain⟨m,e⟩:=YS.mp h;exact zy b e
def Bm{w:List (Nat×Nat)}(e:(w.map (·.1)).Nodup)(d:∀p∈w,97<=p.1/\p.1<=122):g6 [(m,K6 w)]=Y (.fr,.lst ((sk w).map λc=>T.str [c])):=by
 show ((strs? ((w.map λp=>(T.str [p.1],T.int (p.2:Int))).map (·.1))).bind _)=_;have e1:(w.map λp=>(T.str [p.1],T.int (p.2:Int))).map (·.1)=(w.map (·.1)).map λc=>T.str [c]:=by
  rw[LU,LU];rfl
 rw[e1,strs_map (λc=>[c]),Zu,Zp]
 ·have:(sk w).map (λc=>[c])=fE ((w.map (·.1)).map λc=>[c]):=by
   refine qz ((xG e d).map _) ?_;rw[Y5];refine List.Pairwise.imp ?_ (List.Pairwise.filter _ (List.pairwise_lt_range'));intro a b j h;rcases Wb.mp h with h | ⟨_,h⟩
   ·lia
   ·exact absurd h (List.not_lt_nil _)
  rw[← this,LU];rfl
 ·refine⟨?_,Mz.mpr ?_⟩
  ·rw[Zw,← (xG e d).length_eq];have:(sk w).length<=(List.range' 97 26).length:=Xn _ _;rw[Ws]at this;lia
  intro s f;obtain⟨c,i,rfl⟩:=ZC.mp f;obtain⟨p,g,rfl⟩:=ZC.mp i;have:=d p g;show (decide (1<=fI)&&(decide (p.1<1114112)&&M))=M;rw[decide_eq_true (show p.1<1114112 by lia)];rfl
noncomputable def nE:Nat->Uz->List (T×T)
 |_,[]=>[]
 |k,n :: r=>(T.int (n:Int),T.int (k:Int)) :: nE (k+1) r
theorem An:∀(met:Uz)(k:Nat),(nE k met).length=met.length
 |[],_=>rfl
 |_ :: r,k=>by rw[nE,Zf,Zf,An r]
theorem sC:∀(met:Uz)(k:Nat),(nE k met).map (·.1)=met.map λ(n:Nat)=>T.int (n:Int)
 |[],_=>rfl
 |_ :: r,k=>by rw[nE,Zm,Zm,sC r]
theorem zQ:∀(met:Uz)(k n:Nat),nE k (met++[n])=nE k met++[(T.int (n:Int),T.int ((k+met.length:Nat):Int))]
 |[],k,n=>rfl
 |m :: r,k,n=>by
  rw[Vs,nE,nE,zQ r (k+1) n,Zf,Vs];rw[show k+1+r.length=k+(r.length+1) by lia]
def JZ(a b:Nat):eqT (.int (a:Int)) (.int (b:Int))=(a==b):=by
 simp only[eqT];by_cases h:a=b
 ·simp[h]
 ·rw[beq_eq_false_iff_ne.mpr h,beq_eq_false_iff_ne.mpr (by lia)]
theorem rC:∀(met:Uz)(k n:Nat),eA (nE k met) (.int (n:Int))=if n∈met then Y (T.int ((k+met.idxOf n:Nat):Int)) else J
 |[],_,_=>rfl
 |m :: r,k,n=>by
  show ((((T.int (m:Int),T.int (k:Int)) :: nE (k+1) r).find? λp=>eqT p.1 (.int (n:Int))).map (·.2))=_;rw[Yh];simp only[JZ];by_cases h:m=n
  ·subst h;simp[List.idxOf_cons]
  ·have hb:=beq_eq_false_iff_ne.mpr h;have a:=rC r (k+1) n;unfold eA at a;simp only[hb];rw[a,List.idxOf_cons,hb];by_cases q:n∈r
   ·rw[Zp q,Zp (Zx _ q)];show Y (T.int ((k+1+r.idxOf n:Nat):Int))=Y (T.int ((k+(r.idxOf n+1):Nat):Int));rw[show k+1+r.idxOf n=k+(r.idxOf n+1) by lia]
   ·rw[Zo q,Zo (λz=>(Zi.mp z).elim (λe=>h e.symm) q)]
def HE(a:Uz)(n:Nat)(h:n∉a):dput (nE 0 a) (.int (n:Int)) (.int (a.length:Int))=nE 0 (a++[n]):=by
 unfold dput;rw[Zo,zQ]
 ·rw[YJ]
 ·intro z;obtain⟨p,b,e⟩:=Xp.mp z;have:(eA (nE 0 a) (.int (n:Int))).isSome=M:=by
   unfold eA;rw[Xj,List.find?_isSome];exact⟨p,b,e⟩
  rw[rC,Zo h]at this;cases this
def nT(a:Uz):T:=.dct 0 (nE 0 a)
noncomputable def mT(a:Uz):T:=.lst (a.map λ(n:Nat)=>T.int (n:Int))
def Ey{n:Nat}(h:a U=Y (m,nT d))(he:e U=Y (k,.int (n:Int))):e2 cN e a U=Y (.fr,.bl (decide (n∉d))):=e2v he h (by
 show (match (if M=M then Y (Md.fr,T.bl (eA (nE 0 d) (.int (n:Int))).isSome) else J) with | some (_,.bl b)=>some (Md.fr,T.bl (!b)) | _=>none)=_;rw[Zp L,rC];by_cases q:n∈d
 ·rw[Zp q,ZS (λz=>z q)];rfl
 ·rw[Zo q,decide_eq_true q];rfl)
section
theorem BV{d:Nat}:∀(r met:Uz)(z:Uw),(∀c∈r,∃m,gW w c=Y m)->met.length+r.length<16777216->∃b,forL (bB 5) c6 (r.map λc=>T.str [c]) [a,oc (nT met),oc (mT met),Q0 (d:Int),pc (K6 w),z]=Y (.nx [a,oc (nT (visit w r met)),oc (mT (visit w r met)),Q0 (d:Int),pc (K6 w),b])
 |[],met,z,_,_=>⟨z,rfl⟩
 |c :: r,met,z,h,l=>by
  obtain⟨m,e⟩:=h c Zv;rw[Zf]at l;by_cases q:m∈met
  ·obtain⟨b,g⟩:=BV r met (Q2 ([c])) (λd hd=>h d (Zx _ hd)) (by lia);refine⟨b,?_⟩;have ev:visit w (c :: r) met=visit w r met:=by
    show visit w r (if (gW w c).getD 0∈met then met else met++[(gW w c).getD 0])=_;rw[e,Wa,Zp q]
   rw[ev,Zm];refine(eD L ?_).trans g;refine(mU (m:=.fr) ?_).trans L;refine(Ey L (yR L L e)).trans ?_;rw[ZS (λz=>z q)]
  ·obtain⟨b,g⟩:=BV r (met++[m]) (Q2 ([c])) (λd hd=>h d (Zx _ hd)) (by rw[Zs,NN];lia);refine⟨b,?_⟩;have ev:visit w (c :: r) met=visit w r (met++[m]):=by
    show visit w r (if (gW w c).getD 0∈met then met else met++[(gW w c).getD 0])=_;rw[e,Wa,Zo q]
   rw[ev,Zm];refine(eD L ?_).trans g;refine(rG (m:=.fr) ?_).trans ?_
   ·refine(Ey L (yR L L e)).trans ?_;rw[decide_eq_true q]
   ·have f:∀nn i:Uw,e2 MD (aa 4) (aa 5) [a,nn,i,Q0 (d:Int),pc (K6 w),Q2 ([c])]=Y (.fr,.int (m:Int)):=λnn i=>yR L L e;have j:wb 1 (e2 MD (aa 4) (aa 5)) (eN cq (ae (aa 2) aj)) [a,oc (nT met),oc (mT met),Q0 (d:Int),pc (K6 w),Q2 ([c])]=Y (.nx [a,oc (nT (met++[m])),oc (mT met),Q0 (d:Int),pc (K6 w),Q2 ([c])]):=by
     unfold wb;rw[(gF (xv (x:=(.bo,mT met)) L L) (by
      show Y (Md.fr,T.int (((met.map λ(n:Nat)=>T.int (n:Int)).length:Nat):Int))=_;rw[Zw])),Zu]
     show ((e2 MD (aa 4) (aa 5) [a,oc (nT met),oc (mT met),Q0 (d:Int),pc (K6 w),Q2 ([c])]).bind _)=_;rw[f,Zu];rw[Zp ⟨rfl,rfl,by rw[(An met 0)];show met.length<16777216;lia⟩,HE met m q];rfl
    refine(aq j).trans ?_;refine(rh L (f _ _) (by rw[Zw];lia)).trans ?_;rw[show (met.map λ(n:Nat)=>T.int (n:Int))++[.int (m:Int)]=(met++[m]).map λ(n:Nat)=>T.int (n:Int) from by rw[Yy];rfl];rfl
end
def vo(w:List (Nat×Nat)):(sk w).length<=26:=by
 refine ZR (Xn _ _) ?_;rw[Ws];exact Zn _
def DJ{S:St}{a:Uz}(b:a.Nodup)(d:∀x∈a,x<S.lg.length):a.length<=S.lg.length:=by
 have:=sub_len a (List.range S.lg.length) b λx e=>Yd.mpr (d x e)
 rwa [MH]at this
def Ju(l:WF S)(A:S.lg.length<=100001):∀(k:Nat)(met:Uz)(d:Nat)(M:Uz),met.Nodup->(∀x∈met,x<S.lg.length)->N2 S k met d=Y M->∀N,k<N->∀f a:Uw,∃j g v,
  dM (e2 oLt (aa 3) (eN cq (ae (aa 2) aj))) di N [pc (Kf S B),oc (nT met),oc (mT met),Q0 ((d:Nat):Int),f,a] =
   Y (.nx [pc (Kf S B),oc (nT M),oc (mT M),pc j,g,v]):=by
 have cond:∀(met:Uz)(d:Nat)(f a:Uw),e2 oLt (aa 3) (eN cq (ae (aa 2) aj)) [pc (Kf S B),oc (nT met),oc (mT met),Q0 ((d:Nat):Int),f,a]=Y (.fr,.bl (decide (d<met.length))):=λmet d f a =>
  e2v L (gF (xv L L) (by
   show Y (Md.fr,T.int (((met.map λ(n:Nat)=>T.int (n:Int)).length:Nat):Int))=_;rw[Zw])) (by
   show Y (Md.fr,T.bl (decide ((d:Int)<(met.length:Int))))=_;rw[show decide ((d:Int)<(met.length:Int))=decide (d<met.length) from decide_eq_decide.mpr (by lia)])
 intro k
 induction k with
 |zero =>
  intro met d M nd lt e N hN f a;obtain⟨N,rfl⟩:∃M,N=M+1:=⟨N-1,by lia⟩
  unfold N2 at e;split at e
  ·cases e
  ·rename_i h;cases e;exact⟨_,f,a,fY ((cond _ _ _ _).trans (by rw[ZS h]))⟩
 |succ k u =>
  intro met d M nd lt e N hN f a;obtain⟨N,rfl⟩:∃M,N=M+1:=⟨N-1,by lia⟩
  unfold N2 at e;split at e
  ·rename_i h;have w:met.getD d 0<S.wy.length:=by rw[l.wy];exact(lt _ (getD_mem h))
   have z:=DJ nd lt;have y:=vo (S.wy.getD (met.getD d 0) []);obtain⟨o,s⟩:=BV (sk (S.wy.getD (met.getD d 0) [])) met a (λc i=>l7 i) (by lia);obtain⟨j,r,p,q⟩:=u _ (d+1) M (pk _ _ nd) (o8 (λc m e=>l.on _ c m e) _ _ (λc i=>l7 i) lt) e N (by exact Wi hN) (pc (K6 (S.wy.getD (met.getD d 0) []))) o;refine⟨j,r,p,(nH ((cond _ _ _ _).trans (by rw[decide_eq_true h])) ?_).trans q⟩;have ix:e2 aE (aa 2) (aa 3) [pc (Kf S B),oc (nT met),oc (mT met),Q0 ((d:Nat):Int),f,a]=Y (.fr,.int ((met.getD d 0:Nat):Int)):=e2v L L (iU _ met d 0 h);refine(aq (aQ (m:=.pu) (pq (S:=S) (b:=B) (m:=.pu) (n:=.fr) L ix w) (by decide) (by decide:4<6))).trans ?_;have nw:=l.SV (met.getD d 0);refine(aq ((dG (m:=.fr) ?_ L).trans s)).trans ?_
   ·show (eN g6 (ae (aa 4) aj) _).bind zM=_;rw[gF (xv L L) (Bm nw.1 nw.2)];rfl
   ·exact aQ L (by decide) (by decide:3<6)
  ·rename_i h;cases e;exact⟨_,f,a,fY ((cond _ _ _ _).trans (by rw[ZS h]))⟩
def G2(a:WF S)(g:S.lg.length<=100001){M:Uz}(h:k<1000000)(e:N2 S k [0] 0=Y M):aI [Kf S B]=Y (.fr,nT M):=by
 obtain⟨i,d,b,q⟩:=Ju a g k [0] 0 M (by simp) (λx f=>by rw[ZZ.mp f];exact a.pos) e yM (by exact h) J J;refine gP (U:=[pc (Kf S B),J,pc (mT M),pc i,d,b]) L ?_;exact(aq L).trans ((aq L).trans ((aq L).trans ((aq q).trans ((aq L).trans L))))
noncomputable def Nz(l:List (Nat×Nat)):T:=.tup (l.map λp=>T.tup [.str [p.1],.int (p.2:Int)])
def pE(r:Row):T:=.tup [.int (r.1:Int),.int (r.2.1:Int),KO r.2.2.1,Nz r.2.2.2]
theorem wH:∀l:List (Nat×Nat),gE (l.map λp=>T.tup [.str [p.1],.int (p.2:Int)])=M
 |[]=>rfl
 |p :: l=>by
  rw[Zm];show (M&&gE _)=M;rw[wH l];rfl
def pj(l:List (Nat×Nat)):Kh (Nz l)=M:=wH l
def D2(r:Row):Kh (pE r)=M:=by
 show (M&&(M&&(Kh (KO r.2.2.1)&&(Kh (Nz r.2.2.2)&&M))))=M;rw[j6,pj];rfl
def Iq(h:a U=Y (.fr,x))(g:b U=Y (.fr,y))(f:c U=Y (.fr,z))(e:d U=Y (.fr,w)):kB (ae a (ae b (ae c (ae d aj)))) U=Y (.fr,.tup [x,y,z,w]):=by
 show (ae a (ae b (ae c (ae d aj))) U).bind qw=_;rw[xv h (xv g (xv f (xv e L))),Zu];show Y (up .fr _)=_;unfold up;split<;>rfl
def Ge(b:WF S)(i:∀x,x<S.lg.length->x∈a)(f:n<S.lg.length):bU [Kf S B,.int (n:Int),.dct 3 (nE 0 a)]=Y (.fr,pE (row S a n)):=by
 have nw:=b.SV n;have get:∀v,v<S.lg.length->eA (nE 0 a) (.int (v:Int))=Y (T.int ((a.idxOf v:Nat):Int)):=λv p=>by rw[rC,Zp (i v p),YJ]
 have s1:bg 3 (e2 aE (bj 2 (aa 0)) (aa 1)) [pc (Kf S B),Q0 (n:Int),pc (.dct 3 (nE 0 a)),J,J,J]=Y (.nx [pc (Kf S B),Q0 (n:Int),pc (.dct 3 (nE 0 a)),pc (KO (S.lk.getD n J)),J,J]):=aQ (wY L L (by rw[b.lk];exact f)) (by decide) (by decide:3<6);have e:bg 4 (e2 aE (bj 3 (aa 0)) (aa 1)) [pc (Kf S B),Q0 (n:Int),pc (.dct 3 (nE 0 a)),pc (KO (S.lk.getD n J)),J,J]=Y (.nx [pc (Kf S B),Q0 (n:Int),pc (.dct 3 (nE 0 a)),pc (KO (S.lk.getD n J)),pc (K6 (S.wy.getD n [])),J]):=aQ (m:=.pu) (pq L L (by rw[b.wy];exact f)) (by decide) (by decide:4<6);have r:eN kC (ae (dv 1 (bB 0) (fU (eN g6 (ae (aa 4) aj))) J (kB (ae (aa 0) (ae (e2 uw (aa 3) (e2 MD (aa 5) (aa 0))) aj)))) aj) [pc (Kf S B),Q0 (n:Int),pc (.dct 3 (nE 0 a)),pc (KO (S.lk.getD n J)),pc (K6 (S.wy.getD n [])),J]=Y (.fr,Nz (steps S a n)):=by
  have s:=dn (k:=1) (tg:=bB 0) (it:=fU (eN g6 (ae (aa 4) aj))) (elt:=kB (ae (aa 0) (ae (e2 uw (aa 3) (e2 MD (aa 5) (aa 0))) aj))) (U:=[pc (Kf S B),Q0 (n:Int),pc (.dct 3 (nE 0 a)),pc (KO (S.lk.getD n J)),pc (K6 (S.wy.getD n [])),J]) (λc=>T.str [c]) (λc=>T.tup [.str [c],.int ((a.idxOf ((gW (S.wy.getD n []) c).getD 0):Nat):Int)]) (sk (S.wy.getD n [])) (by
   show (eN g6 (ae (aa 4) aj) _).bind zM=_;rw[gF (xv L L) (Bm nw.1 nw.2)];rfl) L (ZR (vo _) (by decide)) (λc q=>by
   obtain⟨v,ev⟩:=l7 q;refine⟨[Q2 ([c]),pc (Kf S B),Q0 (n:Int),pc (.dct 3 (nE 0 a)),pc (KO (S.lk.getD n J)),pc (K6 (S.wy.getD n [])),J],rfl,?_⟩;rw[ev,Wa];show (ae (aa 0) (ae (e2 uw (aa 3) (e2 MD (aa 5) (aa 0))) aj) _).bind qw=_;rw[xv L (xv (e2v (x:=(.pu,.dct 3 (nE 0 a))) L (yR (m:=.pu) (n:=.fr) (c:=c) (w:=S.wy.getD n []) L L ev) (by
     show (if M=M then (eA (nE 0 a) (.int (v:Int))).map (sub .pu) else J)=_;rw[Zp L,get v (b.on n c v ev)];rfl)) L)]
   rfl)
  refine gF (xv s L) ?_;show (if _<=fI then Y (up .fr (.tup _)) else J)=_;rw[Zp (by rw[Zw];exact ZR (vo _) (by decide))];have:T.tup ((sk (S.wy.getD n [])).map λc=>T.tup [.str [c],.int ((a.idxOf ((gW (S.wy.getD n []) c).getD 0):Nat):Int)])=Nz (steps S a n):=by
   unfold Nz steps;rw[LU];rfl
  rw[this];unfold up;rw[pj];rfl
 have d:=aQ r (by decide) (by decide:5<6);have j:∀U:Env,U[5]?=Y (pc (Nz (steps S a n)))->aa 5 U=Y (.fr,Nz (steps S a n)):=λU h=>by
  show (match U[5]? with | some (some (.pu t))=>some (up .pu t) | some (some (.ow t))=>some (.bo,t) | _=>none)=_;rw[h];show Y (up .pu _)=_;unfold up;rw[pj];rfl
 unfold row;cases g:S.lk.getD n J with
 |none =>
  rw[g]at s1 e d;refine gP (U:=[pc (Kf S B),Q0 (n:Int),pc (.dct 3 (nE 0 a)),pc (KO J),pc (K6 (S.wy.getD n [])),pc (Nz (steps S a n))]) L ?_;refine(aq s1).trans ((aq e).trans ((aq d).trans (kD ((rG L).trans (fG (Iq L L L (j _ L)))))))
 |some l =>
  rw[g]at s1 e d;have o:=b.up n l g;refine gP (U:=[pc (Kf S B),Q0 (n:Int),pc (.dct 3 (nE 0 a)),pc (KO (Y l)),pc (K6 (S.wy.getD n [])),pc (Nz (steps S a n))]) L ?_;refine(aq s1).trans ((aq e).trans ((aq d).trans ((aq ((mU L).trans L)).trans (fG (Iq ?_ ?_ ?_ (j _ L))))))
  ·exact e2v (uS L L o) L L
  ·exact uS L L f
  ·exact e2v L L (by
    show (if M=M then (eA (nE 0 a) (.int (l:Int))).map (sub .pu) else J)=_;rw[Zp L,get l o];rfl)
def Lb(t:List Row):T:=.lst (t.map pE)
def Hz(b:WF S)(g:S.lg.length<=100001){M:Uz}{k:Nat}(l:k<1000000)(e:N2 S k [0] 0=Y M)(a:∀x,x∈M↔x<S.lg.length)(j:M.length<=16777216):dD [Kf S B]=Y (.fr,Lb (tab S M)):=by
 have d:=G2 b g l e;refine gP (U:=[pc (Kf S B),J]) L ?_;have s1:kc 1 (fN 0 aI (aa 0) aj) [pc (Kf S B),J]=Y (.nx [pc (Kf S B),oc (nT M)]):=by
  show (fN 0 aI (aa 0) aj [pc (Kf S B),J]).bind _=_;have:fN 0 aI (aa 0) aj [pc (Kf S B),J]=Y (.fr,nT M):=by
   show ((aI [Kf S B]).bind _)=_;rw[d];rfl
  rw[this];rfl
 refine(aq s1).trans ?_;have o:=dn (k:=1) (tg:=bB 0) (it:=wx 1) (elt:=fN 0 bU (aa 1) (ae (aa 0) (ae (aa 2) aj))) (m:=.fr) (U:=[pc (Kf S B),pc (.dct 3 (nE 0 M))]) (λ(n:Nat)=>T.int (n:Int)) (λn=>pE (row S M n)) M (by
  show (if ((nE 0 M).all λp=>isInt p.1)=true then Y (Md.fr,(nE 0 M).map (·.1)) else J)=_;rw[Zp,sC];rw[Mz];intro p h;have:p.1∈(nE 0 M).map (·.1):=List.mem_map_of_mem h;rw[sC]at this;obtain⟨n,_,e⟩:=ZC.mp this;rw[← e];rfl) L j (λn i=>by
  refine⟨[Q0 (n:Int),pc (Kf S B),pc (.dct 3 (nE 0 M))],rfl,?_⟩;show ((bU [Kf S B,.int (n:Int),.dct 3 (nE 0 M)]).bind _)=_;rw[Ge b (λx f=>(a x).mpr f) ((a n).mp i)];rfl)
 show ((dv 1 (bB 0) (wx 1) J (fN 0 bU (aa 1) (ae (aa 0) (ae (aa 2) aj))) [pc (Kf S B),pc (.dct 3 (nE 0 M))]).bind _)=_;rw[o];unfold Lb tab;rw[LU];rfl
def OX(a:List Tx)(b:Uz)(S:St):sO:=[(4,.lst (a.map .str)),(5,.lst (b.map λ(n:Nat)=>T.int (n:Int))),(6,Kf S B)]
def Ko(a:List Tx)(d:Uz)(S:St)(b:Bool):T:=.obj 2 ((0,.bl b) :: OX a d S)
def C8(S:St):fD (Kf S B)=M:=by
 show ((M && !(0==0&&B))&&ft (Nn S))=M;rw[kF];rfl
def lD(a:List Tx)(b:Uz)(S:St):ft (OX a b S)=M:=by
 have e:fD (.lst (a.map T.str))=M:=eV _ (λ_=>rfl) _;have d:fD (.lst (b.map λ(n:Nat)=>T.int (n:Int)))=M:=eV _ (λ_=>rfl) _;show ((fD _ && !(4==0&&RB _))&&((fD _ && !(5==0&&RB _))&&((fD _ && !(6==0&&RB _))&&M)))=M;rw[e,d,C8];rfl
def Dj(a:List Tx)(d:Uz)(S:St)(b:Bool):qG 4 (Ko a d S b)=Y (.lst (a.map .str)):=rfl
def JM(d:List Tx)(a:Uz)(S:St)(b:Bool):qG 5 (Ko d a S b)=Y (.lst (a.map λ(n:Nat)=>T.int (n:Int))):=rfl
def Kc(a:List Tx)(d:Uz)(S:St)(b:Bool):qG 6 (Ko a d S b)=Y (Kf S B):=rfl
section
def BD{m:Md}(h:a U=Y (m,Ko tx hd S b)):eN cq (ae (bj 4 a) aj) U=Y (.fr,.int (tx.length:Nat)):=gF (xv (hZ h (Dj tx hd S b)) L) (by
 show Y (Md.fr,T.int (((tx.map T.str).length:Nat):Int))=_;rw[Zw])
def HG{e:Ex}{v:Tx}(h:e (oc (Ko tx hd S b) :: r)=Y (.fr,.str v))(f:tx.length<16777216):sX (iT 0 [.fld 4] aJ (ae e aj)) (oc (Ko tx hd S b) :: r)=Y (.nx (oc (Ko (tx++[v]) hd S b) :: r)):=by
 show (((Y [Ky.fld 4]).bind λd=>(ae e aj (oc (Ko tx hd S b) :: r)).bind λa=>(pm (λx=>aJ x a) d (Ko tx hd S b)).map _).map _)=_;rw[Zu,xv (r:=aj) h L,Zu];show (((aJ (.lst (tx.map T.str)) [(.fr,.str v)]).map _).map _ |>.map _)=_;rw[dJ (by rw[Zw];exact f),show (tx.map T.str)++[.str v]=(tx++[v]).map T.str from by rw[Yy];rfl];rfl
def G5{e:Ex}{v:Nat}(h:e (oc (Ko tx hd S b) :: r)=Y (.fr,.int (v:Int)))(f:hd.length<16777216):sX (iT 0 [.fld 5] aJ (ae e aj)) (oc (Ko tx hd S b) :: r)=Y (.nx (oc (Ko tx (hd++[v]) S b) :: r)):=by
 show (((Y [Ky.fld 5]).bind λd=>(ae e aj (oc (Ko tx hd S b) :: r)).bind λa=>(pm (λx=>aJ x a) d (Ko tx hd S b)).map _).map _)=_;rw[Zu,xv (r:=aj) h L,Zu];show (((aJ (.lst (hd.map λ(n:Nat)=>T.int (n:Int))) [(.fr,.int (v:Int))]).map _).map _ |>.map _)=_;rw[dJ (by rw[Zw];exact f),show (hd.map λ(n:Nat)=>T.int (n:Int))++[.int (v:Int)]=(hd++[v]).map λ(n:Nat)=>T.int (n:Int) from by rw[Yy];rfl];rfl
def Au{tx:List Tx}{hd:Uz}(h:tx.length<8)(i:hd.length=tx.length):bD (OX tx hd S) []=Y (OX (tx++[[]]) (hd++[0]) S,.int (tx.length:Int)):=by
 unfold bD Mm;rw[Zp ⟨rfl,rfl⟩];have a:e2 Ti (eN cq (ae (bj 4 (aa 0)) aj)) (Q3 8) [oc (Ko tx hd S M)]=Y (.fr,.bl B):=e2v (BD (m:=.bo) L) L (by
  show Y (Md.fr,T.bl (decide ((8:Int)<=(tx.length:Int))))=_;rw[ZS (by omega)])
 have g:=HG (tx:=tx) (hd:=hd) (S:=S) (b:=M) (r:=[]) (e:=eC (.str [])) (v:=[]) L (by omega);have f:=G5 (tx:=tx++[[]]) (hd:=hd) (S:=S) (b:=M) (r:=[]) (e:=Q3 0) (v:=0) L (by omega);have d:=fG (e:=e2 vi (eN cq (ae (bj 4 (aa 0)) aj)) (Q3 1)) (U:=[oc (Ko (tx++[[]]) (hd++[0]) S M)]) (t:=.int (tx.length:Int)) (e2v (BD (m:=.bo) L) L (by
  show Y (Md.fr,T.int ((((tx++[[]]).length:Nat):Int)-1))=_;rw[Zs,NN,show (((tx.length+1:Nat)):Int)-1=(tx.length:Int) by omega]))
 exact congrArg (λz:Option Out=>z.bind _) ((aq ((mU a).trans L)).trans ((aq g).trans ((aq f).trans d)))
def HM{l:Ut}(a:i<l.length):bu [.lst l,.int (i:Int)]=Y (.fr,.non):=by
 refine Fd (U:=[pc (.lst l),Q0 (i:Int)]) L ?_;refine(mU (m:=.fr) (AQ (m:=.fr) (x:=B) ?_ (λ_=>?_) (λh=>by cases h))).trans rfl
 ·exact rq (m:=.fr) (b:=M) L
 ·refine rq (m:=.fr) (b:=M) (nJ (x:=(.fr,.int 0)) (y:=(.fr,.int (i:Int))) (z:=(.fr,.int (l.length:Int))) L L ?_ (gF (xv (x:=(.pu,.lst l)) L L) L) ?_)
  ·show Y (Md.fr,T.bl (decide ((0:Int)<=(i:Int))))=_;rw[decide_eq_true (by omega)]
  ·show Y (Md.fr,T.bl (decide ((i:Int)<(l.length:Int))))=_;rw[decide_eq_true (by omega)]
def yq{tx:List Tx}(a:i<tx.length):bu [.lst (tx.map .str),.int (i:Int)]=Y (.fr,.non):=HM (by rw[Zw];exact a)
end
noncomputable def eU(a:List Tx):Nat:=(a.map List.length).sum
theorem xJ:∀a:List Tx,(a.map λt=>(t.length:Int)).sum=(eU a:Int)
 |[]=>rfl
 |t :: a=>by
  rw[Zm,Xf,xJ a];unfold eU;rw[Zm,Xf];omega
def Bz(a:List Tx)(b:a.length<=16777216):gy [.lst (a.map .str)]=Y (.fr,.int (eU a:Int)):=by
 refine gP (U:=[pc (.lst (a.map .str))]) L ?_;refine fG (gF (xv (r:=aj) (dn (m:=.pu) T.str (λ(t:Tx)=>T.int (t.length:Int)) a L L b (λt d=>⟨[Q2 t,pc (.lst (a.map .str))],rfl,rfl⟩)) L) ?_);show (sM (a.map λ(t:Tx)=>T.int (t.length:Int))).bind _=_;rw[ints_map (λ(t:Tx)=>(t.length:Int)),Zu,xJ]
section
def HC{hd:Uz}{i v:Nat}{e ev:Ex}{n:Md}{r:List (Uw)}(g:i<hd.length)(he:e (oc (Ko tx hd S b) :: r)=Y (n,.int (i:Int)))(a:ev (oc (Ko tx hd S b) :: r)=Y (.fr,.int (v:Int))) :
  fC 0 [.fld 5] e ev (oc (Ko tx hd S b) :: r)=Y (.nx (oc (Ko tx (hd.set i v) S b) :: r)):=by
 unfold fC;rw[a,Zu];show ((keys [.fld 5] (oc (Ko tx hd S b) :: r)).bind _)=_;have f:keys [.fld 5] (oc (Ko tx hd S b) :: r)=Y [.fld 5]:=rfl;rw[f,Zu,he,Zu];have d:pm (lL (n,.int (i:Int)) (.fr,.int (v:Int))) [.fld 5] (Ko tx hd S b)=Y (Ko tx (hd.set i v) S b,()):=by
  show ((lL (n,.int (i:Int)) (.fr,.int (v:Int)) (.lst (hd.map λ(n:Nat)=>T.int (n:Int)))).map _)=_;have:lL (n,.int (i:Int)) (.fr,.int (v:Int)) (.lst (hd.map λ(n:Nat)=>T.int (n:Int)))=Y (.lst ((hd.set i v).map λ(n:Nat)=>T.int (n:Int)),()):=by
   show ((Ll (hd.map λ(n:Nat)=>T.int (n:Int)).length (i:Int)).map _)=_;rw[Zw,vN g,Wh];rfl
  rw[this];rfl
 rw[d];rfl
def Gc{tx:List Tx}{n:Md}(h:i<tx.length)(he:e (oc (Ko tx hd S b) :: r)=Y (n,.int (i:Int)))(d:a (oc (Ko tx hd S b) :: r)=Y (.fr,.str v)) :
  fC 0 [.fld 4] e a (oc (Ko tx hd S b) :: r)=Y (.nx (oc (Ko (tx.set i v) hd S b) :: r)):=by
 unfold fC;rw[d,Zu];show ((keys [.fld 4] (oc (Ko tx hd S b) :: r)).bind _)=_;have g:keys [.fld 4] (oc (Ko tx hd S b) :: r)=Y [.fld 4]:=rfl;rw[g,Zu,he,Zu];have f:pm (lL (n,.int (i:Int)) (.fr,.str v)) [.fld 4] (Ko tx hd S b)=Y (Ko (tx.set i v) hd S b,()):=by
  show ((lL (n,.int (i:Int)) (.fr,.str v) (.lst (tx.map T.str))).map _)=_;have:lL (n,.int (i:Int)) (.fr,.str v) (.lst (tx.map T.str))=Y (.lst ((tx.set i v).map T.str),()):=by
   show ((Ll (tx.map T.str).length (i:Int)).map _)=_;rw[Zw,vN h,Wh];rfl
  rw[this];rfl
 rw[f];rfl
def sI{tx:List Tx}{hd:Uz}{i r:Nat}{w:Tx}(W:WF S)(G:hd.length=tx.length)(a:i<tx.length)(H:tx.length<=8)(F:eU tx+w.length<=120)(q:S.lg.length+2*w.length<=100000)(p:hd.getD i 0<S.lg.length)(s:∀c∈w,97<=c/\c<=122)(E:(tx.getD i []).length<=120)(e:hg S (hd.getD i 0) w=Y (S',r)) :
  bC (OX tx hd S) [.int (i:Int),.str w]=Y (OX (tx.set i (tx.getD i []++w)) (hd.set i r) S',.non):=by
 obtain⟨D,C,A,g⟩:=E4 W q p s e;unfold bC Mm;rw[Zp ⟨rfl,rfl⟩];have s1:sX (xP (b7 bu (ae (bj 4 (aa 0)) (ae (aa 1) aj)))) [oc (Ko tx hd S M),Q0 (i:Int),Q2 w]=Y (.nx [oc (Ko tx hd S M),Q0 (i:Int),Q2 w]):=by
  have:b7 bu (ae (bj 4 (aa 0)) (ae (aa 1) aj)) [oc (Ko tx hd S M),Q0 (i:Int),Q2 w]=Y (.fr,.non):=bP (xv (hZ (m:=.bo) (t:=Ko tx hd S M) L (Dj tx hd S M)) (xv (x:=(.fr,.int (i:Int))) L L)) (yq a);show (((b7 bu _ _).map _).map _)=_;rw[this];rfl
 have u:e2 OK (e2 cu (b7 gy (ae (bj 4 (aa 0)) aj)) (eN cq (ae (aa 2) aj))) (Q3 120) [oc (Ko tx hd S M),Q0 (i:Int),Q2 w]=Y (.fr,.bl B) :=
  e2v (x:=(.fr,.int ((eU tx:Int)+(w.length:Int)))) (e2v (bP (xv (r:=aj) (hZ (m:=.bo) (t:=Ko tx hd S M) L (Dj tx hd S M)) L) (Bz tx (by omega))) (y:=(.fr,.int (w.length:Int))) L L) L (by
   show Y (Md.fr,T.bl (decide ((120:Int)<(eU tx:Int)+(w.length:Int))))=_;rw[ZS (by omega)])
 have f:bN 0 [.fld 6] 0 [B,B] aR (ae (e2 aE (bj 5 (aa 0)) (aa 1)) (ae (aa 2) aj)) [oc (Ko tx hd S M),Q0 (i:Int),Q2 w]=Y ((.fr,.int (r:Int)),[oc (Ko tx hd S' M),Q0 (i:Int),Q2 w]):=by
  show ((Y [Ky.fld 6]).bind λo=>(ae (e2 aE (bj 5 (aa 0)) (aa 1)) (ae (aa 2) aj) [oc (Ko tx hd S M),Q0 (i:Int),Q2 w]).bind λd=>(pm (mM 0 [B,B] aR d) o (Ko tx hd S M)).map λz=>(z.2,[oc z.1,Q0 (i:Int),Q2 w]))=_;rw[Zu,xv (x:=(.fr,.int ((hd.getD i 0:Nat):Int))) (e2v (hZ (m:=.bo) (t:=Ko tx hd S M) L (JM tx hd S M)) (y:=(.fr,.int (i:Int))) L (iU _ hd i 0 (by omega))) (xv (r:=aj) (x:=(.fr,.str w)) L L),Zu];show (((if 1=0+1/\ft (Nn S)=M/\argsOk [B,B] [(Md.fr,T.int ((hd.getD i 0:Nat):Int)),(Md.fr,T.str w)]=M/\bX (trees [(Md.fr,T.int ((hd.getD i 0:Nat):Int)),(Md.fr,T.str w)])=M then (aR (Nn S) [.int ((hd.getD i 0:Nat):Int),.str w]).bind λz=>if ft z.1=M/\Kh z.2=M then Y (T.obj 1 ((0,.bl B) :: z.1),(Md.fr,z.2)) else J else J).map _).map _)=_;rw[Zp ⟨rfl,kF S,rfl,rfl⟩,g,Zu,Zp ⟨kF S',rfl⟩];rfl
 have l:ly 0 [.fld 5] (aa 1) (bN 0 [.fld 6] 0 [B,B] aR (ae (e2 aE (bj 5 (aa 0)) (aa 1)) (ae (aa 2) aj))) [oc (Ko tx hd S M),Q0 (i:Int),Q2 w]=Y (.nx [oc (Ko tx (hd.set i r) S' M),Q0 (i:Int),Q2 w]):=by
  unfold ly;rw[f];exact HC (tx:=tx) (hd:=hd) (S:=S') (b:=M) (r:=[Q0 (i:Int),Q2 w]) (e:=aa 1) (ev:=λ_=>Y (.fr,.int (r:Int))) (i:=i) (v:=r) (n:=.fr) (by omega) L L
 have j:fC 0 [.fld 4] (aa 1) (e2 cu (e2 aE (bj 4 (aa 0)) (aa 1)) (aa 2)) [oc (Ko tx (hd.set i r) S' M),Q0 (i:Int),Q2 w]=Y (.nx [oc (Ko (tx.set i (tx.getD i []++w)) (hd.set i r) S' M),Q0 (i:Int),Q2 w]) :=
  Gc (n:=.fr) a L (e2v (hZ (m:=.bo) (t:=Ko tx (hd.set i r) S' M) L (Dj tx (hd.set i r) S' M) |> λh=>e2v h (y:=(.fr,.int (i:Int))) L (iU T.str tx i [] a)) (y:=(.fr,.str w)) L (kz (by omega)))
 exact congrArg (λz:Option Out=>z.bind _) ((aq s1).trans ((aq ((mU u).trans L)).trans ((aq l).trans j)))
end
def kL{α:Type}(l:List α)(x d:α):(l++[x]).getD l.length d=x:=(bV l x d l.length).trans (Zp L)
def wO{α:Type}(l:List α)(x y:α):(l++[x]).set l.length y=l++[y]:=by
 rw[List.set_append_right _ _ (Zn _),VH];rfl
def sR(a b:List Tx):eU (a++b)=eU a+eU b:=by
 unfold eU;rw[Yy,List.sum_append]
def Gd:∀(rest:List Tx){tx:List Tx}{hd:Uz}{S S':St}{B:T}{z:Uw},WF S->hd.length=tx.length->tx.length+rest.length<=8->eU tx+eU rest<=120->S.lg.length+2*eU rest<=100000->(∀t∈rest,∀c∈t,97<=c/\c<=122)->mB S rest=Y S' →
  ∃n l,forL (bB 2) bF (rest.map .str) [oc (Ko tx hd S M),pc B,z]=Y (.nx [oc (Ko (tx++rest) n S' M),pc B,l]):=by
 intro rest
 induction rest with
 |nil =>
  intro tx hd S S' B z W a s o p j e;cases (show Y S=Y S' from e);exact⟨hd,z,by rw[ZM];rfl⟩
 |cons t rest x =>
  intro tx hd S S' B z W a s o p j e;obtain⟨⟨h,r⟩,e1,C⟩:=Zz.mp (show (hg S 0 t).bind _=Y S' from e);rw[Zf]at s;have d:eU (t :: rest)=t.length+eU rest:=by unfold eU;rw[Zm,Xf]
  rw[d]at o p;have m:hg S ((hd++[0]).getD tx.length 0) t=Y (h,r):=by rw[← a,kL];exact e1
  have f:=E4 W (by omega) W.pos (j t Zv) e1;have g:=sI (tx:=tx++[[]]) (hd:=hd++[0]) (S:=S) (S':=h) (i:=tx.length) (r:=r) (w:=t) W (by rw[Zs,Zs,a];rfl) (by rw[Zs];exact Yk _) (by rw[Zs];show tx.length+1<=8;omega) (by rw[sR];show eU tx+0+t.length<=120;omega) (by omega) (by rw[← a,kL];exact W.pos) (j t Zv) (by rw[kL];exact ZA _) m;rw[kL,wO,Ye]at g;have A:(hd++[0]).set tx.length r=hd++[r]:=by rw[← a];exact wO hd 0 r
  rw[A]at g;have b:=Au (tx:=tx) (hd:=hd) (S:=S) (by omega) a;obtain⟨n,l,q⟩:=x (tx:=tx++[t]) (hd:=hd++[r]) (S:=h) (S':=S') (B:=B) (z:=Q2 t) f.1 (by rw[Zs,Zs,a];rfl) (by rw[Zs,NN];omega) (by rw[sR];show eU tx+(t.length+0)+eU rest<=120;omega) (by have:=f.2.2.1;omega) (λu y=>j u (Zx _ y)) C;refine⟨n,l,?_⟩;rw[Zm];refine(eD (U1:=[oc (Ko tx hd S M),pc B,Q2 t]) L ?_).trans (q.trans (by rw[Ze];rfl));have v:bN 0 [] 1 [] bD aj [oc (Ko tx hd S M),pc B,Q2 t]=Y ((.fr,.int (tx.length:Int)),[oc (Ko (tx++[[]]) (hd++[0]) S M),pc B,Q2 t]):=by
   show (((if 2=1+1/\ft (OX tx hd S)=M/\argsOk [] []=M/\bX (trees [])=M then (bD (OX tx hd S) (trees [])).bind λz=>if ft z.1=M/\Kh z.2=M then Y (T.obj 2 ((0,.bl M) :: z.1),(Md.fr,z.2)) else J else J).map _))=_;rw[Zp ⟨rfl,lD tx hd S,rfl,rfl⟩,show trees []=[] from rfl,b,Zu,Zp ⟨lD _ _ _,rfl⟩];rfl
  have x2:qr 0 1 [false,false] bC (bN 0 [] 1 [] bD aj) (ae (aa 2) aj) [oc (Ko tx hd S M),pc B,Q2 t]=Y ((.fr,.non),[oc (Ko (tx++[t]) (hd++[r]) h M),pc B,Q2 t]):=by
   unfold qr;rw[Zp (show Gr 1 [oc (Ko tx hd S M),pc B,pc (T.str t)][0]?=M from rfl),v,Zu,Zp (show Kh (T.int (tx.length:Int))=M from rfl)];have ct:mM 1 [false,false] bC [(Md.fr,T.int (tx.length:Int)),(Md.fr,T.str t)] (Ko (tx++[[]]) (hd++[0]) S M)=Y (Ko (tx++[t]) (hd++[r]) h M,(Md.fr,T.non)):=by
    show (if 2=1+1/\ft (OX (tx++[[]]) (hd++[0]) S)=M/\argsOk [false,false] [(Md.fr,T.int (tx.length:Int)),(Md.fr,T.str t)]=M/\bX (trees [(Md.fr,T.int (tx.length:Int)),(Md.fr,T.str t)])=M then (bC (OX (tx++[[]]) (hd++[0]) S) (trees [(Md.fr,T.int (tx.length:Int)),(Md.fr,T.str t)])).bind λz=>if ft z.1=M/\Kh z.2=M then Y (T.obj 2 ((0,.bl M) :: z.1),(Md.fr,z.2)) else J else J)=_;rw[Zp ⟨rfl,lD _ _ _,rfl,rfl⟩,show trees [(Md.fr,T.int (tx.length:Int)),(Md.fr,T.str t)]=[T.int (tx.length:Int),T.str t] from rfl,g,Zu,Zp ⟨lD _ _ _,rfl⟩];rfl
   show ((mM 1 [false,false] bC [(Md.fr,T.int (tx.length:Int)),(Md.fr,T.str t)] (Ko (tx++[[]]) (hd++[0]) S M)).map _)=_;rw[ct];rfl
  unfold bF US;rw[x2];rfl
structure Pc(bk:List Tx):Prop where
 MG:bk.length<=8
 sum:eU bk<=120
 az:∀t∈bk,∀c∈t,97<=c/\c<=122
theorem Pc.Rm:∀{l:List Tx},t∈l->t.length<=eU l
 |a :: l,h=>by
  have e:eU (a :: l)=a.length+eU l:=by unfold eU;rw[Zm,Xf]
  rw[e];rcases Zi.mp h with rfl | h
  ·omega
  ·have:=Pc.Rm h;omega
def Pc.len(h:Pc a):∀t∈a,t.length<1000:=λt b=>ZL (Pc.Rm b) (ZL h.sum (by decide))
def aM(a:List Tx):St:=(mB S0 a).getD S0
def aA(a:List Tx):Uz:=(N2 (aM a) 1000 [0] 0).getD []
def tabOf(a:List Tx):List Row:=tab (aM a) (aA a)
theorem Pc.k{a:List Tx}(h:Pc a):mB S0 a=Y (aM a)/\∃nd b,K (Hd a) (aM a) nd b/\b.length<=241/\N2 (aM a) 1000 [0] 0=Y (aA a)/\(∀x,x∈aA a↔x<(aM a).lg.length)/\(aA a).length=b.length/\(aA a).idxOf 0=0:=by
 obtain⟨S,nd,b,e,H,l⟩:=K.of a h.az h.len;have d:aM a=S:=by unfold aM;rw[e];rfl
 rw[d];have f:b.length<=241:=by
  have:=h.sum;unfold eU at this;omega
 obtain⟨m,e2,_,e3,g⟩:=H.met (k:=1000) (by omega);have eM:aA a=0 :: m:=by unfold aA;rw[d,e2];rfl
 rw[eM];exact⟨e,nd,b,H,f,e2,λx=>by rw[e3,H.i.len],g,List.idxOf_cons_self⟩
def GJ(h:Pc d):∃hd,aZ [] [.lst (d.map .str)]=Y (OX d hd (aM d),.non):=by
 obtain⟨e,_⟩:=h.k;have g:=h.sum;obtain⟨hd,z,q⟩:=Gd d (tx:=[]) (hd:=[]) (S:=S0) (S':=aM d) (B:=.lst (d.map .str)) (z:=J) EF L (by have:=h.MG;simpa using this) (by show 0+eU d<=120;omega) (by show 1+2*eU d<=100000;omega) h.az e;rw[Ye]at q;refine⟨hd,?_⟩;unfold aZ Mm;rw[Zp ⟨rfl,rfl⟩];have f:=(dG (tg:=bB 2) (it:=fU (aa 1)) (body:=bF) (U:=[oc (Ko [] [] S0 M),pc (.lst (d.map .str)),J]) (m:=.pu) (l:=d.map .str) L L).trans q;have body:=(aq (a:=jP 0 4 (dN aj)) (b:=ar (jP 0 5 (dN aj)) (ar (jP 0 6 (eNew 0 dk aj)) (LN (fP (aa 1)) (iV (bB 2) (fU (aa 1)) bF) eI))) (U:=[oc (.obj 2 [(0,.bl M)]),pc (.lst (d.map .str)),J]) (U1:=[oc (.obj 2 [(0,.bl M),(4,.lst [])]),pc (.lst (d.map .str)),J]) L).trans
  ((aq (U1:=[oc (.obj 2 [(0,.bl M),(4,.lst []),(5,.lst [])]),pc (.lst (d.map .str)),J]) L).trans ((aq (U1:=[oc (Ko [] [] S0 M),pc (.lst (d.map .str)),J]) L).trans ((rG (m:=.fr) L).trans f)))
 exact congrArg (λz:Option Out=>z.bind _) body
def Cn(h:Pc a){m:Md}(f:arg U=Y (m,.lst (a.map .str))):fN 1 bZ (eNew 1 aZ (ae arg aj)) aj U=Y (.fr,Lb (tabOf a)):=by
 obtain⟨hd,e⟩:=GJ h;obtain⟨_,nd,n,H,l,e2,e3,o,_⟩:=h.k;have hlen:(aM a).lg.length<=100001:=by rw[← H.i.len];omega
 have b:=Hz H.i.wf hlen (k:=1000) (by decide) e2 e3 (by omega);have d:eNew 1 aZ (ae arg aj) U=Y (.fr,Ko a hd (aM a) B):=by
  unfold eNew;rw[xv (r:=aj) f L,Zu];have j:bX (trees [(m,T.lst (a.map .str))])=M:=by
   show (bX (a.map T.str)&&M)=M;rw[eV _ (λ_=>rfl)];rfl
  rw[Zp j,show trees [(m,T.lst (a.map .str))]=[T.lst (a.map .str)] from rfl,e,Zu,Zp ⟨lD _ _ _,rfl⟩];rfl
 have t2:bZ [Ko a hd (aM a) B]=Y (.fr,Lb (tabOf a)):=by
  refine gP (U:=[pc (Ko a hd (aM a) B)]) L (fG ?_);have g:bj 6 (aa 0) [pc (Ko a hd (aM a) B)]=Y (.pu,Kf (aM a) B):=hZ (m:=.pu) (t:=Ko a hd (aM a) B) L (Kc a hd (aM a) B);unfold fN;show ((bj 6 (aa 0) [pc (Ko a hd (aM a) B)]).bind _)=_;rw[g];show ((dD [Kf (aM a) B]).bind _)=_;rw[b];rfl
 show ((eNew 1 aZ (ae arg aj) U).bind _)=_;rw[d];show ((bZ [Ko a hd (aM a) B]).bind _)=_;rw[t2];rfl
noncomputable abbrev KI(a:List (Nat×Nat)):List (T×T):=a.map λp=>(T.str [p.1],T.int (p.2:Int))
noncomputable abbrev Si(p:Nat×Nat):T:=.tup [.str [p.1],.int (p.2:Int)]
def Jt(a:List (Nat×Nat)):sH (a.map Si)=Y (KI a):=by
 induction a with
 |nil=>rfl
 |cons w a b =>
  show (if iu (T.str [w.1])/\Kh (T.int (w.2:Int)) then (sH (a.map Si)).map _ else J)=_;rw[Zp ⟨rfl,rfl⟩,b];rfl
theorem uc:∀(a acc:List (Nat×Nat)),((acc++a).map (·.1)).Nodup->(KI a).foldl (λd q=>dput d q.1 q.2) (KI acc)=KI (acc++a)
 |[],acc,_=>by rw[ZM];rfl
 |w :: a,acc,h=>by
  have e:dput (KI acc) (T.str [w.1]) (T.int (w.2:Int))=KI (acc++[w]):=by
   unfold dput;rw[Zo (by
    simp only[Xp,not_exists,not_and];intro p f;obtain⟨q,b,rfl⟩:=ZC.mp f;simp only[eqT,beq_iff_eq,Wx,and_true];intro z;exact(λz=>by
   rw[Yy,Zm]at h;exact(ZF.mp h).2.2 w.1 z w.1 Zv L) (ZC.mpr ⟨q,b,z⟩))]
   simp[KI]
  show (KI a).foldl _ (dput (KI acc) (T.str [w.1]) (T.int (w.2:Int)))=_;rw[e,uc a (acc++[w]) (by rw[Ze];exact h),Ze];rfl
def Bf(w:List (Nat×Nat)):(sk w).Nodup:=by
 exact VO VX (by decide)
def oU(S:St)(M:Uz)(n:Nat):(steps S M n).map (·.1)=sk (S.wy.getD n []):=by
 unfold steps;rw[LU];exact List.map_id' _
def JJ{m:Md}(S:St)(M:Uz)(n:Nat):oT [(m,Nz (steps S M n))]=Y (.fr,.dct 0 (KI (steps S M n))):=by
 show (sH ((steps S M n).map Si)).map _=_;rw[Jt,Vm];have:=uc (steps S M n) [] (by rw[Ye,oU];exact Bf _);rw[Ye]at this;exact congrArg (λz=>Y (Md.fr,T.dct 0 z)) this
def Ag(S:St)(M:Uz)(n c:Nat)(e:97<=c/\c<=122):gW (steps S M n) c=(gW (S.wy.getD n []) c).map λm=>M.idxOf m:=by
 have key:∀l:Uz,gW (l.map λc=>(c,M.idxOf ((gW (S.wy.getD n []) c).getD 0))) c=if c∈l then Y (M.idxOf ((gW (S.wy.getD n []) c).getD 0)) else J:=by
  intro l
  induction l with
  |nil=>rfl
  |cons a l b =>
   unfold gW at b ⊢;rw[Zm,Yh];by_cases h:a=c
   ·subst h;simp
   ·have:(a==c)=B:=by simpa using h
    rw[this];rw[b];simp[Y4 h]
 unfold steps;rw[key];cases hg:gW (S.wy.getD n []) c with
 |none =>
  rw[Zo λz=>by
   obtain⟨m,d⟩:=l7 z;rw[hg]at d;cases d]
  rfl
 |some m =>
  rw[Zp (by
   refine YM.mpr ⟨VC.mpr (by lia),by rw[hg];rfl⟩)]
  rfl
def qh(S:St)(M:Uz)(n:Nat):(row S M n).2.2.2=steps S M n:=by
 unfold row;split<;>rfl
noncomputable abbrev Pl:=Nat×Nat
noncomputable def tP(p:Pl):T:=.tup [.int p.1,.int p.2]
def enum_zip(l:List Tx):∀n:Nat,ir n (l.map T.str)=(l.zipIdx n).map λp=>T.tup [.int p.2,.str p.1]:=by
 induction l with
 |nil=>intro n;rfl
 |cons t l a=>intro n;rw[WY,Zm,Zm,ir,a (n+1)]
noncomputable def QF(w t:Tx):Uz:=(List.range (t.length+1)).filter λe=>w.isSuffixOf (t.take e)
def Lo(a:List Tx)(w:Tx):List Pl:=(a.zipIdx 0).flatMap λp=>(QF w p.1).map λe=>(p.2,e)
noncomputable def Pt(a:List Tx)(w:Tx):Prop:=w=[]\/∃t∈a,w <:+: t
def iO:p∈Lo d w ↔ ∃t,d[p.1]?=Y t/\p.2<=t.length/\w <:+ t.take p.2:=by
 unfold Lo;rw[List.mem_flatMap];constructor
 ·rintro⟨⟨t,n⟩,f,h⟩;obtain⟨e,he,rfl⟩:=ZC.mp h;obtain⟨b,a⟩:=YM.mp he;have:=Yd.mp b;exact⟨t,by simpa using List.mem_zipIdx_iff_getElem?.mp f,MJ this,Y6.mp a⟩
 ·rintro⟨t,b,a,g⟩;exact⟨(t,p.1),List.mem_zipIdx_iff_getElem?.mpr b,ZC.mpr ⟨p.2,YM.mpr ⟨Yd.mpr (VG a),Y6.mpr g⟩,rfl⟩⟩
def FD(hw:w≠[]):Lo d w≠[]↔Pt d w:=by
 rw[show Lo d w≠[] ↔ ∃p,p∈Lo d w from⟨λh=>List.exists_mem_of_ne_nil _ h,λ⟨p,h⟩ e=>by rw[e]at h;cases h⟩];constructor
 ·rintro⟨p,g⟩;obtain⟨t,m,_,l⟩:=iO.mp g;exact .inr ⟨t,Yr m,l.isInfix.trans (V3 _ _).isInfix⟩
 ·rintro (h | ⟨t,f,a,b,e⟩)
  ·exact absurd h hw
  ·obtain⟨i,j⟩:=List.mem_iff_getElem?.mp f;refine⟨(i,(a++w).length),iO.mpr ⟨t,j,by rw[← e,Zs (as:=a++w)];exact Zd _ _,?_⟩⟩;rw[← e,List.take_left];exact List.suffix_append a w
end T48
end
section
namespace AU
section
def I.pre'(H:I J S nd wd):∀(z u:Wd){n:Nat},nd (u++z)=Y n->∃m,nd u=Y m:=by
 intro z
 induction z with
 |nil=>intro u n h;rw[ZM]at h;exact⟨n,h⟩
 |cons c z a =>
  intro u n h;rw[V8]at h;obtain⟨m,b⟩:=a _ h;exact H.pre b
noncomputable def ends(b:List Wd):List Wd:=b.flatMap λt=>(List.range t.length).map λk=>t.drop k
def IR{l:Uz}(a:l.Nodup)(h:k<l.length):l.idxOf l[k]=k:=by
 exact(V7 a).mp (Wr (YD.mpr (Yu h)))
end
noncomputable def S7(S:St)(t:Nat):Nat:=match S.lk.getD t J with
 |none=>0
 |some m=>S.lg.getD m 0+1
def sw(S:St)(a:List Wd)(t:Nat):Wd:=(W a t).drop ((W a t).length-S7 S t)
section
variable{P:Wd->Prop}{S:St}{nd:Wd->Option Nat}{wd:List Wd}(H:I none S nd wd)
include H
theorem I.sh(a:t<wd.length):S7 S t<=(W wd t).length/\∀y,nd y=Y t↔y <:+ W wd t/\S7 S t<=y.length:=by
 unfold S7;by_cases h:t=0
 ·subst h;rw[H.PM,H.wz];exact⟨ZA _,λy=>⟨λz=>⟨by rw[H.zero z];exact Yw _,ZA _⟩,λz=>by rw[YA.mp z.1];exact H.z⟩⟩
 ·obtain⟨m,e,⟨f,_⟩,g,d,b⟩:=H.lk (Ya h) a (by simp);rw[e];show S.lg.getD m 0+1<=_/\∀y,_↔_/\S.lg.getD m 0+1<=_;rw[H.lg m f];exact⟨d,λy=>⟨λz=>⟨H.sf z,(H.low (by simp) e z).1⟩,λz=>b y z.1 z.2⟩⟩
theorem I.Rl(a:t<wd.length):(sw S wd t).length=S7 S t:=by
 have:=(H.sh a).1;unfold sw;rw[Yz];lia
theorem I.QB(a:t<wd.length):nd (sw S wd t)=Y t:=((H.sh a).2 _).mpr ⟨List.drop_suffix _ _,by rw[H.Rl a];exact Zn _⟩
end
end AU
end
section
namespace T48
open VS AU
def ze{α:Type}(f:α->T)(l:List α)(d:α)(h:0<l.length):aE (m,.lst (l.map f)) (n,.int (-1))=Y (sub m (f (l.getD (l.length-1) d))):=by
 show ((Ll (l.map f).length (-1)).bind _)=_;have:Ll (l.map f).length (-1)=Y (l.length-1):=by
  unfold Ll;rw[Zw,Zo (by decide),Zp (by lia)];congr 1;lia
 rw[this,Zu,ZP,Zt,Zq (by omega)];rfl
noncomputable abbrev MT(l:Uz):T:=.lst (l.map λ(n:Nat)=>T.int (n:Int))
abbrev ix(a:List Tx)(m:Nat):Nat:=(aA a).idxOf m
def num(b:List Tx)(a:Wd->Option Nat)(w:Tx):Nat:=(aA b).idxOf ((a w).getD 0)
noncomputable def My(S:St):Nat->Nat->Uz
 |0,m=>[m]
 |k+1,m=>m :: match S.lk.getD m J with
  |none=>[]
  |some r=>My S k r
def Cc{l:Ut}(a:i<l.length):aW [.lst l,.int (i:Int)]=Y (.fr,.non):=by
 refine Fd (U:=[pc (.lst l),Q0 (i:Int)]) L ?_;refine(mU (m:=.fr) (AQ (m:=.fr) (x:=B) ?_ (λ_=>?_) (λh=>by cases h))).trans rfl
 ·exact rq (b:=M) L
 ·refine rq (m:=.fr) (b:=M) (nJ L L ?_ (gF (xv L L) L) ?_)
  ·show Y (Md.fr,T.bl (decide ((0:Int)<=(i:Int))))=_;rw[decide_eq_true (by lia)]
  ·show Y (Md.fr,T.bl (decide ((i:Int)<(l.length:Int))))=_;rw[decide_eq_true (by lia)]
section
variable{bk:List Tx}{nd:Wd->Option Nat}{wd:List Wd}(H:K (Hd bk) (aM bk) nd wd)(hM:∀x,x∈aA bk↔x<(aM bk).lg.length)(h0:(aA bk).idxOf 0=0)
include hM
theorem EG(a:m<(aM bk).lg.length):ix bk m<(tabOf bk).length:=by
 unfold tabOf tab;rw[Zw];exact YD.mpr ((hM m).mpr a)
theorem rj{m:Nat}(e:m<(aM bk).lg.length){n:Md}(g:a U=Y (.pu,Lb (tabOf bk)))(f:b U=Y (n,.int (ix bk m:Int))):e2 aE a b U=Y (.fr,pE (row (aM bk) (aA bk) m)):=by
 refine e2v g f ?_;have d:=YD.mpr ((hM m).mpr e);unfold Lb tabOf tab;rw[LU,iU (pE ∘ row (aM bk) (aA bk)) (aA bk) (ix bk m) 0 d,Zt,Zq d];show Y (up .pu (pE (row (aM bk) (aA bk) (aA bk)[ix bk m])))=_;rw[Wr _];unfold up;rw[D2];rfl
include H
include h0
def wl(b:List Tx)(a:Wd->Option Nat)(p:Tx):Uz:=(List.range (p.length+1)).map λi=>num b a (p.take i)
omit H hM h0 in
theorem Dv(p:Tx)(c:Nat):wl bk nd (p++[c])=wl bk nd p++[num bk nd (p++[c])]:=by
 unfold wl;rw[Zs,NN,List.range_succ,Yy];congr 1
 ·refine Xr λi a=>?_;have:=Yd.mp a;rw[XT (by exact MJ this)]
 ·show [num bk nd ((p++[c]).take (p.length+1))]=_;rw[Ys (by rw[Zs];exact Zn _)]
omit H hM h0 in
theorem rS(h:nd w=Y m):num bk nd w=ix bk m:=by
 unfold num;rw[h];rfl
theorem wk(d:Tx):∀(v p:Tx)(f b:Uw),(nd (p++v)).isSome=M->Az v->p.length+v.length<1000000->∃h g,forL (bB 3) pX (v.map s1) [pc (Lb (tabOf bk)),Q2 d,oc (MT (wl bk nd p)),f,b]=Y (.nx [pc (Lb (tabOf bk)),Q2 d,oc (MT (wl bk nd (p++v))),h,g]):=by
 intro v
 induction v with
 |nil=>exact λp f b _ _ _=>⟨f,b,by rw[ZM];rfl⟩
 |cons c v w =>
  intro p f b j s C;rw[Zf]at C;obtain⟨F,u⟩:=YS.mp j;rw[V8]at u j;obtain⟨q,o⟩:=H.i.pre' v (p++[c]) u;obtain⟨m,l⟩:=H.i.pre o;have E:m<(aM bk).lg.length:=by rw[← H.i.len];exact H.i.lt l
  have D:(wl bk nd p).length=p.length+1:=by unfold wl;rw[Zw,MH]
  have z:e2 aE (aa 2) (Q3 (-1)) [pc (Lb (tabOf bk)),Q2 d,oc (MT (wl bk nd p)),pc (s1 c),b]=Y (.fr,.int (ix bk m:Int)):=by
   refine e2v L L ?_;rw[ze (λ(n:Nat)=>T.int (n:Int)) (wl bk nd p) 0 (by lia),D,XR,← rS l];have:(wl bk nd p).getD p.length 0=num bk nd p:=by
    unfold wl;rw[Zt,ZP,List.getElem?_range (Yk _),Vm,V4];rfl
   rw[this];rfl
  have hg:gW (steps (aM bk) (aA bk) m) c=Y (ix bk q):=by rw[Ag _ _ _ _ (s c Zv),H.i.wy l c,o];rfl
  have ap:=rh (i:=2) (U:=[pc (Lb (tabOf bk)),Q2 d,oc (MT (wl bk nd p)),pc (s1 c),pc (K6 (steps (aM bk) (aA bk) m))]) (e:=e2 MD (aa 4) (aa 3)) L (yR L L hg) (by rw[Zw];lia);rw[show (wl bk nd p).map (λ(n:Nat)=>T.int (n:Int))++[T.int (ix bk q:Int)]=(wl bk nd (p++[c])).map λ(n:Nat)=>T.int (n:Int) from by rw[Dv,Yy,rS o];rfl]at ap;obtain⟨h,g,e⟩:=w (p++[c]) (pc (s1 c)) (pc (K6 (steps (aM bk) (aA bk) m))) j (λx A=>s x (Zx _ A)) (by rw[Zs,NN];lia);rw[V8 p c v];refine⟨h,g,(eD L (sq (by
   refine aQ (m:=.fr) (gF (xv (r:=aj) (x:=(.fr,Nz (steps (aM bk) (aA bk) m))) (e2v (rj hM E L z) (y:=(.fr,.int 3)) L ?_) L) (JJ _ _ _)) (by decide) (by show 4<5;decide);rw[← qh];show Y (up .fr (Nz _))=_;unfold up;rw[pj];rfl) (sq (yV (m:=.fr) ?_ L) ap))).trans e⟩
  have:=EL (U:=[pc (Lb (tabOf bk)),Q2 d,oc (MT (wl bk nd p)),pc (s1 c),pc (K6 (steps (aM bk) (aA bk) m))]) (a:=aa 4) (e:=aa 3) L L;rw[hg]at this;exact this
theorem GI(hw:(nd w).isSome=M)(a:Az w)(g:w.length<=1000):oW [Lb (tabOf bk),.str w]=Y (.fr,MT (wl bk nd w)):=by
 obtain⟨f,d,e⟩:=wk H hM h0 w w [] J J (by rw[Ye];exact hw) a (by show 0+_<_;lia);have b:wl bk nd []=[0]:=by
  show [num bk nd []]=_;rw[rS H.i.z,show ix bk 0=0 from h0]
 rw[b]at e;exact gP L (sq L (sq ((dG L L).trans e) L))
omit h0
theorem IE:∀(k m:Nat)(acc:Uz)(F:Nat),m<wd.length->(W wd m).length<=k->k+1<F->acc.length+k<1000000->dM (fP (aa 1)) iK F [pc (Lb (tabOf bk)),Q0 (ix bk m:Int),oc (MT acc)]=Y (.nx [pc (Lb (tabOf bk)),pc .non,oc (MT (acc++(My (aM bk) k m).map (ix bk)))]):=by
 intro k
 induction k using Nat.strongRecOn with
 |ind k ih =>
  intro m acc F hm hk hF ha;obtain⟨F,rfl⟩:∃j,F=j+2:=⟨F-2,by lia⟩
  have LJ:m<(aM bk).lg.length:=by rw[← H.i.len];exact hm
  have a1:=rh (i:=2) (U:=[pc (Lb (tabOf bk)),Q0 (ix bk m:Int),oc (MT acc)]) (e:=aa 1) L L (by rw[Zw];lia);rw[show acc.map (λ(n:Nat)=>T.int (n:Int))++[T.int (ix bk m:Int)]=(acc++[ix bk m]).map λ(n:Nat)=>T.int (n:Int) from by rw[Yy];rfl]at a1;have st:dM (fP (aa 1)) iK (F+2) [pc (Lb (tabOf bk)),Q0 (ix bk m:Int),oc (MT acc)]=dM (fP (aa 1)) iK (F+1) [pc (Lb (tabOf bk)),pc (KO (((aM bk).lk.getD m J).map (ix bk))),oc (MT (acc++[ix bk m]))]:=nH L ((aq a1).trans (by
   refine aQ (m:=.fr) (e2v (rj hM LJ (n:=.fr) L L) (y:=(.fr,.int 2)) L ?_) (by decide) (by show 1<3;decide);show Y (up .fr (KO (row (aM bk) (aA bk) m).2.2.1))=_;unfold row;split<;>(rename_i e;rw[e];rfl)))
  rw[st];cases hl:(aM bk).lk.getD m J with
  |none =>
   rw[show My (aM bk) k m=[m] from by cases k with | zero=>rfl | succ k=>rw[My,hl]];exact fY L
  |some r =>
   obtain⟨r',e,⟨g1,_⟩,_,g2,_⟩:=H.i.lk (Ya λz=>by rw[z,H.i.PM]at hl;cases hl) hm (by simp);rw[hl]at e;cases e;obtain⟨k,rfl⟩:∃j,k=j+1:=⟨k-1,by lia⟩
   have:=ih k (Yk _) r (acc++[ix bk m]) (F+1) g1 (by lia) (by exact Wi hF) (by rw[Zs,NN];lia);rw[show My (aM bk) (k+1) m=m :: My (aM bk) k r from by rw[My,hl]];exact this.trans (by rw[Ze];rfl)
theorem CJ(a:m<wd.length)(b:(W wd m).length<=1000):nh [Lb (tabOf bk),.int (ix bk m:Int)]=Y (.fr,MT ((My (aM bk) 1000 m).map (ix bk))):=by
 have d:m<(aM bk).lg.length:=by rw[← H.i.len];exact a
 exact gP L ((aq (by
  show (((b7 aW _ _).map _).map _)=_;rw[bP (xv (x:=(.pu,Lb (tabOf bk))) L (xv (r:=aj) (x:=(.fr,.int (ix bk m:Int))) L L)) (show aW [Lb (tabOf bk),.int (ix bk m:Int)]=Y (.fr,.non) from Cc (by rw[Zw];exact EG hM d))];rfl)).trans ((aq L).trans ((aq (IE H hM 1000 m [] yM a b (by decide) (by decide))).trans L)))
end
def HW:Pt f w ↔ ∃p,Hd f p/\w <:+ p:=by
 constructor
 ·rintro (rfl | ⟨t,d,a,b,rfl⟩)
  ·exact⟨[],.inl L,Yw _⟩
  ·exact⟨a++w,.inr ⟨_,d,⟨b,rfl⟩⟩,⟨a,rfl⟩⟩
 ·rintro⟨p,rfl | ⟨t,d,g⟩,e⟩
  ·exact .inl (YA.mp e)
  ·exact .inr ⟨t,d,e.isInfix.trans g.isInfix⟩
def xy(H:K (Hd b) (aM b) s a):∀(k m:Nat),m<a.length->(W a m).length<=k->(∀j,j∈My (aM b) k m↔j<a.length/\W a j <:+ W a m)/\(My (aM b) k m).Nodup:=by
 have top:∀{j:Nat},j<a.length->W a j=[]->j=0:=λw e=>by
  have:=H.i.top w;rw[e,H.i.z]at this;exact(Zl this).symm
 have h:∀j,j∈([0])↔j<a.length/\W a j <:+ W a 0:=λj=>by
  rw[ZZ,H.i.wz,YA];exact⟨λe=>by rw[e];exact⟨H.i.lt H.i.z,H.i.wz⟩,λe=>top e.1 e.2⟩
 intro k
 induction k with
 |zero =>
  intro m d o;have e:=top d (XZ.mp (Nat.le_zero.mp o));subst e;exact⟨h,ZY.mpr ⟨(λz=>nomatch z),Yn⟩⟩
 |succ k u =>
  intro m d o;by_cases p:m=0
  ·subst p;have:My (aM b) (k+1) 0=[0]:=by unfold My;rw[H.i.PM]
   rw[this];exact⟨h,ZY.mpr ⟨(λz=>nomatch z),Yn⟩⟩
  ·obtain⟨r,e,⟨y,_⟩,q,C,x⟩:=H.i.lk (Ya p) d (by simp);have A:My (aM b) (k+1) m=m :: My (aM b) k r:=by
    conv=>lhs;unfold My
    rw[e]
   obtain⟨l,v⟩:=u r y (by lia);rw[A];refine⟨λj=>?_,ZY.mpr ⟨λz=>?_,v⟩⟩
   ·rw[Zi,l];constructor
    ·rintro (rfl | ⟨g,f⟩)
     ·exact⟨d,Yw _⟩
     ·exact⟨g,f.trans q⟩
    ·rintro⟨g,f⟩;by_cases n:(W a r).length<(W a j).length
     ·have:=x _ f n;rw[H.i.top g]at this;exact .inl (Zl this)
     ·exact .inr ⟨g,cU f q (by exact ZD n)⟩
   ·have:=((l m).mp z).2.length_le;lia
def Ed(H:K (Hd b) (aM b) d e)(g:(W e m).length<=1000)(a:d p=Y m)(f:Hd b p)(hw:d w=Y j):j∈My (aM b) 1000 m↔w <:+ p:=by
 rw[(xy H 1000 m (H.i.lt a) g).1 j];constructor
 ·exact λh=>(H.i.sf hw).trans (h.2.trans (((H.eq (H.i.top (H.i.lt a)) a).mp L p f).mpr (Yw _)))
 ·exact λh=>⟨H.i.lt hw,(((H.eq hw (H.i.top (H.i.lt hw))).mp L p f).mp h).trans (H.i.sf a)⟩
abbrev gT(G:List (List Pl)):T:=.lst (G.map λl=>T.lst (l.map tP))
noncomputable def P7(G:List (List Pl))(i:Nat)(p:Pl):List (List Pl):=G.set i (G.getD i []++[p])
abbrev Pb(B:T)(g:T)(G:List (List Pl))(f e d b a:Uw):Env:=[pc B,pc g,oc (gT G),f,e,d,b,a]
def J2{B:T}{G:List (List Pl)}{n e:Nat}(f:i<G.length)(g:(G.getD i []).length<16777216)(d b:Uw):gw (Pb B a G (Q0 (n:Int)) d (Q0 (e:Int)) b (Q0 (i:Int)))=Y (.nx (Pb B a (P7 G i (n,e)) (Q0 (n:Int)) d (Q0 (e:Int)) b (Q0 (i:Int)))):=by
 have h:uU 2 (aa 7) (ae (kB (ae (aa 3) (ae (aa 5) aj))) aj) (Pb B a G (Q0 (n:Int)) d (Q0 (e:Int)) b (Q0 (i:Int)))=Y ((.fr,.non),Pb B a (P7 G i (n,e)) (Q0 (n:Int)) d (Q0 (e:Int)) b (Q0 (i:Int))):=by
  show ((Ll (G.map λl=>T.lst (l.map tP)).length (i:Int)).bind _)=_;rw[Zw,vN f,Zu,ZP,Zq f];show ((aJ (.lst (G[i].map tP)) [(.fr,tP (n,e))]).map _)=_;have hg:G.getD i []=G[i]:=by rw[Zt,Zq f];rfl
  rw[hg]at g;rw[dJ (by rw[Zw];exact g)];show Y ((Md.fr,T.non),[pc B,pc a,oc (.lst ((G.map λl=>T.lst (l.map tP)).set i (.lst (G[i].map tP++[tP (n,e)])))),_,_,_,_,_])=_;unfold P7;rw[hg,show T.lst (G[i].map tP++[tP (n,e)])=(λl:List Pl=>T.lst (l.map tP)) (G[i]++[(n,e)]) from by simp,← Wh]
 show (uU 2 (aa 7) (ae (kB (ae (aa 3) (ae (aa 5) aj))) aj) _).map _=_;rw[h];rfl
def tu{G:List (List Pl)}(p:Pl)(a:i<G.length)(k:Nat):(P7 G i p).getD k []=G.getD k []++if k=i then [p] else []:=by
 unfold P7;rw[Zt];by_cases h:k=i
 ·subst h;rw[XQ a,Zp L];rfl
 ·rw[YU (Y4 h),Zo h,ZM,← Zt]
section
variable{B:T}
def pb1{n e:Nat}(h g:Uw):∀(a:Uz)(G:List (List Pl))(d:Uw),a.Nodup->(∀i∈a,i<G.length/\(G.getD i []).length<100000)->∃b l,forL (bB 7) gw (a.map λ(i:Nat)=>T.int (i:Int)) (Pb B tb G (Q0 (n:Int)) h (Q0 (e:Int)) g d)=Y (.nx (Pb B tb b (Q0 (n:Int)) h (Q0 (e:Int)) g l))/\b.length=G.length/\∀k,b.getD k []=G.getD k []++if k∈a then [(n,e)] else []:=by
 intro a
 induction a with
 |nil=>exact λG d _ _=>⟨G,d,rfl,rfl,λk=>by simp⟩
 |cons i a u =>
  intro G d nd p;obtain⟨r,s⟩:=ZY.mp nd;obtain⟨q,w⟩:=p i Zv;obtain⟨b,l,e1,v,e3⟩:=u (P7 G i (n,e)) (Q0 (i:Int)) s (λj o=>⟨by unfold P7;rw[Yi];exact(p j (Zx _ o)).1,by
   rw[tu _ q,Zo (λz=>r (by rw[← z];exact o)),ZM];exact(p j (Zx _ o)).2⟩)
  refine⟨b,l,(eD L (J2 q (by lia) h g)).trans e1,v.trans (by unfold P7;rw[Yi]),λk=>?_⟩;rw[e3,tu _ q,Ze];congr 1;by_cases m:k=i
  ·subst m;rw[Zp L,Zo r,Zp Zv];rfl
  ·rw[Zo m,Ye];by_cases f:k∈a
   ·rw[Zp f,Zp (Zx _ f)]
   ·rw[Zo f,Zo (λz=>(Zi.mp z).elim m f)]
def xN{l:Uz}{a b:Nat}(h:a∈l)(f:b∈l)(e:l.idxOf a=l.idxOf b):a=b:=by
 have g:∀{x},x∈l->l[l.idxOf x]?=Y x:=λ{x} d=>by rw[Zq (YD.mpr d),Wr]
 have:=g h;rw[e,g f]at this;exact(Zl this).symm
end
section
variable{bk:List Tx}{nd:Wd->Option Nat}{wd:List Wd}(H:K (Hd bk) (aM bk) nd wd)(hM:∀x,x∈aA bk↔x<(aM bk).lg.length)(hN:(aA bk).Nodup)(h0:(aA bk).idxOf 0=0)(hw:∀m,m<wd.length->(W wd m).length<=1000)
def wN(a:List Tx)(b:List Wd)(k:Nat):Tx:=sw (aM a) b ((aA a).getD k 0)
include H hM hN hw
theorem Jf(f:nd p=Y m)(u:Hd bk p):((My (aM bk) 1000 m).map (ix bk)).Nodup/\(∀i∈(My (aM bk) 1000 m).map (ix bk),i<(aA bk).length)/\∀k,k<(aA bk).length->(k∈(My (aM bk) 1000 m).map (ix bk)↔wN bk wd k <:+ p):=by
 obtain⟨n,w⟩:=xy H 1000 m (H.i.lt f) (hw m (H.i.lt f));have d:∀{j},j<wd.length->j∈aA bk:=λh=>(hM _).mpr (by rw[← H.i.len];exact h);refine⟨List.Pairwise.map (ix bk) (R:=λa b=>a∈aA bk/\b∈aA bk/\a≠b) (λa b h e=>h.2.2 (xN h.1 h.2.1 e)) (w.imp_of_mem λ{a b} v hb q=>⟨d ((n a).mp v).1,d ((n b).mp hb).1,q⟩),λi s=>?_,λk g=>?_⟩
 ·obtain⟨j,l,rfl⟩:=ZC.mp s;exact YD.mpr (d ((n j).mp l).1)
 ·have o:ix bk ((aA bk).getD k 0)=k:=by
   rw[Zt,Zq g];exact IR hN g
  have l:(aA bk).getD k 0<wd.length:=by
   rw[H.i.len];refine(hM _).mp ?_;rw[Zt,Zq g];exact Yu g
  rw[show wN bk wd k <:+ p↔(aA bk).getD k 0∈My (aM bk) 1000 m from(Ed H (hw m (H.i.lt f)) f u (H.i.QB l)).symm];constructor
  ·intro h;obtain⟨j,r,e⟩:=ZC.mp h;have:=xN (d ((n j).mp r).1) (d l) (e.trans o.symm);rw[← this];exact r
  ·exact λh=>ZC.mpr ⟨_,h,o⟩
include h0
def L5(r:List Tx)(n:Nat)(w:Tx):List Pl:=(r.zipIdx n).flatMap λp=>(QF w p.1).map λe=>(p.2,e)
theorem pb2(t:Tx)(n:Nat)(F:t∈bk)(j:Uw):∀(k e:Nat)(G:List (List Pl))(g f a:Uw),e+k=t.length+1->G.length=(aA bk).length->(∀i,(G.getD i []).length+k<100000)->∃d p o l,forL (jJ [bB 5,bB 6]) i5 (ir e (((wl bk nd t).drop e).map λ(n:Nat)=>T.int (n:Int))) (Pb (.lst (bk.map .str)) (Lb (tabOf bk)) G (Q0 (n:Int)) j g f a)=Y (.nx (Pb (.lst (bk.map .str)) (Lb (tabOf bk)) d (Q0 (n:Int)) j p o l))/\d.length=G.length/\∀i,i<(aA bk).length->d.getD i []=G.getD i []++((List.range' e k).filter λe=>(wN bk wd i).isSuffixOf (t.take e)).map λe=>(n,e):=by
 have U:(wl bk nd t).length=t.length+1:=by unfold wl;rw[Zw,MH]
 intro k
 induction k with
 |zero =>
  intro e G g f a N u s;rw[YI (by omega)];exact⟨G,g,f,a,rfl,rfl,λi _=>by simp⟩
 |succ k E =>
  intro e G g f a N u s;have w:Hd bk (t.take e):=.inr ⟨t,F,V3 _ _⟩;obtain⟨m,h⟩:=(H.some (t.take e)).mpr ⟨_,w,Yw _⟩;obtain⟨Q,P,A⟩:=Jf H hM hN hw h w;have hd:(wl bk nd t).drop e=ix bk m :: (wl bk nd t).drop (e+1):=by
   rw[YF (by omega)];congr 1;unfold wl;rw[List.getElem_map,List.getElem_range,rS h]
  obtain⟨S,l,e1,v,y⟩:=pb1 j (Q0 (ix bk m:Int)) ((My (aM bk) 1000 m).map (ix bk)) G a Q λi b=>⟨by rw[u];exact P i b,by have:=s i;omega⟩
  obtain⟨d,p,o,C,R,D,O⟩:=E (e+1) S (Q0 (e:Int)) (Q0 (ix bk m:Int)) l (by omega) (v.trans u) λi=>by
   have:=s i;rw[y,Zs];split
   ·show _+1+k<_;omega
   ·show _+0+k<_;omega
  refine⟨d,p,o,C,?_,D.trans v,λi b=>?_⟩
  ·rw[hd];exact(eD L ((dG (m:=.fr) (oI (bP (xv (x:=(.pu,Lb (tabOf bk))) L (xv (r:=aj) (x:=(.fr,.int (ix bk m:Int))) L L)) (CJ H hM (H.i.lt h) (hw m (H.i.lt h))))) L).trans e1)).trans R
  ·rw[O i b,y,Ze,Vw,List.filter_cons];congr 1;by_cases q:wN bk wd i <:+ t.take e
   ·rw[Zp ((A i b).mpr q),Zp (Y6.mpr q)];rfl
   ·rw[Zo (λz=>q ((A i b).mp z)),Zo (λz=>q (Y6.mp z))];rfl
theorem pb3(hb:∀t∈bk,t.length<=120/\Az t):∀(r:List Tx)(n:Nat)(G:List (List Pl))(j h d b a:Uw),(∀t∈r,t∈bk)->G.length=(aA bk).length->(∀i,(G.getD i []).length+121*r.length<90000)->∃f F E w u s,forL (jJ [bB 3,bB 4]) i8 ((r.zipIdx n).map λp=>T.tup [.int p.2,.str p.1]) (Pb (.lst (bk.map .str)) (Lb (tabOf bk)) G j h d b a)=Y (.nx (Pb (.lst (bk.map .str)) (Lb (tabOf bk)) f F E w u s))/\f.length=G.length/\∀i,i<(aA bk).length->f.getD i []=G.getD i []++L5 r n (wN bk wd i):=by
 intro r
 induction r with
 |nil=>exact λn G j h d b a _ _ _=>⟨G,j,h,d,b,a,rfl,rfl,λi _=>(ZM _).symm⟩
 |cons t r ih =>
  intro n G j h d b a A C o;have y:=A t Zv;obtain⟨S,tz⟩:=hb t y;simp only[Zf]at o;obtain⟨G1,w,u,s,e1,z,D⟩:=pb2 H hM hN h0 hw t n y (Q2 t) (t.length+1) 0 G d b a (by exact WK _ _) C λi=>by have:=o i;lia
  have X:=YS.mpr ((H.some t).mpr ⟨t,.inr ⟨t,y,List.prefix_refl _⟩,Yw _⟩);have Z:∀i,((((List.range' 0 (t.length+1)).filter λe=>(wN bk wd i).isSuffixOf (t.take e)).map λe=>((n,e):Pl))).length<=121:=λi=>by
   rw[Zw];exact ZR (Xn _ _) (by rw[Ws];exact X3 S)
  obtain⟨f,R,Q,P,O,N,Mb,l2,g2⟩:=ih (n+1) G1 (Q0 (n:Int)) (Q2 t) w u s (λv hv=>A v (Zx _ hv)) (z.trans C) (λi=>by
   by_cases q:i<(aA bk).length
   ·rw[D i q,Zs];have:=o i;have:=Z i;lia
   ·rw[Zt,Yo (by lia)];have:=o i;show 0+_<_;lia)
  refine⟨f,R,Q,P,O,N,?_,l2.trans z,λi q=>?_⟩
  ·rw[WY,Zm];exact(eD L ((dG (m:=.fr) (l:=ir 0 ((wl bk nd t).map λ(n:Nat)=>T.int (n:Int))) (by
   have:=bP (g:=oW) (as:=ae (aa 1) (ae (aa 4) aj)) (U:=Pb (.lst (bk.map .str)) (Lb (tabOf bk)) G (Q0 (n:Int)) (Q2 t) d b a) (xv (x:=(.pu,Lb (tabOf bk))) L (xv (r:=aj) (x:=(.fr,.str t)) L L)) (GI H hM h0 X tz (by lia));show (b7 _ _ _).bind _=_;rw[this];rfl) L).trans e1)).trans Mb
  ·rw[g2 i q,D i q,Ze];unfold L5;rw[WY,List.flatMap_cons];unfold QF;rw[Vd]
theorem ur(e:∀t∈bk,t.length<=120/\Az t)(r:bk.length<=8)(q:(aA bk).length<=1000):∃G:List (List Pl),df [.lst (bk.map .str),Lb (tabOf bk)]=Y (.fr,gT G)/\G.length=(aA bk).length/\∀i,i<(aA bk).length->G.getD i []=Lo bk (wN bk wd i):=by
 have a:∀i,((List.replicate (aA bk).length ([]:List Pl)).getD i [])=[]:=λi=>by
  rw[Zt,Y3];split<;>rfl
 obtain⟨G,p,o,n,j,g,e1,b,f⟩:=pb3 H hM hN h0 hw e bk 0 (List.replicate (aA bk).length []) J J J J J (λ_ h=>h) Xy λi=>by
  rw[a i];show 0+_<_;lia
 refine⟨G,?_,b.trans Xy,λi d=>by rw[f i d,a i];rfl⟩;exact gP L (sq (by
  have c:=dn (k:=1) (tg:=bB 0) (it:=fU (aa 1)) (elt:=dN aj) (U:=[pc (.lst (bk.map .str)),pc (Lb (tabOf bk)),J,J,J,J,J,J]) (m:=.pu) (λm=>pE (row (aM bk) (aA bk) m)) (λ_=>T.lst []) (aA bk) (by
    show Y (Md.pu,(tabOf bk).map pE)=_;unfold tabOf tab;rw[LU];rfl) L (by lia) λm _=>⟨_,rfl,rfl⟩
  refine(sG c L (by show 2<8;decide)).trans ?_;rw[show (aA bk).map (λ_=>T.lst [])=(List.replicate (aA bk).length ([]:List Pl)).map λl=>T.lst (l.map tP) from by rw[List.map_const',List.map_replicate];rfl];rfl) (sq ((dG (by rw[← enum_zip];rfl) L).trans e1) L))
end
end T48
end
section
namespace T48
open VS AU TS
abbrev Rs:=Nat×Tx
noncomputable abbrev tR(q:Rs):T:=.tup [.int (q.1:Int),.str q.2]
def kR(q:Rs):List L2.Key:=[.inl (q.1:Int),.inr (sx q.2)]
noncomputable def bR:List L2.Key->Rs
 |[.inl i,.inr s]=>(i.toNat,s.cps.toList)
 |_=>(0,[])
def DZ(l:List Rs):(l.map kR).map bR=l:=by
 rw[LU]
 conv=>rhs;rw[← W4 l]
 exact Xr λq _=>VJ (Y7 _) (by show (sx q.2).cps.toList=_;simp[sx])
theorem si:∀l:List Rs,(l.map tR).mapM Ru=Y (l.map kR)
 |[]=>rfl
 |q :: l=>by
  rw[Zm,List.mapM_cons,si l];rfl
def Sv(a b:Rs):Bool:=!dZ (kR b) (kR a)
def jK(l:List Rs):List Rs:=l.mergeSort Sv
def dQ(l:List Rs):(jK l).Perm l:=List.mergeSort_perm l Sv
def De(l:List Rs):(jK l).Pairwise λa b=>Sv a b=M :=
 List.pairwise_mergeSort (λa b c e d=>by
  unfold Sv at *;rw[Bool.not_eq_true']at *;exact rE (m:=kR b) L L e d) (λa b=>by
  unfold Sv;cases h:dZ (kR b) (kR a) with
  |false=>rfl
  |true=>rw[ma h];rfl) l
def Ff(l:List Rs):shp (l.map kR):=⟨M,[B],λk m=>by
 obtain⟨q,_,rfl⟩:=ZC.mp m;rfl⟩
def vL{r:List Rs}(h:r.Perm l):DC (l.map kR)=(jK r).map kR:=by
 refine wu ⟨((dQ r).trans h).map _,?_⟩ (Ff l);rw[Y5];exact(De r).imp λ{a b} h=>by
  unfold Sv at h;rw[Bool.not_eq_true']at h;exact h
def vn{l:List Rs}(h:l.Perm r):jK l=jK r:=by
 rw[← DZ (jK l),← vL (XY l),vL h.symm,DZ]
def xA(l:List Rs){m:Md}:gU [(m,.lst (l.map tR))]=Y (.fr,.lst ((jK l).map tR)):=by
 show ((l.map tR).mapM Ru).bind _=_;rw[si,Zu,Zp (Ff l),vL (XY l),LU];congr 3
theorem ot(w:Tx):∀(r:List Tx)(n:Nat),(L5 r n w).Nodup/\(∀p∈L5 r n w,n<=p.1)/\(L5 r n w).length<=(r.map List.length).sum+r.length
 |[],n=>⟨Yn,(λp h=>nomatch h),Zn _⟩
 |t :: r,n=>by
  obtain⟨i,f,m⟩:=ot w r (n+1);have e:L5 (t :: r) n w=(QF w t).map (λe=>(n,e))++L5 r (n+1) w:=by
   unfold L5;rw[WY,List.flatMap_cons]
  have l:(QF w t).length<=t.length+1:=ZR (Xn _ _) (X5 MH);rw[e];refine⟨ZF.mpr ⟨Y5.mpr ((VO VX Vu).imp λ{a b} j z=>j (XA z).2),i,λa g b hb z=>?_⟩,λp d=>?_,?_⟩
  ·obtain⟨x,_,rfl⟩:=ZC.mp g;have:=f b hb;rw[← z]at this;exact absurd this (Nat.not_succ_le_self n)
  ·rcases Zc.mp d with d | d
   ·obtain⟨x,_,rfl⟩:=ZC.mp d;exact Zn _
   ·exact Nat.le_of_succ_le (f p d)
  ·rw[Zs,Zw,Zm,Xf,Zf];lia
noncomputable def rs(a:List Tx)(l:List Pl):List Rs:=l.map λp=>(p.1,(a.getD p.1 []).drop p.2)
def getD_at{a:List Tx}(h:a[n]?=Y t):a.getD n []=t:=by rw[Zt,h];rfl
def lV:q∈rs e (Lo e w) ↔ ∃a,w <:+ a/\e[q.1]?=Y (a++q.2):=by
 unfold rs;rw[ZC];constructor
 ·rintro⟨p,f,rfl⟩;obtain⟨t,b,d,g⟩:=iO.mp f;refine⟨t.take p.2,g,?_⟩;rw[getD_at b,YZ];exact b
 ·rintro⟨a,b,d⟩;refine⟨(q.1,a.length),iO.mpr ⟨_,d,by rw[Zs];exact Zd _ _,by rw[List.take_left];exact b⟩,VJ L ?_⟩;rw[getD_at d,List.drop_left]
def Aa(e:List Tx)(w:Tx):(rs e (Lo e w)).Nodup:=by
 refine Y5.mpr (List.Pairwise.imp_of_mem (λ{a b} i hb j z=>j ?_) (ot w e 0).1);obtain⟨t,g,l,_⟩:=iO.mp i;obtain⟨u,h,m,_⟩:=iO.mp hb;obtain⟨d,f⟩:=XA z;rw[d,h]at g;cases g;rw[d,getD_at h]at f;have:=congrArg List.length f;rw[Yz,Yz]at this;exact VJ d (by lia)
def Bh(a:List Tx)(w:Tx)(d:a.length<=8)(b:(a.map List.length).sum<=120):(rs a (Lo a w)).length<300:=by
 have:=(ot w a 0).2.2;unfold rs;rw[Zw];show (L5 a 0 w).length<300;lia
def zN{α:Type}(l:List α)(k:Nat)(h:k<=l.length):cut l (Y (k:Int)) J=l.drop k:=by
 have a:clip l.length (k:Int)=k:=by
  unfold clip;rw[Zo (by lia),Y7,YV h]
 show (l.drop (clip l.length (k:Int))).take (l.length-clip l.length (k:Int))=_;rw[a,Ys (by rw[Yz];exact Zn _)]
def qB{m n:Md}{k:Nat}(e:a U=Y (m,.str t))(d:b U=Y (n,.int (k:Int)))(h:k<=t.length):PZ a (Y b) J U=Y (.fr,.str (t.drop k)):=by
 unfold PZ sL;dsimp only;rw[e,d];show Y (Md.fr,T.str (cut t (Y (k:Int)) J))=_;rw[zN t k h]
def Gv(e:a U=Y (.fr,x))(d:b U=Y (.fr,y)):kB (ae a (ae b aj)) U=Y (.fr,.tup [x,y]):=by
 show (ae a (ae b aj) U).bind qw=_;rw[xv e (xv d L),Zu,Al (by show 2<=16777216;decide)];show Y (up .fr _)=_;unfold up;rw[ite_self];rfl
section
variable{bk:List Tx}{nd:Wd->Option Nat}{wd:List Wd}(H:K (Hd bk) (aM bk) nd wd)(hM:∀x,x∈aA bk↔x<(aM bk).lg.length)(hN:(aA bk).Nodup)(h0:(aA bk).idxOf 0=0)(NJ:∀m,m<wd.length->(W wd m).length<=1000)(hb:∀t∈bk,t.length<=120/\Az t)(h8:bk.length<=8)(hl:(aA bk).length<=1000)
include H
theorem wR(hw:nd w=Y j)(a:nd v=Y j):Lo bk w=Lo bk v:=by
 unfold Lo;rw[List.flatMap_def,List.flatMap_def];congr 1;refine Xr λq b=>?_;congr 1;refine List.filter_congr λe _=>?_;have:=(H.eq hw a).mp L (q.1.take e) (.inr ⟨q.1,List.fst_mem_of_mem_zipIdx b,V3 _ _⟩);rw[Ww,Y6,Y6];exact this
include hM hN h0 NJ hb h8 hl
theorem Iv:∃G:List (List Pl),df [.lst (bk.map .str),Lb (tabOf bk)]=Y (.fr,gT G)/\G.length=(aA bk).length/\∀m,m<wd.length->ix bk m<G.length/\G.getD (ix bk m) []=Lo bk (W wd m):=by
 obtain⟨G,e1,d,e⟩:=ur H hM hN h0 NJ hb h8 hl;refine⟨G,e1,d,λm b=>?_⟩;have a:=YD.mpr ((hM m).mpr (by rw[← H.i.len];exact b));refine⟨by rw[d];exact a,(e _ a).trans ?_⟩;have:wN bk wd (ix bk m)=sw (aM bk) wd m:=by
  unfold wN;rw[Zt,Zq a];show sw (aM bk) wd (aA bk)[ix bk m]=_;rw[Wr a]
 rw[this];exact wR H (H.i.QB b) (H.i.top b)
theorem ni(d:m<wd.length):gO [.lst (bk.map .str),Lb (tabOf bk),.int (ix bk m:Int)]=Y (.fr,.lst ((jK (rs bk (Lo bk (W wd m)))).map tR)):=by
 obtain⟨G,e1,r,j⟩:=Iv H hM hN h0 NJ hb h8 hl;obtain⟨o,n⟩:=j m d;have q:=(ot (W wd m) bk 0).2.2;have bs:(bk.map List.length).sum<=120*bk.length:=by
  have:∀l:List Tx,(∀t∈l,t.length<=120)->(l.map List.length).sum<=120*l.length:=λl=>by
   induction l with
   |nil=>exact λ_=>Zn _
   |cons t l f =>
    intro h;have:=f λt b=>h t (Zx _ b);have:=h t Zv;rw[Zm,Xf,Zf];lia
  exact this bk λt b=>(hb t b).1
 refine gP L (sq (U1:=[pc (.lst (bk.map .str)),pc (Lb (tabOf bk)),Q0 (ix bk m:Int)]) ?_ (fG (gF (xv (x:=(.fr,.lst ((rs bk (Lo bk (W wd m))).map tR))) ?_ L) (xA _))))
 ·show (((b7 aW _ _).map _).map _)=_;rw[bP (xv L (xv L L)) (Cc (by rw[Zw];exact EG hM (by rw[← H.i.len];exact d)))];rfl
 ·unfold rs;rw[LU];refine dn (m:=.fr) tP (λp=>tR (p.1,(bk.getD p.1 []).drop p.2)) (Lo bk (W wd m)) (oI (e2v (bP (xv L (xv L L)) e1) (y:=(.fr,.int (ix bk m:Int))) L ?_)) L (by show (L5 bk 0 (W wd m)).length<=_;lia) λp g=>⟨[Q0 p.1,Q0 p.2,pc (.lst (bk.map .str)),pc (Lb (tabOf bk)),Q0 (ix bk m:Int)],rfl,?_⟩
  ·rw[iU (λl=>T.lst (l.map tP)) G (ix bk m) [] o,n];show Y (up .fr _)=_;unfold up;rw[ite_self]
  ·obtain⟨t,a,e,_⟩:=iO.mp g;rw[getD_at a];refine Gv L (qB (m:=.fr) (e2v L L ((iU T.str bk p.1 [] ((Zb.mp a).1)).trans ?_)) L e);rw[getD_at a];rfl
theorem BQ:∃a:Uz,kX [.lst (bk.map .str),Lb (tabOf bk)]=Y (.fr,MT a)/\∀m,m<wd.length->ix bk m<a.length/\a.getD (ix bk m) 0=(Lo bk (W wd m)).length:=by
 obtain⟨G,e1,g,e⟩:=Iv H hM hN h0 NJ hb h8 hl;refine⟨G.map List.length,?_,λm d=>?_⟩
 ·refine gP L (fG ((dn (λl=>T.lst (l.map tP)) (λl=>T.int (l.length:Int)) G (oI (bP (xv L (xv L L)) e1)) L (by lia) λl _=>⟨[pc (.lst (l.map tP)),pc (.lst (bk.map .str)),pc (Lb (tabOf bk))],rfl,gF (xv L L) ?_⟩).trans ?_))
  ·show Y (Md.fr,T.int (((l.map tP).length:Nat):Int))=_;rw[Zw]
  ·unfold MT;rw[LU];rfl
 ·obtain⟨b,f⟩:=e m d;refine⟨by rw[Zw];exact b,?_⟩;rw[← f,Zt,Zt,ZP,Zq b];rfl
end
end T48
end
section
namespace T48
open VS AU
abbrev tL(l:List Rs):T:=.lst (l.map tR)
def qR(l:List Rs):LW 60 (tL l)=M:=by
 show ((l.map tR).all (LW 59))=M;rw[V0];exact Mz.mpr λ_ _=>rfl
def qZ{m:Md}(h:l=r):NU (m,tL l) (n,tL r)=Y (.fr,.bl B):=by
 subst h;exact xD (qR l) (qR l) (iy 60 _ (qR l))
def Dg{m:Md}{l:List Rs}(h:l.Nodup)(e:l.length<300):ng [(m,tL l)]=Y (.fr,.int (l.length:Int)):=by
 show ((l.map tR).mapM Ru).bind _=_;rw[si,Zu,Zp ⟨(Y5.mpr (h.imp λ{a b} g z=>g (by
  have d:[bR (kR a)]=[a]:=DZ [a];have f:[bR (kR b)]=[b]:=DZ [b];rw[z,f]at d;exact(W8 d).1.symm))),by rw[Zw];exact e⟩,Zw]
def JO(h:q∈l):iB (m,tR q) (n,tL l)=Y (.fr,.bl B):=by
 have:C1 (m,tR q) (n,tL l)=Y (.fr,.bl M):=by
  show (if (M&&(l.map tR).all yJ)=M then Y (Md.fr,T.bl ((l.map tR).any λz=>eqT z (tR q))) else J)=_;rw[Zp (by rw[VT,V0];exact Mz.mpr λ_ _=>rfl),Xp (p:=λz=>eqT z (tR q)) |>.mpr ⟨tR q,ZC.mpr ⟨q,h,rfl⟩,iy 60 _ L⟩]
 unfold iB;rw[this];rfl
def Gn(S:AU.St)(M:Uz)(n:Nat):(row S M n).2.2.1=(S.lk.getD n J).map M.idxOf:=by
 unfold row;cases S.lk.getD n J<;>rfl
section
variable{bk:List Tx}{nd:Wd->Option Nat}{wd:List Wd}(H:K (Hd bk) (aM bk) nd wd)(hM:∀x,x∈aA bk↔x<(aM bk).lg.length)(hN:(aA bk).Nodup)(h0:(aA bk).idxOf 0=0)(NJ:∀m,m<wd.length->(W wd m).length<=1000)(hb:∀t∈bk,t.length<=120/\Az t)(h8:bk.length<=8)(hl:(aA bk).length<=1000)(hs:(bk.map List.length).sum<=120)
include H
theorem Ei(C:m<wd.length)(g:nd (W wd m++[c])=Y d):(((jK (rs bk (Lo bk (W wd m)))).filter λq=>q.2.take 1==[c]).map λq=>(q.1,q.2.drop 1)).Perm (rs bk (Lo bk (W wd d)))/\rs bk (Lo bk (W wd d))≠[]:=by
 have f:=wR H g (H.i.top (H.i.lt g));rw[← f];have hd:∀{r:Tx},(r.take 1==[c])=M->∃x,r=c :: x:=λ{r} h=>by
  cases r with
  |nil=>exact absurd (eq_of_beq h) (by simp)
  |cons a x =>
   have:=eq_of_beq h;rw[List.take_succ_cons]at this;exact⟨x,by rw[(W8 this).1]⟩
 refine⟨(List.perm_ext_iff_of_nodup ?_ (Aa bk _)).mpr λq=>?_,λz=>?_⟩
 ·refine Y5.mpr (List.Pairwise.imp_of_mem (λ{a b} s hb A z=>A ?_) (List.Pairwise.filter _ ((dQ _).nodup_iff.mpr (Aa bk (W wd m)))));obtain⟨x,e1⟩:=hd (YM.mp s).2;obtain⟨y,e2⟩:=hd (YM.mp hb).2;obtain⟨o,n⟩:=XA z;rw[e1,e2]at n;exact VJ o (by rw[e1,e2];exact congrArg _ n)
 ·rw[ZC,lV];constructor
  ·rintro⟨p,f,rfl⟩;obtain⟨w,v⟩:=YM.mp f;obtain⟨x,e⟩:=hd v;obtain⟨a,l,j⟩:=lV.mp ((dQ _).mem_iff.mp w);refine⟨a++[c],?_,?_⟩
   ·obtain⟨u,rfl⟩:=l;exact⟨u,by rw[Ze]⟩
   ·rw[j,e,Ze];rfl
  ·rintro⟨a,l,j⟩;obtain⟨u,rfl⟩:=l;refine⟨(q.1,c :: q.2),YM.mpr ⟨(dQ _).mem_iff.mpr (lV.mpr ⟨u++W wd m,⟨u,rfl⟩,?_⟩),by exact beq_self_eq_true _⟩,rfl⟩;rw[j];simp
 ·have:=List.map_eq_nil_iff.mp z;exact(FD (by simp)).mpr (HW.mpr ((H.some _).mp ⟨d,g⟩)) this
theorem CO(g:m<wd.length)(f:q∈rs bk (Lo bk (W wd m))){x:Tx}(e:q.2=c :: x)(d:∀t∈bk,Az t):c∈sk ((aM bk).wy.getD m []):=by
 obtain⟨a,j,b⟩:=lV.mp f;rw[e]at b;have mt:=Yr b;have h:=d _ mt c (ZI _ Zv);refine YM.mpr ⟨VC.mpr ⟨h.1,by lia⟩,?_⟩;rw[H.i.wy (H.i.top g) c];refine YS.mpr ((H.some _).mpr ⟨a++[c],.inr ⟨_,mt,⟨x,by simp⟩⟩,?_⟩);obtain⟨u,rfl⟩:=j;exact⟨u,by rw[Ze]⟩
theorem D1(f:m<wd.length)(e:(aM bk).lk.getD m J=Y l):l<wd.length/\∀q∈rs bk (Lo bk (W wd m)),q∈rs bk (Lo bk (W wd l)):=by
 obtain⟨o,b,⟨n,_⟩,j,_⟩:=H.i.lk (Ya λz=>by
  rw[z,H.i.PM]at e;cases e) f (by simp)
 rw[e]at b;cases b;exact⟨n,λq d=>by
  obtain⟨a,h,g⟩:=lV.mp d;exact lV.mpr ⟨a,j.trans h,g⟩⟩
end
abbrev ER(a:List Tx)(i:Uz)(m:Nat)(h g f e d b:Uw):Env:=[pc (.lst (a.map .str)),pc (Lb (tabOf a)),pc (MT i),Q0 (ix a m:Int),h,g,f,e,d,b]
def ED{m:Md}(h:a U=Y (m,tL l)):eN cq (ae a aj) U=Y (.fr,.int (l.length:Int)):=gF (xv h L) (by
 show Y (Md.fr,T.int (((l.map tR).length:Nat):Int))=_;rw[Zw])
def Jb{m n:Md}{k:Nat}(e:a U=Y (m,.str t))(d:b U=Y (n,.int (k:Int))):PZ a J (Y b) U=Y (.fr,.str (t.take k)):=by
 unfold PZ sL;dsimp only;rw[e,d];show Y (Md.fr,T.str (cut t J (Y (k:Int))))=_;rw[zC]
def E7{a:Ut}(f:a.length=d)(h:∃U,b (a.map (λt=>Y (.pu t))++List.replicate (e-d) J)=Y (.rt v U)):fn d e b a=Y v:=by
 obtain⟨U,h⟩:=h;exact gP f h
def dU{U1:Env}(h:a U=Y (.nx U1))(q:∃z,b U1=Y (.rt v z)):∃z,ar a b U=Y (.rt v z):=by
 rw[aq h];exact q
def eqs(a b:Tx):eqT (.str a) (.str b)=(a==b):=by simp only[eqT]
def Hl(h:l≠[]):oEq (m,tL l) (n,.lst [])=Y (.fr,.bl B):=by
 refine oQ (qR l) L ?_;cases l with
 |nil=>exact absurd L h
 |cons=>rfl
section
variable{bk:List Tx}{nd:Wd->Option Nat}{wd:List Wd}(H:K (Hd bk) (aM bk) nd wd)(hM:∀x,x∈aA bk↔x<(aM bk).lg.length)(hN:(aA bk).Nodup)(h0:(aA bk).idxOf 0=0)(NJ:∀m,m<wd.length->(W wd m).length<=1000)(hb:∀t∈bk,t.length<=120/\Az t)(h8:bk.length<=8)(hl:(aA bk).length<=1000)(hs:(bk.map List.length).sum<=120)
include H hM hN h0 NJ hb h8 hl hs
theorem rt1(o:m<wd.length)(f:nd (W wd m++[c])=Y a)(h:Uw):∃j,gr (ER bk g m (pc (tL (jK (rs bk (Lo bk (W wd m)))))) (Q2 ([c])) (Q0 (ix bk a:Int)) h J J)=Y (.nx (ER bk g m (pc (tL (jK (rs bk (Lo bk (W wd m)))))) (Q2 ([c])) (Q0 (ix bk a:Int)) j J J)):=by
 obtain⟨d,l⟩:=Ei H o f;have ln:(jK (rs bk (Lo bk (W wd m)))).length<=16777216:=by
  have:=Bh bk (W wd m) h8 hs;rw[(dQ _).length_eq];lia
 refine⟨_,sq (aQ (gF (xv (by
  unfold tL;rw[LU];refine iC (k:=2) (m:=.pu) tR (λq=>q.2.take 1==[c]) _ (jK (rs bk (Lo bk (W wd m)))) L L ln λq b=>⟨_,(.fr,.bl (q.2.take 1==[c])),rfl,e2v (Jb (m:=.fr) (n:=.fr) (k:=1) L L) (y:=(.fr,.str [c])) L (oQ L L (eqs _ _)),rfl,λb=>Gv L (qB (m:=.fr) (n:=.fr) (k:=1) L L ?_)⟩
  have:=congrArg List.length (eq_of_beq b);rw[Yv]at this;have e:[c].length=1:=rfl;lia) L) (xA _)) (by decide) (by show 7<10;decide)) (yV (or2 (n:=.fr) (e2v L L (Hl ?_)) (e2v L (bP (xv L (xv L (xv L L))) (ni H hM hN h0 NJ hb h8 hl (H.i.lt f))) (qZ (vn d)))) L)⟩
 rw[vn d];intro z;have:=(dQ (rs bk (Lo bk (W wd a)))).length_eq;rw[z]at this;exact l (XZ.mp this.symm)
theorem CU{b:Uz}(E:∀m,m<wd.length->ix bk m<b.length/\b.getD (ix bk m) 0=(Lo bk (W wd m)).length)(j:m<wd.length):gL [.lst (bk.map .str),Lb (tabOf bk),MT b,.int (ix bk m:Int)]=Y (.fr,.bl M):=by
 have O:m<(aM bk).lg.length:=by rw[← H.i.len];exact j
 have U:=Aa bk (W wd m);obtain⟨c1,c2⟩:=E m j;have G:=ni H hM hN h0 NJ hb h8 hl j;have pm:=dQ (rs bk (Lo bk (W wd m)));have w:=vn pm;have loop:∀(l:List (Nat×Nat))(f d a:Uw),(∀p∈l,∃v,nd (W wd m++[p.1])=Y v/\p.2=ix bk v)->∃D C o,forL (jJ [bB 5,bB 6]) gr (l.map Si) (ER bk b m (pc (tL (jK (rs bk (Lo bk (W wd m)))))) f d a J J)=Y (.nx (ER bk b m (pc (tL (jK (rs bk (Lo bk (W wd m)))))) D C o J J)):=λl=>by
  induction l with
  |nil=>exact λf d a _=>⟨f,d,a,rfl⟩
  |cons p l Z =>
   intro f d a h;obtain⟨v,e1,e2⟩:=h p Zv;obtain⟨o,e3⟩:=rt1 H hM hN h0 NJ hb h8 hl hs j e1 a;rw[← e2]at e3;obtain⟨S,R,Q,e4⟩:=Z (Q2 ([p.1])) (Q0 (p.2:Int)) o λq g=>h q (Zx _ g);exact⟨S,R,Q,(eD L e3).trans e4⟩
 obtain⟨D,C,o,N⟩:=loop (steps (aM bk) (aA bk) m) J J J λp hp=>by
  obtain⟨c,F,rfl⟩:=ZC.mp hp;obtain⟨v,e⟩:=l7 F;exact⟨v,by rw[← H.i.wy (H.i.top j) c];exact e,by rw[e];rfl⟩
 have st:∀u f d a s r,e2 aE (e2 aE (aa 1) (aa 3)) (Q3 3) (ER bk b m u f d a s r)=Y (.fr,Nz (steps (aM bk) (aA bk) m)):=λu f d a s r=>e2v (rj hM O L L) L (by
  show Y (up .fr (Nz (row (aM bk) (aA bk) m).2.2.2))=_;rw[qh,up,pj];rfl)
 have iv:∀u f d a s r,fU (e2 aE (e2 aE (aa 1) (aa 3)) (Q3 3)) (ER bk b m u f d a s r)=Y (.fr,(steps (aM bk) (aA bk) m).map Si):=λu f d a s r=>by
  show (e2 aE _ _ _).bind zM=_;rw[st];rfl
 generalize hA:jK (rs bk (Lo bk (W wd m)))=A at G pm w N;have X:A.length=(Lo bk (W wd m)).length:=by
  rw[pm.length_eq];unfold rs;rw[Zw]
 have P:A.length<300:=by rw[pm.length_eq];exact(Bh bk (W wd m) h8 hs)
 refine E7 L (dU (aQ (bP (xv L (xv L (xv L L))) G) (by decide) (by show 4<10;decide)) (dU (yV (or2 (m:=.fr) (n:=.fr) (x:=B) (e2v (ED L) (e2v (x:=(.pu,MT b)) (y:=(.fr,.int (ix bk m:Int))) (z:=(.fr,.int ((Lo bk (W wd m)).length:Int))) L L ?_) ?_) (or2 (n:=.fr) (e2v (gF (xv L L) (Dg (pm.nodup_iff.mpr U) P)) (ED L) (xD L L (iy 60 _ L))) (e2v L (gF (xv L L) (xA A)) (qZ w.symm)))) L) (dU ((dG (iv _ _ _ _ _ _) L).trans N) (dU (aQ (m:=.fr) (t:=.lst ((sk ((aM bk).wy.getD m [])).map s1)) ?_ (by decide) (by show 8<10;decide)) (dU (yV (m:=.fr) (e2v (iC tR (λ_=>B) (λq=>T.str q.2) A L L (by lia) λq g=>⟨_,(.fr,.bl B),rfl,?_,rfl,λz=>nomatch z⟩) L ?_) L) ?_)))))
 ·rw[iU (λ(n:Nat)=>T.int (n:Int)) b (ix bk m) 0 c1,c2];rfl
 ·rw[X];exact xD L L (iy 60 _ L)
 ·refine(dn Si (λp=>s1 p.1) (steps (aM bk) (aA bk) m) (iv _ _ _ _ _ _) L (by
  unfold steps;rw[Zw];exact ZR (Xn _ _) (by decide)) λp _=>⟨[Q2 ([p.1]),Q0 (p.2:Int)]++ER bk b m (pc (tL A)) D C o J J,rfl,rfl⟩).trans ?_
  rw[← oU (aM bk) (aA bk) m,LU];rfl
 ·refine vR (e2v L L (xD L L (eqs _ _))) (λh=>?_) λ_=>rfl;cases e:q.2 with
  |nil=>rw[e]at h;exact absurd h (by decide)
  |cons c x =>
   have F:=(λq g c x e=>CO H j g e λt ht=>(hb t ht).2) q (pm.mem_iff.mp g) c x e;refine e2v (x:=(.fr,.str [c])) (y:=(.pu,.lst ((sk ((aM bk).wy.getD m [])).map s1))) ?_ L ?_
   ·refine e2v (x:=(.fr,.str (c :: x))) ?_ L ?_
    ·rw[← e];rfl
    ·rw[vD (c :: x) _ (by decide) (by rw[Zf];lia)];rfl
   ·have:mV (.fr,.str [c]) (.pu,.lst ((sk ((aM bk).wy.getD m [])).map s1))=Y (.fr,.bl M):=by
     show (if (M&&((sk ((aM bk).wy.getD m [])).map s1).all flat)=M then Y (Md.fr,T.bl (((sk ((aM bk).wy.getD m [])).map s1).any λy=>eqT y (s1 c))) else J)=_;rw[Zp (by rw[VT,V0];exact Mz.mpr λ_ _=>rfl),Xp (p:=λy=>eqT y (s1 c)) |>.mpr ⟨s1 c,ZC.mpr ⟨c,F,rfl⟩,iy 60 _ L⟩]
    unfold cN;rw[this];rfl
 ·rw[List.filter_eq_nil_iff.mpr λ_ _=>Zh];rfl
 ·have lk:e2 aE (e2 aE (aa 1) (aa 3)) (Q3 2) (ER bk b m (pc (tL A)) D C o (pc (.lst ((sk ((aM bk).wy.getD m [])).map s1))) J)=Y (.fr,KO (((aM bk).lk.getD m J).map (aA bk).idxOf)):=e2v (rj hM O L L) L (by
   show Y (up .fr (KO (row (aM bk) (aA bk) m).2.2.1))=_;rw[Gn,up,j6];rfl)
  refine dU (aQ lk (by decide) (by show 9<10;decide)) ?_;cases e:(aM bk).lk.getD m J with
  |none=>exact⟨_,kD (ift L L)⟩
  |some l =>
   obtain⟨g1,g2⟩:=D1 H j e;refine dU (yV L L) (dU (aQ (bP (xv L (xv L (xv L L))) (ni H hM hN h0 NJ hb h8 hl g1)) (by decide) (by show 7<10;decide)) ⟨_,fG (e2v (iC tR (λ_=>B) tR A L L (by lia) λq g=>⟨_,(.fr,.bl B),rfl,e2v L L (JO ((dQ _).mem_iff.mpr (g2 q (pm.mem_iff.mp g)))),rfl,λz=>nomatch z⟩) L ?_)⟩);rw[List.filter_eq_nil_iff.mpr λ_ _=>Zh];rfl
end
def BB{x:Xx}(j:a U=Y l)(h:Ci l=M)(i:x U=Y ((.fr,t),b))(e:Kh t=M)(f:g (trees l++[t])=Y (m,v))(d:Kh v=M):qI a x g U=Y ((.fr,v),b):=by
 unfold qI;rw[j,Zu,i,Zu,Zp ⟨h,e⟩];rw[f,Zu,Zp d]
def AD(w:Tx)(l:List Tx)(t:Tx):L5 (l++[t]) 0 w=L5 l 0 w++(QF w t).map λe=>(l.length,e):=by
 unfold L5;rw[List.zipIdx_append,List.flatMap_append,YJ];show _++((QF w t).map (λe=>(l.length,e))++[])=_;rw[ZM]
abbrev EV(f:Uy)(n:Int)(a:List Tx)(g:Uz)(ta:List Rs)(e d b:Uw):Env:=[pc (.scr f),pc (.lst [.int n]),pc (.lst (a.map .str)),pc (Lb (tabOf a)),pc (MT g),pc (tL ta),e,d,b]
def wV{n:Int}(r:∀t∈d,t.length<=120)(F:d.length<=8)(E:(d.map List.length).sum<=120):∀(k j:Nat)(z:Uw),j+k=d.length->∃y,forL (bB 6) sT ((List.range' j k).map λ(i:Nat)=>T.int (i:Int)) (EV f n d h (rs d (L5 (d.take j) 0 [])) z J J)=Y (.nx (EV f n d h (rs d (L5 d 0 [])) y J J)):=by
 intro k
 induction k with
 |zero =>
  intro j z q;rw[Ys (by lia)];exact⟨z,rfl⟩
 |succ k p =>
  intro j z q;have g:j<d.length:=by lia
  obtain⟨y,e⟩:=p (j+1) (Q0 (j:Int)) (by lia);refine⟨y,?_⟩;rw[Vw,Zm];have o:d[j]?=Y (d.getD j []):=by rw[Zt,Zq g];rfl
  have C:=r _ (Yr o);have l:∀{U:Env}{a b:Ex}{x:Md},a U=Y (x,.lst (d.map .str))->b U=Y (.fr,.int (j:Int))->e2 aE a b U=Y (.fr,.str (d.getD j [])):=λu s=>e2v u s ((iU T.str d j [] g).trans (by rfl));refine(eD (U1:=EV f n d h (rs d (L5 (d.take j) 0 [])) (Q0 (j:Int)) J J) L (aQ (m:=.fr) (e2v L (dn (m:=.fr) (λ(i:Nat)=>T.int (i:Int)) (λe=>tR (j,(d.getD j []).drop e)) (List.range ((d.getD j []).length+1)) ?_ L (by rw[MH];lia) λe he=>⟨_,rfl,Gv L (qB (l L L) L (MJ (Yd.mp he)))⟩) ?_) (by decide) (by show 5<9;decide))).trans e
  ·rw[eY (j:=(((d.getD j []).length+1:Nat):Int)) (e2v (gF (xv (l L L) L) L) L L) (by lia),ig,Y7]
  ·have v:d.take (j+1)=d.take j++[d.getD j []]:=by rw[List.take_add_one,o];rfl
   have A:QF [] (d.getD j [])=List.range ((d.getD j []).length+1):=List.filter_eq_self.mpr λe _=>rfl;have w:rs d (L5 (d.take (j+1)) 0 [])=rs d (L5 (d.take j) 0 [])++(List.range ((d.getD j []).length+1)).map λe=>(j,(d.getD j []).drop e):=by
    rw[v,AD,A];unfold rs;rw[Yy,LU,Yv,YV (ZQ g)];rfl
   have ln:=(ot [] (d.take (j+1)) 0).2.2;have D:((d.take (j+1)).map List.length).sum<=(d.map List.length).sum:=by
    conv=>rhs;rw[← YZ (j+1) d]
    rw[Yy,List.sum_append];exact Zd _ _
   show NC _ ((rs d (L5 (d.take j) 0 [])).map tR++(List.range ((d.getD j []).length+1)).map λe=>tR (j,(d.getD j []).drop e))=_;rw[show (rs d (L5 (d.take j) 0 [])).map tR++(List.range ((d.getD j []).length+1)).map (λe=>tR (j,(d.getD j []).drop e))=(rs d (L5 (d.take (j+1)) 0 [])).map tR from by rw[w,Yy,LU];rfl,vd (by rw[Zw];unfold rs;rw[Zw];have:=List.length_take_le (j+1) d;lia),Zp (nP tR (λ_=>rfl) _)]
def Bw(a:Uy)(R:a.length<=63):BF [.scr a]=Y (.fr,.bl M):=by
 obtain⟨n,e1⟩:=uV a R 0 (by decide);obtain⟨S,L,Mb,Z,y,X⟩:=Du n;obtain⟨j,bk,e3,o,bs,Q⟩:=G9 ⟨Z,y,X⟩ S;obtain⟨G,e5⟩:=uV a R 1 (by decide);have h:Pc bk:=⟨o,bs,Q⟩
 obtain⟨_,nd,b,H,hl,hB,u,hm,w⟩:=h.k;have hN:(aA bk).Nodup:=by
  obtain⟨l,e,q,_⟩:=H.met (k:=1000) (by lia);rw[Zl (hB.symm.trans e)];exact q
 have hlen:∀t∈bk,t.length<=120:=λt f=>ZR (Pc.Rm f) h.sum;have hb:∀t∈bk,t.length<=120/\Az t:=λt f=>⟨hlen t f,Q t f⟩
 have D:∀t,t<b.length->(W b t).length<=1000:=λt f=>by
  obtain⟨p,A,O⟩:=(H.some (W b t)).mp ⟨t,H.i.top f⟩;rcases A with rfl | ⟨v,hv,A⟩
  ·rw[YA.mp O];exact ZA _
  ·exact ZR (O.isInfix.trans A.isInfix).length_le (ZR (hlen v hv) (by decide))
 obtain⟨g,ec,C⟩:=BQ H u hN w D hb o (by lia);have P:=ni H u hN w D hb o (by lia) (H.i.lt H.i.z);rw[show ix bk 0=0 from w,H.i.wz]at P;obtain⟨s,f1⟩:=wV hlen o bs bk.length 0 J (YJ _);have tab:(tabOf bk).length=b.length:=by
  unfold tabOf AU.tab;rw[Zw,hm]
 have wp:=H.i.lt H.i.z;obtain⟨U',f2,m2,y8,rfl⟩:=ko (tg:=bB 8) (body:=u4) (λ(k:Nat)=>T.int (k:Int)) (λ_ U=>∃m E,U=EV a j bk g (rs bk (L5 bk 0 [])) s (oc (.lst [.int m])) E) (by
  rintro k r _ ⟨m,E,rfl⟩;obtain⟨d,F,d0,d1,e⟩:=nx (i:=7) (un:=B) (m:=(b.length:Int)) (x:=xI (eN cq (ae (aa 3) aj))) (U:=EV a j bk g (rs bk (L5 bk 0 [])) s (oc (.lst [.int m])) (Q0 (k:Int))) (by lia) rfl (dX (gF (xv rfl rfl) (by
   show Y (Md.fr,T.int ((((tabOf bk).map pE).length:Nat):Int))=_;rw[Zw,tab])) rfl) rfl
  obtain⟨c,rfl⟩:∃c:Nat,d=(c:Int):=⟨d.toNat,by lia⟩
  have cl:c<(aA bk).length:=by lia
  have cm:(aA bk).getD c 0<b.length:=by
   rw[H.i.len];refine(u _).mp ?_;rw[Zt,Zq cl];exact Yu cl
  have ci:ix bk ((aA bk).getD c 0)=c:=by
   rw[Zt,Zq cl];exact hN.idxOf_getElem c cl
  have N:=CU H u hN w D hb o (by lia) bs C cm;rw[ci]at N;refine⟨_,_,rfl,(uz (U1:=EV a j bk g (rs bk (L5 bk 0 [])) s (oc (.lst [.int F])) (Q0 (k:Int))) ?_).trans rfl,F,_,rfl⟩;exact congrArg (Option.map _) (E3 (BB (xv (x:=(.pu,.lst (bk.map .str))) rfl (xv (x:=(.pu,Lb (tabOf bk))) rfl (xv (r:=aj) (x:=(.pu,MT g)) rfl rfl))) rfl e rfl N rfl))) (List.range 6) (EV a j bk g (rs bk (L5 bk 0 [])) s (oc (.lst [.int G])) J) ⟨G,J,rfl⟩
 refine E7 rfl (dU (sG (bP (xv rfl (xv rfl rfl)) e1) rfl (by show 1<9;decide)) (dU (Eo (cx (k:=0) (l:=[.str L]) rfl (we (cx (l:=[]) rfl rfl rfl rfl rfl rfl Mb) rfl rfl) rfl rfl rfl rfl e3) (by show 2<9;decide)) (dU rfl (dU rfl (dU (aQ (Cn h rfl) (by decide) (by show 3<9;decide)) (dU (aQ (bP (xv rfl (xv rfl rfl)) ec) (by decide) (by show 4<9;decide)) (dU (U1:=EV a j bk g [] J J J) rfl (dU ((dG (m:=.fr) ?_ rfl).trans f1) (dU (yV (e2v (bP (xv rfl (xv rfl (xv (r:=aj) rfl rfl))) P) (gF (xv rfl rfl) (xA _)) (qZ rfl)) rfl) (dU (sG (bP (xv rfl (xv rfl rfl)) e5) rfl (by show 7<9;decide)) (dU ((dG (m:=.fr) ?_ rfl).trans f2) (dU rfl ⟨_,rfl⟩))))))))))))
 ·rw[eY (gF (xv rfl rfl) (by show Y (Md.fr,T.int (((bk.map T.str).length:Nat):Int))=_;rw[Zw])) (by lia),ig,Y7,Vd]
 ·rw[eY rfl (by decide),ig];rfl
end T48
end
section
namespace T48
open PySem PySem.Spec PyProof.Rows L2 VS
def qv{X:Cx}(i:Nat)(a:{`q8,X.N[i]?=Y x})(b:M7 X.env.scope x:=by exact Or.inl L)(c:{`q3,K3 x})(d:{`q3,K4 x}):PV G X (.Name x p) (aa i):=bx i a b c d
def Q4{α:Sort _}{x:α}{b:Prop}:x=x∨b:=.inl L
abbrev Q5:List Str:=["_law_book_here", "_law_table", "_law_many", "_law_stand"]
abbrev Q6:List Str:=["_law_end", "_law_script", "_law_spring_here", "_law_book_here", "_law_table", "_law_many", "_law_tails", "_law_text_here", "_law_more", "_law_turn"]
abbrev Q7:List Str:=["_law_k", "_law_spring_here", "_law_letters", "_law_few", "_law_start", "_law_step"]
abbrev Q8:List Str:=["_law_k", "_law_spring_here", "_law_signs_here", "_law_most"]
abbrev Q9:List Str:=["_law_one", "_law_book_here", "_law_table", "_law_many", "_law_stand", "_law_some", "_law_sign", "_law_there", "_law_behind", "_law_signs_here", "_law_link"]
abbrev Qa:List Str:=["_law_script", "_law_k"]
abbrev Qb:List Str:=["_law_sign", "_law_there", "_law_book_here", "_law_table", "_law_many", "_law_stand", "_law_some", "-7", "-8", "_law_behind", "_law_signs_here", "_law_link"]
abbrev Qc:List Str:=["_law_spring_here", "_law_most"]
abbrev Qd:List Str:=["_law_spring_here", "_law_signs_here", "_law_most"]
abbrev Qe:List Str:=["_law_spring_here", "_law_signs_here"]
abbrev Qf:List Str:=["_law_spring_here"]
abbrev Qg:List Str:=["_law_text_here", "_law_rest", "_law_book_here", "_law_table", "_law_many", "_law_stand", "_law_some", "_law_sign", "_law_there", "_law_behind", "_law_signs_here", "_law_link"]
abbrev Qh:List Str:=["book", "number"]
abbrev Qi:List Str:=["book", "table", "stand"]
abbrev Qj:List Str:=["book", "table"]
abbrev Qk:List Str:=["row", "book", "table", "found", "number", "text", "end", "head", "stand"]
abbrev Ql:List Str:=["self", "head", "sign"]
abbrev Qm:List Str:=["self", "head", "word"]
abbrev Qn:List Str:=["self", "long", "link", "ways"]
abbrev Qo:List Str:=["self", "node", "numbers"]
abbrev Qp:List Str:=["self", "node", "sign"]
abbrev Qq:List Str:=["self", "text", "word"]
abbrev Qr:List Str:=["self"]
abbrev Qs:List Str:=["sign", "self", "node", "numbers", "link", "ways", "steps"]
abbrev Qt:List Str:=["table", "stand"]
abbrev Qu:List Str:=["text", "end", "book", "table", "stand"]
noncomputable def top(i:Nat):Stmt:=PySem.Challenge.pw_allparts_k48_rests_and_ways.main.body.getD i (.Pass ⟨0,0,0,0⟩)
structure LG(mg:Wv):Prop where
 Sb:mg "bool" = none
 O9:mg "dict" = none
 L4:mg "enumerate" = none
 UB:mg "int" = none
 LK:mg "isinstance" = none
 Ks:mg "len" = none
 Sa:mg "list" = none
 Lg:mg "range" = none
 UA:mg "set" = none
 K9:mg "sorted" = none
 Us:mg "sum" = none
 P6:mg "tuple" = none
 MY:∃t,mg "MOST_SIGNS" = some (.int 120 t)
 MX:∃t,mg "MOST_TEXTS" = some (.int 8 t)
noncomputable abbrev QH:List Str:=["  ", "longs", "links", "ways", "texts", "heads", "nodes"]
abbrev gX(K:X2)(C D:On):Gx:=Pr QH K C D
def gJ{K:X2}:ke ((Pr QH K C D).at m):=Eg (by decide +kernel) (by decide +kernel)
structure Lm(K:X2)(mg:Wv)(C D:On):Prop where
 Kg:LX K C
 OO:mg "Nodes" = some (.ref C)
 KW:aY K C "longs"
 KY:aY K C "links"
 Ld:aY K C "ways"
 KS:aY K C "texts"
 KZ:aY K C "heads"
 KU:aY K C "nodes"
 Ke:LX K D
 ND:mg "Machine" = some (.ref D)
 KC:aY K D "longs"
 KD:aY K D "links"
 KL:aY K D "ways"
 Kz:aY K D "texts"
 KG:aY K D "heads"
 KA:aY K D "nodes"
def fB{K:X2}(a:Lm K b C D):LB ((Pr QH K C D).at m) K 1 "longs" := yh L a.Kg a.Ke a.KW a.KC
def fu{K:X2}(a:Lm K b C D):LB ((Pr QH K C D).at m) K 2 "links" := yh L a.Kg a.Ke a.KY a.KD
def d8{K:X2}(a:Lm K b C D):LB ((Pr QH K C D).at m) K 3 "ways" := yh L a.Kg a.Ke a.Ld a.KL
def d9{K:X2}(a:Lm K b C D):LB ((Pr QH K C D).at m) K 4 "texts" := yh L a.Kg a.Ke a.KS a.Kz
def kK{K:X2}(a:Lm K b C D):LB ((Pr QH K C D).at m) K 5 "heads" := yh L a.Kg a.Ke a.KZ a.KG
def oo{K:X2}(a:Lm K b C D):LB ((Pr QH K C D).at m) K 6 "nodes" := yh L a.Kg a.Ke a.KU a.KA
section
variable(P:SB)(w:XAB)(base:XAA){K:X2}
abbrev fg:Stmt:=inClass (top 21) 1
def kE:gV Qn Qn (ag fg):=by constructor<;>first | rfl | decide +kernel
def aN(F:Kp K "new_node" "Nodes.new_node" fg f e)(b:Meth K C "new_node" f)(B:LG mg)(a:Lm K mg C D) :
  MtAt P w K mg base 1 (gX K C D) 0 "new_node" Qn [false,false,M] aU:=lN F b a.Kg (gf (by decide +kernel) (by decide +kernel)) kE L L (λ_ _ _ _ _ _ g d=>by obtain⟨_,_,_,_,rfl⟩:=L2.JC d;rfl) λ_ _ _ _ _ _ _ h =>
  (af (rL gJ (fH 1 (fB a) (bI 0)) (ab (qv 1) ah))
  (af (rL gJ (fH 2 (fu a) (bI 0)) (ab (qv 2) ah))
  (af (Ef gJ (fH 3 (d8 a) (bI 0)) L L Q4 L L L L L L L L)
  (au (bH (kH Be Bv (dS B.Ks (ab (w_fld gJ (fB a) (qv 0)) ah)) ak))))))
abbrev eR:Stmt:=inClass (top 21) 0
def lu:gV Qr Qr (ag eR):=by constructor<;>first | rfl | decide +kernel
def cz(F:Kp K "__init__" "Nodes.__init__" eR f g)(d:Mk K C f)(B:LG mg)(a:Lm K mg C D)(h:MtAt P w K mg base 1 (gX K C D) 0 "new_node" Qn [false,false,M] aU) :
  InAt P w K mg base 2 (gX K C D) 0 0 "Nodes" Qr dk:=Gi F d a.OO lu L L (λ_ _ _ _ _ _ i e=>by obtain⟨_,rfl⟩:=L2.pL e;rfl) λ_ _ _ _ _ _ _ b =>
  (af (lW 0 1 gJ (fB a) (cB ah))
  (af (lW 0 2 gJ (fu a) (cB ah))
  (af (lW 0 3 gJ (d8 a) (cB ah))
  (au (t4 (iP gJ h.at b (by decide) (bI 0) (ab ak (ab AE (ab Aj ah)))) L)))))
abbrev cn:Stmt:=inClass (top 21) 4
def ba:gV ["self", "node", "sign", "old", "long", "half"] Qp (ag cn):=by constructor<;>first | rfl | decide +kernel
def aV(F:Kp K "node_just_behind" "Nodes.node_just_behind" cn f g)(d:Meth K C "node_just_behind" f)(B:LG mg)(a:Lm K mg C D)(h:MtAt P w K mg base 1 (gX K C D) 0 "new_node" Qn [false,false,M] aU) :
  MtAt P w K mg base 2 (gX K C D) 0 "node_just_behind" Qp [false,false] av:=lN F d a.Kg (gf (by decide +kernel) (by decide +kernel)) ba L L (λ_ _ _ _ _ _ i e=>by obtain⟨_,_,_,rfl⟩:=L2.t5 e;rfl) λ_ _ _ _ _ _ _ b =>
  (af (aG (zb b (bq (w_fld gJ (d8 a) (qv 0)) (qv 1) (λ_ _=>rfl)) (qv 2) (λ_ _=>rfl)) ba.nd L Q4)
  (af (aG (w_add (bq (w_fld gJ (fB a) (qv 0)) (qv 1) (λ_ _=>rfl)) ak) ba.nd L Q4)
  (af (cV (u9 b (bq (w_fld gJ (fB a) (qv 0)) (qv 3) (λ_ _=>rfl)) (qv 4)) (au (c7 3 L (Or.inl L) L L)) bJ)
  (af (fq (iP gJ h.at b (by decide) (bI 0) (ab (qv 4) (ab (bq (w_fld gJ (fu a) (qv 0)) (qv 3) (λ_ _=>rfl)) (ab (CT B.O9 (ab (bq (w_fld gJ (d8 a) (qv 0)) (qv 3) (λ_ _=>rfl)) ah) L L) ah)))) ba.nd L Q4)
  (af (i9 gJ b (fH 2 (fu a) (bI 0)) (qv 3) (qv 5))
  (af (jC Yg (Oi.Rr (rN (kj (qv 1)) (nI (u9 b (w_get b (bq (w_fld gJ (d8 a) (qv 0)) (qv 1) (λ_ _=>rfl)) (qv 2) L L L L) (qv 3)))))
  (af (i9 gJ b (EW b (fH 3 (d8 a) (bI 0)) (qv 1) (λ_ _=>rfl) L) (qv 2) (qv 5))
  (au (aG (bq (w_fld gJ (fu a) (qv 0)) (qv 1) (λ_ _=>rfl)) ba.nd L Q4))))
  (au (c7 5 L (Or.inl L) L L))))))))
abbrev dz:Stmt:=inClass (top 21) 3
def cf:gV ["self", "head", "sign", "fresh", "node"] Ql (ag dz):=by constructor<;>first | rfl | decide +kernel
def bM(F:Kp K "head_behind" "Nodes.head_behind" dz f h)(e:Meth K C "head_behind" f)(B:LG mg)(b:Lm K mg C D)(i:MtAt P w K mg base 1 (gX K C D) 0 "new_node" Qn [false,false,M] aU)(d:MtAt P w K mg base 2 (gX K C D) 0 "node_just_behind" Qp [false,false] av) :
  MtAt P w K mg base 3 (gX K C D) 0 "head_behind" Ql [false,false] bL:=lN F e b.Kg (gf (by decide +kernel) (by decide +kernel)) cf L L (λ_ _ _ _ _ _ j g=>by obtain⟨_,_,_,rfl⟩:=L2.t5 g;rfl) λ_ _ _ _ _ _ _ a =>
  (af (cV (Jy a (qv 2) (bq (w_fld gJ (d8 b) (qv 0)) (qv 1) (λ_ _=>rfl)) (by with_unfolding_all rfl) L) (au (wa (iP gJ d.at a (by decide) (bI 0) (ab (qv 1) (ab (qv 2) ah))))) bJ)
  (af (fq (iP gJ i.at a (by decide) (bI 0) (ab (w_add (bq (w_fld gJ (fB b) (qv 0)) (qv 1) (λ_ _=>rfl)) ak) (ab ak (ab Aj ah)))) cf.nd L Q4)
  (af (aG (qv 1) cf.nd L Q4)
  (af (jC Yg (Oi.Rr (rN (kj (qv 4)) (nI (sA a (qv 2) (bq (w_fld gJ (d8 b) (qv 0)) (qv 4) (λ_ _=>rfl)) (by with_unfolding_all rfl)))))
  (af (i9 gJ a (EW a (fH 3 (d8 b) (bI 0)) (qv 4) (λ_ _=>rfl) L) (qv 2) (qv 3))
  (au (aG (bq (w_fld gJ (fu b) (qv 0)) (qv 4) (λ_ _=>rfl)) cf.nd L Q4))))
  (af (cV (kj (qv 4)) (au (qY gJ a (fH 2 (fu b) (bI 0)) (qv 3) (iP gJ d.at a (by decide) (bI 0) (ab (qv 4) (ab (qv 2) ah))) (λ_=>rfl) L L L)) bJ)
  (au (c7 3 L (Or.inl L) L L)))))))
abbrev dI:Stmt:=inClass (top 21) 2
def dA:gV ["self", "head", "word", "sign"] Qm (ag dI):=by constructor<;>first | rfl | decide +kernel
def bT(F:Kp K "head_grown" "Nodes.head_grown" dI f e)(b:Meth K C "head_grown" f)(B:LG mg)(h:Lm K mg C D)(g:MtAt P w K mg base 3 (gX K C D) 0 "head_behind" Ql [false,false] bL) :
  MtAt P w K mg base 4 (gX K C D) 0 "head_grown" Qm [false,false] aR:=lN F b h.Kg (gf (by decide +kernel) (by decide +kernel)) dA L L (λ_ _ _ _ _ _ i d=>by obtain⟨_,_,_,rfl⟩:=L2.t5 d;rfl) λ_ _ _ _ _ _ _ a =>
  (af (dH Yg L (cK (qv 2)) (aF 3 dA.nd L Q4 Q4)
  (au (fq (iP gJ g.at a (by decide) (bI 0) (ab (qv 1) (ab (qv 3) ah))) dA.nd L Q4)))
  (au (c7 1 L (Or.inl L) L L)))
abbrev cE:Stmt:=inClass (top 21) 6
def aL:gV ["self", "numbers", "met", "done", "ways", "sign"] Qr (ag cE):=by constructor<;>first | rfl | decide +kernel
def bw{m:Me}(F:Kp K "numbers_by_node" "Nodes.numbers_by_node" cE f g)(d:Meth K C "numbers_by_node" f)(B:LG mg)(b:Lm K mg C D) :
  MpAt P w K mg base 1 ((gX K C D).at m) 0 "numbers_by_node" Qr aI:=nU F d b.Kg (gf (by decide +kernel) (by decide +kernel)) aL L L (λ_ _ _ _ _ _ h e=>by obtain⟨_,rfl⟩:=L2.pL e;rfl) λ_ _ _ _ _ _ a =>
  (af (gR FJ aL.nd L Q4)
  (af (gR (cB (ab ak ah)) aL.nd L Q4)
  (af (aG ak aL.nd L Q4)
  (af (jC Yg (gH se xw kW (qv 3) (dS B.Ks (ab (qv 2) ah)) (jm _))
  (af (aG (bq (w_fld gJ (d8 b) (qv 0)) (bq (qv 2) (qv 3) (λ_ _=>rfl)) (λ_ _=>rfl)) aL.nd L Q4)
  (af (dH Yg L (cK (xo B.K9 (ab (qv 4) ah))) (aF 5 aL.nd L Q4 Q4)
  (au (cV (sA a (zb a (qv 4) (qv 5) (λ_ _=>rfl)) (qv 1) (by with_unfolding_all rfl)) (af (FY 1 a (zb a (qv 4) (qv 5) (λ_ _=>rfl)) (dS B.Ks (ab (qv 2) ah)) L Q4 L L (λ_=>rfl) L L L)
  (au (kZ 2 (ab (zb a (qv 4) (qv 5) (λ_ _=>rfl)) ah) L L Q4 L L))) bJ)))
  (au (aG (w_add (qv 3) ak) aL.nd L Q4)))))
  (m7 2 (au (c7 1 L (Or.inl L) L L)))))))
abbrev gp:Stmt:=inClass (top 21) 7
def dF:gV ["self", "node", "numbers", "link", "ways", "steps"] Qo (ag gp):=by constructor<;>first | rfl | decide +kernel
def dc{m:Me}(F:Kp K "row_of" "Nodes.row_of" gp f g)(d:Meth K C "row_of" f)(B:LG mg)(a:Lm K mg C D) :
  MpAt P w K mg base 1 ((gX K C D).at m) 0 "row_of" Qo bU:=nU F d a.Kg (gf (by decide +kernel) (by decide +kernel)) dF L L (λ_ _ _ _ _ _ h e=>by obtain⟨_,_,_,rfl⟩:=L2.t5 e;rfl) λ_ _ _ _ _ _ b =>
  (af (aG (bq (w_fld gJ (fu a) (qv 0)) (qv 1) (λ_ _=>rfl)) dF.nd L Q4)
  (af (aG (bq (w_fld gJ (d8 a) (qv 0)) (qv 1) (λ_ _=>rfl)) dF.nd L (Or.inr L))
  (af (aG (CW B.P6 (ab (iz 1 Qs L (cK (xo B.K9 (ab (bx 4 L (Or.inr Q4) L L) ah))) (cw) (λ_ _ _ _ _=>(aF 0 (show List.Nodup Qs from by decide +kernel) L Q4 (Or.inr L))) (λ_ _ _ _ _=>(jV (ab (qv 0) (ab (EI b (bx 3 L (Or.inr Q4) L L) (zb b (bx 5 L (Or.inr Q4) L L) (qv 0) (λ_ _=>rfl)) (λ_ _=>rfl) L) ah)))) L L (by decide)) ah)) dF.nd L Q4)
  (af (cV (Ac (qv 3)) (au (bH (jV (ab ak (ab ak (ab AE (ab (qv 5) ah))))))) bJ)
  (au (bH (jV (ab (w_add (bq (w_fld gJ (fB a) (qv 0)) (qv 3) (λ_ _=>rfl)) ak) (ab (bq (w_fld gJ (fB a) (qv 0)) (qv 1) (λ_ _=>rfl)) (ab (EI b (bx 2 L (Or.inr Q4) L L) (qv 3) (λ_ _=>rfl) L) (ab (qv 5) ah)))))))))))
abbrev g7:Stmt:=inClass (top 21) 5
def jw:gV ["self", "numbers"] Qr (ag g7):=by constructor<;>first | rfl | decide +kernel
def dE{m:Me}(F:Kp K "table" "Nodes.table" g7 f e)(b:Meth K C "table" f)(B:LG mg)(i:Lm K mg C D)(h:∀m,MpAt P w K mg base 1 ((gX K C D).at m) 0 "numbers_by_node" Qr aI)(g:∀m,MpAt P w K mg base 1 ((gX K C D).at m) 0 "row_of" Qo bU) :
  MpAt P w K mg base 2 ((gX K C D).at m) 0 "table" Qr dD:=nU F b i.Kg (gf (by decide +kernel) (by decide +kernel)) jw L L (λ_ _ _ _ _ _ j d=>by obtain⟨_,rfl⟩:=L2.pL d;rfl) λ_ _ _ _ _ _ a =>
  (af (gR (om (h _) a (by decide) (bx 0 L (Or.inr Q4) L L) L) jw.nd L (Or.inr L))
  (au (He 1 ["node", "self", "numbers"] L L (Or.inr Q4) L L (cw) (λ_ _ _ _ _=>(aF 0 (show List.Nodup (["node", "self", "numbers"]:List Str) from by decide +kernel) L Q4 (Or.inr L))) (λ_ _ _ _ _=>(CB (g _) a (by decide) (bx 1 L (Or.inr Q4) L L) (ab (qv 0) (ab (bx 2 L (Or.inr Q4) L L) ah)) L L L)) L L (by decide) (λ_=>rfl))))
abbrev fJ:Stmt:=inClass (top 23) 1
def l8:gV Qr Qr (ag fJ):=by constructor<;>first | rfl | decide +kernel
def cQ(F:Kp K "begin" "Machine.begin" fJ f e)(b:Meth K D "begin" f)(B:LG mg)(a:Lm K mg C D) :
  MtAt P w K mg base 1 (gX K C D) 1 "begin" Qr [] bD:=lN F b a.Ke (gf (by decide +kernel) (by decide +kernel)) l8 L L (λ_ _ _ _ _ _ g d=>by obtain⟨_,rfl⟩:=L2.pL d;rfl) λ_ _ _ _ _ _ _ h =>
  (af (cV (gH (Im.or yS) Jd zg (dS B.Ks (ab (w_fld gJ (d9 a) (qv 0)) ah)) (v8 B.MX L L) (jm _)) (au qM) bJ)
  (af (rL gJ (fH 4 (d9 a) (bI 0)) (ab (o5 (by decide +kernel) (by decide)) ah))
  (af (rL gJ (fH 5 (kK a) (bI 0)) (ab ak ah))
  (au (bH (kH Be Bv (dS B.Ks (ab (w_fld gJ (d9 a) (qv 0)) ah)) ak))))))
abbrev jY:Stmt:=top 8
def uy:gV ["thing"] ["thing"] (ag jY):=by constructor<;>first | rfl | decide +kernel
def c9{m:Me}(F:Kp K "is_whole" "is_whole" jY f d)(a:mg "is_whole" = Y (.ref f))(B:LG mg)(h:Lm K mg C D) :
  FnAt P w K mg base 1 "is_whole" ["thing"] ((gX K C D).at m) gg:=i3 F a uy L L (λ_ _ _ _ _ _ e b=>by obtain⟨_,rfl⟩:=L2.pL b;rfl) λ_ _ _ _ _ _ g =>
  (au (bH (Gg (w_is .int B.LK B.UB (qv 0)) (FS (Hb (w_is .bool B.LK B.Sb (qv 0)))))))
abbrev eQ:Stmt:=top 9
def lI:gV Qh Qh (ag eQ):=by constructor<;>first | rfl | decide +kernel
def cA{m:Me}(F:Kp K "refuse_no_text" "refuse_no_text" eQ f e)(b:mg "refuse_no_text" = Y (.ref f))(B:LG mg)(i:Lm K mg C D)(g:∀m,FnAt P w K mg base 1 "is_whole" ["thing"] ((gX K C D).at m) gg) :
  FnAt P w K mg base 2 "refuse_no_text" Qh ((gX K C D).at m) bu:=i3 F b lI L L (λ_ _ _ _ _ _ h d=>by obtain⟨_,_,rfl⟩:=L2.dW d;rfl) λ_ _ _ _ _ _ a =>
  (au (cV (Oi.Rr (oB (nM (v7 (c8 (g _) a (ab (qv 1) ah) (by decide) L L))) (qH (nM (jo ak (qv 1) (dS B.Ks (ab (qv 0) ah)) (by with_unfolding_all rfl)))))) (au qM) bJ))
abbrev ki:Stmt:=top 10
def u6:gV ["book"] ["book"] (ag ki):=by constructor<;>first | rfl | decide +kernel
def gn{m:Me}(F:Kp K "signs_in" "signs_in" ki f d)(a:mg "signs_in" = Y (.ref f))(B:LG mg)(h:Lm K mg C D) :
  FnAt P w K mg base 1 "signs_in" ["book"] ((gX K C D).at m) gy:=i3 F a u6 L L (λ_ _ _ _ _ _ e b=>by obtain⟨_,rfl⟩:=L2.pL b;rfl) λ_ _ _ _ _ _ g =>
  (au (bH (w_sum B.Us (ab (iz 1 ["text", "book"] L (cK (qv 0)) (cw) (λ_ _ _ _ _=>(aF 0 (show List.Nodup (["text", "book"]:List Str) from by decide +kernel) L Q4 (Or.inr L))) (λ_ _ _ _ _=>(dS B.Ks (ab (qv 0) ah))) L L (by decide)) ah))))
abbrev gv:Stmt:=inClass (top 23) 2
def mQ:gV Qq Qq (ag gv):=by constructor<;>first | rfl | decide +kernel
def dj(F:Kp K "grow" "Machine.grow" gv f h)(d:Meth K D "grow" f)(B:LG mg)(a:Lm K mg C D)(j:MtAt P w K mg base 4 (gX K C D) 0 "head_grown" Qm [false,false] aR)(i:∀m,FnAt P w K mg base 2 "refuse_no_text" Qh ((gX K C D).at m) bu)(g:∀m,FnAt P w K mg base 1 "signs_in" ["book"] ((gX K C D).at m) gy) :
  MtAt P w K mg base 5 (gX K C D) 1 "grow" Qq [false,false] bC:=lN F d a.Ke (gf (by decide +kernel) (by decide +kernel)) mQ L L (λ_ _ _ _ _ _ l e=>by obtain⟨_,_,_,rfl⟩:=L2.t5 e;rfl) λ_ _ _ _ _ _ _ b =>
  (af (vf (c8 (i _) b (ab (w_fld gJ (d9 a) (qv 0)) (ab (qv 1) ah)) (by decide) L L) L)
  (af (cV (zk (w_add (c8 (g _) b (ab (w_fld gJ (d9 a) (qv 0)) ah) (by decide) L L) (dS B.Ks (ab (qv 2) ah))) (v8 B.MY L L)) (au qM) bJ)
  (af (qY gJ b (fH 5 (kK a) (bI 0)) (qv 1) (iP gJ j.at b (by decide) (fH 6 (oo a) (bI 0)) (ab (bq (w_fld gJ (kK a) (qv 0)) (qv 1) (λ_ _=>rfl)) (ab (qv 2) ah))) (λ_=>rfl) L L L)
  (au (i9 gJ b (fH 4 (d9 a) (bI 0)) (qv 1) (w_add (bq (w_fld gJ (d9 a) (qv 0)) (qv 1) (λ_ _=>rfl)) (qv 2)))))))
abbrev bS:Stmt:=inClass (top 23) 0
def fO:gV ["self", "book", "text"] ["self", "book"] (ag bS):=by constructor<;>first | rfl | decide +kernel
def bQ(F:Ol K "__init__" "Machine.__init__" bS f i)(g:Mk K D f)(B:LG mg)(a:Lm K mg C D)(m:MtAt P w K mg base 1 (gX K C D) 1 "begin" Qr [] bD)(j:MtAt P w K mg base 5 (gX K C D) 1 "grow" Qq [false,false] bC)(l:InAt P w K mg base 2 (gX K C D) 0 0 "Nodes" Qr dk) :
  InAt P w K mg base 6 (gX K C D) 1 1 "Machine" ["self", "book"] aZ:=CM F g a.ND fO L L (λ_ _ _ _ _ _ _ _ _ _ n X e d h=>by obtain⟨_,_,rfl⟩:=L2.dW h;exact PySem.W.binds_K X L e d L L) λ_ _ _ _ _ _ _ b =>
  (af (lW 0 4 gJ (d9 a) (cB ah))
  (af (lW 0 5 gJ (kK a) (cB ah))
  (af (lW 0 6 gJ (oo a) (Cq l.at b (by decide) L L))
  (au (cV (kj (qv 1)) (au (dH Yg L (cK (qv 1)) (aF 2 fO.nd L Q4 Q4)
  (au (t4 (Hj j.at b (by decide) L Q4 L L (Bj gJ m.at b (by decide) (bI 0) L) (ab (qv 2) ah) L L L) L)))) bJ)))))
abbrev gC:Stmt:=inClass (top 23) 3
def mS:gV Qr Qr (ag gC):=by constructor<;>first | rfl | decide +kernel
def ju{m:Me}(F:Kp K "book" "Machine.book" gC f e)(b:Meth K D "book" f)(B:LG mg)(a:Lm K mg C D) :
  MpAt P w K mg base 1 ((gX K C D).at m) 1 "book" Qr pC:=nU F b a.Ke (gf (by decide +kernel) (by decide +kernel)) mS L L (λ_ _ _ _ _ _ g d=>by obtain⟨_,rfl⟩:=L2.pL d;rfl) λ_ _ _ _ _ _ h =>
  (au (bH (DV B.Sa (ab (w_fld gJ (d9 a) (qv 0)) ah))))
abbrev fL:Stmt:=inClass (top 23) 4
def lS:gV Qr Qr (ag fL):=by constructor<;>first | rfl | decide +kernel
def cT{m:Me}(F:Kp K "table" "Machine.table" fL f g)(d:Meth K D "table" f)(B:LG mg)(a:Lm K mg C D)(h:∀m,MpAt P w K mg base 2 ((gX K C D).at m) 0 "table" Qr dD) :
  MpAt P w K mg base 3 ((gX K C D).at m) 1 "table" Qr bZ:=nU F d a.Ke (gf (by decide +kernel) (by decide +kernel)) lS L L (λ_ _ _ _ _ _ i e=>by obtain⟨_,rfl⟩:=L2.pL e;rfl) λ_ _ _ _ _ _ b =>
  (au (bH (om (h _) b (by decide) (w_fld gJ (oo a) (qv 0)) L)))
abbrev vM:Stmt:=top 12
def mZ:gV ["table", "word", "stands", "sign", "ways"] ["table", "word"] (ag vM):=by constructor<;>first | rfl | decide +kernel
def pz{m:Me}(F:Kp K "walk" "walk" vM f e)(b:mg "walk" = Y (.ref f))(B:LG mg)(h:Lm K mg C D) :
  FnAt P w K mg base 1 "walk" ["table", "word"] ((gX K C D).at m) oW:=i3 F b mZ L L (λ_ _ _ _ _ _ g d=>by obtain⟨_,_,rfl⟩:=L2.dW d;rfl) λ_ _ _ _ _ _ a =>
  (af (gR (cB (ab ak ah)) mZ.nd L Q4)
  (af (dH Yg L (cK (qv 1)) (aF 3 mZ.nd L Q4 Q4)
  (af (aG (Ee B.O9 (ab (bq (bq (qv 0) (bq (qv 2) ES (λ_ _=>rfl)) (λ_ _=>rfl)) ak (λ_ _=>rfl)) ah)) mZ.nd L Q4)
  (af (cV (sA a (qv 3) (qv 4) (by with_unfolding_all rfl)) (au (c7 2 L (Or.inl L) L L)) bJ)
  (au (kZ 2 (ab (zb a (qv 4) (qv 3) (λ_ _=>rfl)) ah) L L Q4 L L)))))
  (au (c7 2 L (Or.inl L) L L))))
abbrev d5:Stmt:=top 13
def j7:gV Qt Qt (ag d5):=by constructor<;>first | rfl | decide +kernel
def bh{m:Me}(F:Kp K "refuse_no_stand" "refuse_no_stand" d5 f e)(b:mg "refuse_no_stand" = Y (.ref f))(B:LG mg)(i:Lm K mg C D)(g:∀m,FnAt P w K mg base 1 "is_whole" ["thing"] ((gX K C D).at m) gg) :
  FnAt P w K mg base 2 "refuse_no_stand" Qt ((gX K C D).at m) aW:=i3 F b j7 L L (λ_ _ _ _ _ _ h d=>by obtain⟨_,_,rfl⟩:=L2.dW d;rfl) λ_ _ _ _ _ _ a =>
  (au (cV (Oi.Rr (oB (nM (v7 (c8 (g _) a (ab (qv 1) ah) (by decide) L L))) (qH (nM (jo ak (qv 1) (dS B.Ks (ab (qv 0) ah)) (by with_unfolding_all rfl)))))) (au qM) bJ))
abbrev rg:Stmt:=top 15
def oq:gV ["table", "stand", "met"] Qt (ag rg):=by constructor<;>first | rfl | decide +kernel
def kM{m:Me}(F:Kp K "chain" "chain" rg f e)(b:mg "chain" = Y (.ref f))(B:LG mg)(i:Lm K mg C D)(g:∀m,FnAt P w K mg base 2 "refuse_no_stand" Qt ((gX K C D).at m) aW) :
  FnAt P w K mg base 3 "chain" Qt ((gX K C D).at m) nh:=i3 F b oq L L (λ_ _ _ _ _ _ h d=>by obtain⟨_,_,rfl⟩:=L2.dW d;rfl) λ_ _ _ _ _ _ a =>
  (af (vf (c8 (g _) a (ab (qv 0) (ab (qv 1) ah)) (by decide) L L) L)
  (af (gR (cB ah) oq.nd L Q4)
  (af (jC Yg (kj (qv 1))
  (af (kZ 2 (ab (qv 1) ah) L L Q4 L L)
  (au (aG (bq (bq (qv 0) (qv 1) (λ_ _=>rfl)) ak (λ_ _=>rfl)) oq.nd L Q4))))
  (au (c7 2 L (Or.inl L) L L)))))
abbrev iY:Stmt:=top 16
def cO:gV ["book", "table", "found", "number", "text", "end", "head", "stand"] Qj (ag iY):=by constructor<;>first | rfl | decide +kernel
def cG{m:Me}(F:Kp K "places_by" "places_by" iY f i)(e:mg "places_by" = Y (.ref f))(B:LG mg)(l:Lm K mg C D)(d:∀m,FnAt P w K mg base 3 "chain" Qt ((gX K C D).at m) nh)(b:∀m,FnAt P w K mg base 1 "walk" ["table", "word"] ((gX K C D).at m) oW) :
  FnAt P w K mg base 4 "places_by" Qj ((gX K C D).at m) df:=i3 F e cO L L (λ_ _ _ _ _ _ j g=>by obtain⟨_,_,rfl⟩:=L2.dW g;rfl) λ_ _ _ _ _ _ a =>
  (af (zK 1 Qk (λ_ _ _ h=>HF h) L (cK (qv 1)) (cw) (λ_ _ _ _ _=>(aF 0 (show List.Nodup Qk from by decide +kernel) L Q4 (Or.inr L))) (λ_ _ _ _ _=>(cB ah)) cO.nd L Q4 L L (by decide))
  (af (dH Yg L (ue (qv 0) L B.L4) (iL L (bK (aF 3 cO.nd L Q4 Q4) (bK (aF 4 cO.nd L Q4 Q4) gD)))
  (au (dH Yg L (ue (c8 (b _) a (ab (qv 1) (ab (qv 4) ah)) (by decide) L L) L B.L4) (iL L (bK (aF 5 cO.nd L Q4 Q4) (bK (aF 6 cO.nd L Q4 Q4) gD)))
  (au (dH Yg L (cK (c8 (d _) a (ab (qv 1) (ab (qv 6) ah)) (by decide) L L)) (aF 7 cO.nd L Q4 Q4)
  (au (G6 2 L (Or.inl L) L L (qv 7) (λ_ _=>rfl) (ab (jV (ab (qv 3) (ab (qv 5) ah))) ah) L L L L L L L)))))))
  (au (c7 2 L (Or.inl L) L L))))
abbrev nS:Stmt:=top 17
def yt:gV Qj Qj (ag nS):=by constructor<;>first | rfl | decide +kernel
def jy{m:Me}(F:Kp K "counts" "counts" nS f e)(b:mg "counts" = Y (.ref f))(B:LG mg)(i:Lm K mg C D)(g:∀m,FnAt P w K mg base 4 "places_by" Qj ((gX K C D).at m) df) :
  FnAt P w K mg base 5 "counts" Qj ((gX K C D).at m) kX:=i3 F b yt L L (λ_ _ _ _ _ _ h d=>by obtain⟨_,_,rfl⟩:=L2.dW d;rfl) λ_ _ _ _ _ _ a =>
  (au (bH (iz 1 ["places", "book", "table"] L (cK (c8 (g _) a (ab (qv 0) (ab (qv 1) ah)) (by decide) L L)) (cw) (λ_ _ _ _ _=>(aF 0 (show List.Nodup (["places", "book", "table"]:List Str) from by decide +kernel) L Q4 (Or.inr L))) (λ_ _ _ _ _=>(dS B.Ks (ab (qv 0) ah))) L L (by decide))))
abbrev sj:Stmt:=top 19
def By:gV Qi Qi (ag sj):=by constructor<;>first | rfl | decide +kernel
def fi{m:Me}(F:Kp K "rests" "rests" sj f e)(b:mg "rests" = Y (.ref f))(B:LG mg)(j:Lm K mg C D)(g:∀m,FnAt P w K mg base 4 "places_by" Qj ((gX K C D).at m) df)(h:∀m,FnAt P w K mg base 2 "refuse_no_stand" Qt ((gX K C D).at m) aW) :
  FnAt P w K mg base 5 "rests" Qi ((gX K C D).at m) gO:=i3 F b By L L (λ_ _ _ _ _ _ i d=>by obtain⟨_,_,_,rfl⟩:=L2.t5 d;rfl) λ_ _ _ _ _ _ a =>
  (af (vf (c8 (h _) a (ab (qv 1) (ab (qv 2) ah)) (by decide) L L) L)
  (au (bH (kI B.K9 (ab (iz 2 Qu L (cK (bq (c8 (g _) a (ab (bx 0 L (Or.inr Q4) L L) (ab (qv 1) ah)) (by decide) L L) (qv 2) (λ_ _=>rfl))) (km (cw) (cw)) (λ_ _ _ _ _=>(iL L (bK (aF 0 (show List.Nodup Qu from by decide +kernel) L Q4 (Or.inr L)) (bK (aF 1 (show List.Nodup Qu from by decide +kernel) L Q4 (Or.inr L)) gD)))) (λ_ _ _ _ _=>(jV (ab (qv 0) (ab (kG (bq (bx 2 L (Or.inr Q4) L L) (qv 0) (λ_ _=>rfl)) (lh (qv 1)) lC) ah)))) L L (by decide)) ah)))))
abbrev iN:Stmt:=top 25
def bG:gV ["_law_script", "_law_k", "_law_cell", "_law_left", "_law_number", "_law_turn", "_law_more"] Qa (ag iN):=by constructor<;>first | rfl | decide +kernel
def dr{m:Me}(F:Kp K "_law_spring" "_law_spring" iN f e)(b:mg "_law_spring" = Y (.ref f))(B:LG mg)(h:Lm K mg C D) :
  FnAt P w K mg base 1 "_law_spring" Qa ((gX K C D).at m) ed:=i3 F b bG L L (λ_ _ _ _ _ _ g d=>by obtain⟨_,_,rfl⟩:=L2.dW d;rfl) λ_ _ _ _ _ _ a =>
  (af (aG (w_add (w_mul (qv 1) ak) ak) bG.nd L Q4)
  (af (cV (zk (dS B.Ks (ab (qv 0) ah)) ak) (au (aG (w_add (bq (qv 0) (w_mod (qv 1) (dS B.Ks (ab (qv 0) ah))) (λ_ _=>rfl)) (w_mul (kH ny nr (qv 1) (dS B.Ks (ab (qv 0) ah))) ak)) bG.nd L Q4)) bJ)
  (af (cV (u9 a (w_mod (qv 2) ak) ak) (au (bH (cB (ab (kH ny nr (qv 2) ak) ah)))) bJ)
  (af (aG (w_mod (w_add (kH ny nr (qv 2) ak) (w_mul ak (qv 1))) ak) bG.nd L Q4)
  (af (aG ak bG.nd L Q4)
  (af (dH Yg L (eK ak L B.Lg) (aF 5 bG.nd L Q4 Q4)
  (af (aG (w_mod (w_add (w_add (w_mul (qv 3) ak) (w_mul ak (qv 5))) ak) ak) bG.nd L Q4)
  (af (aG (w_mod (w_mul (qv 3) (qv 3)) ak) bG.nd L Q4)
  (au (aG (w_add (w_mul (qv 4) ak) (w_mod (w_mul (qv 6) (w_add (w_mod (qv 6) ak) ak)) ak)) bG.nd L Q4)))))
  (au (bH (cB (ab (qv 4) ah))))))))))
abbrev jU:Stmt:=top 26
def mE:gV ["_law_spring_here", "_law_most", "_law_digit"] Qc (ag jU):=by constructor<;>first | rfl | decide +kernel
def aH{m:Me}(F:Kp K "_law_next" "_law_next" jU f e)(b:mg "_law_next" = Y (.ref f))(B:LG mg)(h:Lm K mg C D) :
  IoAt P w K mg base 1 "_law_next" Qc ((gX K C D).at m) [false] aC:=su F b mE L L (λ_ _ _ _ _ _ g d=>by obtain⟨_,_,rfl⟩:=L2.dW d;rfl) λ_ _ _ _ _ _ _ a =>
  (af (aG (w_mod (bq (Jl (qv 0)) ak (λ_ _=>rfl)) (qv 1)) mE.nd L Q4)
  (af (i9 gJ a (Jx (bI 0)) ak (kH ny nr (bq (Jl (qv 0)) ak (λ_ _=>rfl)) (qv 1)))
  (au (c7 2 L (Or.inl L) L L))))
abbrev kh:Stmt:=top 27
def uF:gV Qd Qd (ag kh):=by constructor<;>first | rfl | decide +kernel
def eZ{m:Me}(F:Kp K "_law_text" "_law_text" kh f g)(d:mg "_law_text" = Y (.ref f))(B:LG mg)(i:Lm K mg C D)(b:∀m,IoAt P w K mg base 1 "_law_next" Qc ((gX K C D).at m) [false] aC) :
  IoAt P w K mg base 2 "_law_text" Qd ((gX K C D).at m) [false,false] eO:=su F d uF L L (λ_ _ _ _ _ _ h e=>by obtain⟨_,_,_,rfl⟩:=L2.t5 e;rfl) λ_ _ _ _ _ _ _ a =>
  (au (wa (C7 (o5 (by decide +kernel) (by decide)) (Cf Q8 L L B.Lg (cy (b _) a (dh 0 M L (Or.inr Q4) L L (cX (bp (w_add (qv 2) ak)) cj))) (λ_ _ _ _ _=>L2.wI (show List.Nodup Q8 from by decide +kernel) L Q4 (Or.inr L)) (λ_ _ _ _ _=>(Iw (bp (bx 2 L (Or.inr Q4) L L)) (cy (b _) a (dh 1 M L (Or.inr Q4) L L (cX (bp (dS B.Ks (ab (bx 2 L (Or.inr Q4) L L) ah))) cj))) (λ_ _=>rfl) L)) L L L L (by decide) (λ_=>rfl)) L L L L L L)))
abbrev jc:Stmt:=top 28
def dY:gV ["_law_spring_here", "_law_letters", "_law_few", "_law_start", "_law_step"] Qf (ag jc):=by constructor<;>first | rfl | decide +kernel
def fz{m:Me}(F:Kp K "_law_signs" "_law_signs" jc f g)(d:mg "_law_signs" = Y (.ref f))(B:LG mg)(i:Lm K mg C D)(b:∀m,IoAt P w K mg base 1 "_law_next" Qc ((gX K C D).at m) [false] aC) :
  IoAt P w K mg base 2 "_law_signs" Qf ((gX K C D).at m) [] gM:=su F d dY L L (λ_ _ _ _ _ _ h e=>by obtain⟨_,rfl⟩:=L2.pL e;rfl) λ_ _ _ _ _ _ _ a =>
  (af (aG (o5 (by decide +kernel) (by decide)) dY.nd L (Or.inr L))
  (af (fq (sr (cB (ab ak (ab ak (ab ak (ab ak (ab ak (ab ak (ab ak (ab ak ah))))))))) (cy (b _) a (dh 0 M L (Or.inl L) L L (cX (bp ak) cj)))) dY.nd L Q4)
  (af (fq (cy (b _) a (dh 0 M L (Or.inl L) L L (cX (bp ak) cj))) dY.nd L (Or.inr L))
  (af (fq (sr (cB (ab ak (ab ak (ab ak (ab ak ah))))) (cy (b _) a (dh 0 M L (Or.inl L) L L (cX (bp ak) cj)))) dY.nd L (Or.inr L))
  (au (bH (Cs (o5 (by decide +kernel) (by decide)) (ab (iz 1 Q7 L (eK (qv 2) L B.Lg) (cw) (λ_ _ _ _ _=>(aF 0 (show List.Nodup Q7 from by decide +kernel) L Q4 (Or.inr L))) (λ_ _ _ _ _=>(bq (bx 2 L (Or.inr Q4) L L) (w_mod (w_add (bx 4 L (Or.inr Q4) L L) (w_mul (bx 5 L (Or.inr Q4) L L) (qv 0))) ak) (λ_ _=>rfl))) L L (by decide)) ah))))))))
abbrev jX:Stmt:=top 29
def da:gV ["_law_spring_here", "_law_signs_here", "_law_many", "_law_book_here", "_law_k", "_law_text_here", "_law_old"] Qe (ag jX):=by constructor<;>first | rfl | decide +kernel
def gh{m:Me}(F:Kp K "_law_book" "_law_book" jX f h)(e:mg "_law_book" = Y (.ref f))(B:LG mg)(j:Lm K mg C D)(b:∀m,IoAt P w K mg base 1 "_law_next" Qc ((gX K C D).at m) [false] aC)(d:∀m,IoAt P w K mg base 2 "_law_text" Qd ((gX K C D).at m) [false,false] eO) :
  IoAt P w K mg base 3 "_law_book" Qe ((gX K C D).at m) [false] iJ:=su F e da L L (λ_ _ _ _ _ _ i g=>by obtain⟨_,_,rfl⟩:=L2.dW g;rfl) λ_ _ _ _ _ _ _ a =>
  (af (fq (sr (cB (ab ak (ab ak (ab ak (ab ak (ab ak (ab ak (ab ak (ab ak ah))))))))) (cy (b _) a (dh 0 M L (Or.inl L) L L (cX (bp ak) cj)))) da.nd L Q4)
  (af (gR (cB ah) da.nd L Q4)
  (af (dH Yg L (eK (qv 2) L B.Lg) (aF 4 da.nd L Q4 Q4)
  (af (fq (cy (d _) a (dh 0 M L (Or.inl L) L L (cX (bp (qv 1)) (cX (sr (cB (ab ak (ab ak (ab ak (ab ak ah))))) (cy (b _) a (dh 0 M L (Or.inl L) L L (cX (bp ak) cj)))) cj)))) da.nd L Q4)
  (af (vY (wm (zk (qv 4) ak) (wG (rY a.units) xi (cy (b _) a (dh 0 M L (Or.inl L) L L (cX (bp ak) cj))) (bp ak) (jm _))) (af (fq (Gm 3 L (Or.inl L) L L (cy (b _) a (dh 0 M L (Or.inl L) L L (cX (bp (qv 4)) cj))) (λ_ _=>rfl) L) da.nd L Q4)
  (au (fq (E9 (sS kN oa (E9 (bp (qv 6)) (ui (cy (b _) a (dh 0 M L (Or.inl L) L L (cX (bp (w_add (dS B.Ks (ab (qv 6) ah)) ak)) cj)))) sP) (bp (qv 5))) sP (ui (bp ak))) da.nd L Q4))) bJ)
  (au (kZ 3 (ab (qv 5) ah) L L Q4 L L)))))
  (af (vY (wm (oR ak (qv 2) ak (by with_unfolding_all rfl)) (wG (rY a.units) xi (cy (b _) a (dh 0 M L (Or.inl L) L L (cX (bp ak) cj))) (bp ak) (jm _))) (au (qY gJ a (bI 3) ak (sS Dm C5 (sS kN oa (sS kN oa (bp (bq (qv 3) ak (λ_ _=>rfl))) (cy (d _) a (dh 0 M L (Or.inl L) L L (cX (bp (qv 1)) (cX (bp ak) cj))))) (bp (bq (qv 3) ES (λ_ _=>rfl)))) (sS kN oa (bp ak) (cy (b _) a (dh 0 M L (Or.inl L) L L (cX (bp ak) cj))))) (λ_=>rfl) L L L)) bJ)
  (au (c7 3 L (Or.inl L) L L))))))
abbrev jd:Stmt:=top 30
def b9:gV ["_law_book_here", "_law_table", "_law_many", "_law_stand", "_law_some", "_law_sign", "_law_there", "_law_behind", "_law_signs_here", "_law_link"] Q5 (ag jd):=by constructor<;>first | rfl | decide +kernel
def fA{m:Me}(F:Kp K "_law_right" "_law_right" jd f g)(d:mg "_law_right" = Y (.ref f))(B:LG mg)(i:Lm K mg C D)(b:∀m,FnAt P w K mg base 5 "rests" Qi ((gX K C D).at m) gO) :
  FnAt P w K mg base 6 "_law_right" Q5 ((gX K C D).at m) gL:=i3 F d b9 L L (λ_ _ _ _ _ _ h e=>by obtain⟨_,_,_,_,rfl⟩:=L2.JC e;rfl) λ_ _ _ _ _ _ a =>
  (af (aG (c8 (b _) a (ab (qv 0) (ab (qv 1) (ab (qv 3) ah))) (by decide) L L) b9.nd L Q4)
  (af (cV (Oi.Rr (oB (o7 a (dS B.Ks (ab (qv 4) ah)) (bq (qv 2) (qv 3) (λ_ _=>rfl))) (oB (o7 a (AY a B.Ks B.UA (ab (qv 4) ah)) (dS B.Ks (ab (qv 4) ah))) (qH (o7 a (qv 4) (kI B.K9 (ab (qv 4) ah))))))) (au (bH oZ)) bJ)
  (af (dH Yg L (cK (bq (bq (qv 1) (qv 3) (λ_ _=>rfl)) ak (λ_ _=>rfl))) (iL L (bK (aF 5 b9.nd L (Or.inr L) Q4) (bK (aF 6 b9.nd L Q4 Q4) gD)))
  (af (aG (kI B.K9 (ab (mq 2 Qg L (cK (qv 4)) (km (cw) (cw)) (λ_ _ _ _ _=>(iL L (bK (aF 0 (show List.Nodup Qg from by decide +kernel) L Q4 (Or.inr L)) (bK (aF 1 (show List.Nodup Qg from by decide +kernel) L Q4 (Or.inr L)) gD)))) (λ_ _ _ _ _=>(u9 a (kG (qv 1) lC (lh ak)) (bx 7 L (Or.inr Q4) L L))) (λ_ _ _ _ _=>(jV (ab (qv 0) (ab (kG (qv 1) (lh ak) lC) ah)))) L L (by decide)) ah)) b9.nd L (Or.inr L))
  (au (cV (Oi.Rr (oB (u9 a (bx 7 L (Or.inr Q4) L L) (cB ah)) (qH (o7 a (bx 7 L (Or.inr Q4) L L) (c8 (b _) a (ab (qv 0) (ab (qv 1) (ab (qv 6) ah))) (by decide) L L))))) (au (bH oZ)) bJ))))
  (af (aG (iz 2 Qb L (cK (bq (bq (qv 1) (qv 3) (λ_ _=>rfl)) ak (λ_ _=>rfl))) (km (cw) (cw)) (λ_ _ _ _ _=>(iL L (bK (aF 0 (show List.Nodup Qb from by decide +kernel) L Q4 (Or.inr L)) (bK (aF 1 (show List.Nodup Qb from by decide +kernel) L Q4 (Or.inr L)) gD)))) (λ_ _ _ _ _=>(qv 0)) L L (by decide)) b9.nd L (Or.inr L))
  (af (cV (o7 a (mq 2 Qg L (cK (qv 4)) (km (cw) (cw)) (λ_ _ _ _ _=>(iL L (bK (aF 0 (show List.Nodup Qg from by decide +kernel) L Q4 (Or.inr L)) (bK (aF 1 (show List.Nodup Qg from by decide +kernel) L Q4 (Or.inr L)) gD)))) (λ_ _ _ _ _=>(Oi.Rr (rN (o7 a (qv 1) (o5 (by decide +kernel) (by decide))) (nI (sA a (bq (qv 1) ak (λ_ _=>rfl)) (bx 10 L (Or.inr Q4) L L) (by with_unfolding_all rfl)))))) (λ_ _ _ _ _=>(qv 1)) L L (by decide)) (cB ah)) (au (bH oZ)) bJ)
  (af (aG (bq (bq (qv 1) (qv 3) (λ_ _=>rfl)) ak (λ_ _=>rfl)) b9.nd L Q4)
  (af (cV (Ac (qv 9)) (au (bH oZ)) bJ)
  (af (aG (c8 (b _) a (ab (qv 0) (ab (qv 1) (ab (qv 9) ah))) (by decide) L L) b9.nd L (Or.inr L))
  (au (bH (Ha (rY a.units) xi (mq 1 Q9 L (cK (qv 4)) (cw) (λ_ _ _ _ _=>(aF 0 (show List.Nodup Q9 from by decide +kernel) L Q4 (Or.inr L))) (λ_ _ _ _ _=>(gH (Ew (jL a)) Eb vQ (qv 0) (bx 8 L (Or.inr Q4) L L) (by with_unfolding_all rfl))) (λ_ _ _ _ _=>(qv 0)) L L (by decide)) (cB ah) (jm _))))))))))))
abbrev kJ:Stmt:=top 31
def hV:gV ["_law_script", "_law_spring_here", "_law_book_here", "_law_table", "_law_many", "_law_tails", "_law_text_here", "_law_more", "_law_turn"] ["_law_script"] (ag kJ):=by constructor<;>first | rfl | decide +kernel
def HJ{m:Me}(F:Kp K "law" "law" kJ f b)(B:LG mg)(p:Lm K mg C D)(n:InAt P w K mg base 6 (gX K C D) 1 1 "Machine" ["self", "book"] aZ)(l:∀m,MpAt P w K mg base 3 ((gX K C D).at m) 1 "table" Qr bZ)(g:∀m,IoAt P w K mg base 3 "_law_book" Qe ((gX K C D).at m) [false] iJ)(o:∀m,IoAt P w K mg base 1 "_law_next" Qc ((gX K C D).at m) [false] aC)(j:∀m,FnAt P w K mg base 6 "_law_right" Q5 ((gX K C D).at m) gL)(h:∀m,IoAt P w K mg base 2 "_law_signs" Qf ((gX K C D).at m) [] gM)(d:∀m,FnAt P w K mg base 1 "_law_spring" Qa ((gX K C D).at m) ed)(e:∀m,FnAt P w K mg base 5 "counts" Qj ((gX K C D).at m) kX)(i:∀m,FnAt P w K mg base 5 "rests" Qi ((gX K C D).at m) gO) :
  FnOk P w K mg base La 8 f b ["_law_script"] (M3 ((gX K C D).at m) BF):=fnV F hV L L λ_ _ _ _ _ _ a =>
  (af (gR (c8 (d _) a (ab (qv 0) (ab ak ah)) (by decide) L L) hV.nd L Q4)
  (af (Ah (Es (g _) a (dh 1 false L (Or.inl L) L L (cX (cy (h _) a (dh 1 false L (Or.inl L) L L cj)) cj)) (by decide) L L L L) hV.nd L (Or.inr L) L Q4)
  (m7 2 (m7 1 (af (aG (om (l _) a (by decide) (Ga n.at a (by decide) (ab (bx 2 L (Or.inr Q4) L L) ah) Ib L L L L) L) hV.nd L Q4)
  (af (aG (c8 (e _) a (ab (bx 2 L (Or.inr Q4) L L) (ab (qv 3) ah)) (by decide) L L) hV.nd L Q4)
  (af (aG (cB ah) hV.nd L Q4)
  (af (dH Yg L (eK (dS B.Ks (ab (bx 2 L (Or.inr Q4) L L) ah)) L B.Lg) (aF 6 hV.nd L (Or.inr L) Q4)
  (au (aG (w_add (qv 5) (iz 1 Q6 L (eK (w_add (dS B.Ks (ab (bq (bx 2 L (Or.inr Q4) L L) (bx 6 L (Or.inr Q4) L L) (λ_ _=>rfl)) ah)) ak) L B.Lg) (cw) (λ_ _ _ _ _=>(aF 0 (show List.Nodup Q6 from by decide +kernel) L Q4 (Or.inr L))) (λ_ _ _ _ _=>(jV (ab (bx 7 L (Or.inr Q4) L L) (ab (kG (bq (bx 3 L (Or.inr Q4) L L) (bx 7 L (Or.inr Q4) L L) (λ_ _=>rfl)) (lh (qv 0)) lC) ah)))) L L (by decide))) hV.nd L Q4)))
  (af (cV (o7 a (c8 (i _) a (ab (bx 2 L (Or.inr Q4) L L) (ab (qv 3) (ab ak ah))) (by decide) L L) (kI B.K9 (ab (qv 5) ah))) (au (bH oZ)) bJ)
  (af (gR (c8 (d _) a (ab (qv 0) (ab ak ah)) (by decide) L L) hV.nd L Q4)
  (af (dH Yg L (eK ak L B.Lg) (aF 8 hV.nd L Q4 Q4)
  (au (vY (DD (Eu (AM (j _) a (o6 (bx 2 L (Or.inr Q4) L L) (o6 (qv 3) (o6 (qv 4) (Cd (cy (o _) a (dh 7 false L (Or.inl L) L L (cX (bp (dS B.Ks (ab (qv 3) ah))) cj))) L) L) L) L) (by decide) L L L L) (λ_=>rfl))) (au (bH oZ)) bJ)))
  (m7 7 (au (bH oZ))))))))))))))
end
abbrev gN(K:X2)(x:Str)(f:On):Prop:=PySem.W.nsIn K mainGlobals x=Y (Y (.ref f))
abbrev gZ(K:X2)(x:Str):Prop:=PySem.W.nsIn K mainGlobals x=Y J
def all_mk{l:PySem.W.OpenLaw}{K:X2}(X:K.In h)(G:h.Ns mainGlobals g)(hfa:g "law" = Y (.ref fa))(y:∀ns:Uy,ns.length<=63->BF [.scr ns]=Y (.fr,.bl M))(a0:Meth K C "new_node" f0)(F0:Kp K "new_node" "Nodes.new_node" fg f0 fd0)(a1:Mk K C f1)(F1:Kp K "__init__" "Nodes.__init__" eR f1 fd1)(a2:Meth K C "node_just_behind" f2)(F2:Kp K "node_just_behind" "Nodes.node_just_behind" cn f2 fd2)(a3:Meth K C "head_behind" f3)(F3:Kp K "head_behind" "Nodes.head_behind" dz f3 fd3)(a4:Meth K C "head_grown" f4)(F4:Kp K "head_grown" "Nodes.head_grown" dI f4 fd4)(a5:Meth K C "numbers_by_node" f5)(F5:Kp K "numbers_by_node" "Nodes.numbers_by_node" cE f5 fd5)(a6:Meth K C "row_of" f6)(F6:Kp K "row_of" "Nodes.row_of" gp f6 fd6)(a7:Meth K C "table" f7)(F7:Kp K "table" "Nodes.table" g7 f7 fd7)(a8:Meth K D "begin" f8)(F8:Kp K "begin" "Machine.begin" fJ f8 fd8)(a9:gN K "is_whole" f9)(F9:Kp K "is_whole" "is_whole" jY f9 fd9)(a10:gN K "refuse_no_text" f10)(F10:Kp K "refuse_no_text" "refuse_no_text" eQ f10 fd10)(a11:gN K "signs_in" f11)(F11:Kp K "signs_in" "signs_in" ki f11 fd11)(a12:Meth K D "grow" f12)(F12:Kp K "grow" "Machine.grow" gv f12 fd12)(a13:Mk K D f)(l13:K.lookup f=Y ⟨r,p,.func (PySem.W.fnOf "__init__" "Machine.__init__" (cM bS) (aX bS) (ag bS) (.ref T13) x dc13 n an13 Uo ct13),j⟩)(c13:PySem.W.codeIn K Uo "Machine.__init__" = M)(k13:PySem.W.keepIn K (.ref f)=M)(t13:K.lookup T13=Y Th)(u13:Th.data=.seq #[.none] u)(a14:Meth K D "book" f14)(F14:Kp K "book" "Machine.book" gC f14 fd14)(a15:Meth K D "table" f15)(F15:Kp K "table" "Machine.table" fL f15 fd15)(a16:gN K "walk" f16)(F16:Kp K "walk" "walk" vM f16 Z)(a17:gN K "refuse_no_stand" f17)(F17:Kp K "refuse_no_stand" "refuse_no_stand" d5 f17 U)(a18:gN K "chain" f18)(F18:Kp K "chain" "chain" rg f18 S)(a19:gN K "places_by" f19)(F19:Kp K "places_by" "places_by" iY f19 R)(a20:gN K "counts" f20)(F20:Kp K "counts" "counts" nS f20 Q)(a21:gN K "rests" f21)(F21:Kp K "rests" "rests" sj f21 P)(a22:gN K "_law_spring" f22)(F22:Kp K "_law_spring" "_law_spring" iN f22 O)(a23:gN K "_law_next" f23)(F23:Kp K "_law_next" "_law_next" jU f23 N)(a24:gN K "_law_text" f24)(F24:Kp K "_law_text" "_law_text" kh f24 H)(a25:gN K "_law_signs" f25)(F25:Kp K "_law_signs" "_law_signs" jc f25 E)(a26:gN K "_law_book" f26)(F26:Kp K "_law_book" "_law_book" jX f26 A)(a27:gN K "_law_right" f27)(F27:Kp K "_law_right" "_law_right" jd f27 z)(a28:gN K "law" b)(l28:K.lookup b=Y ⟨q,o,.func (PySem.W.fnOf "law" "law" (cM kJ) (aX kJ) (ag kJ) .none Tv Uk Te UD R9 Ul),i⟩)(c28:PySem.W.codeIn K R9 "law" = M)(k28:PySem.W.keepIn K (.ref b)=M)(Ri:gZ K "bool")(Rh:gZ K "dict")(M8:gZ K "enumerate")(SS:gZ K "int")(MK:gZ K "isinstance")(SQ:gZ K "len")(Rg:gZ K "list")(Py:gZ K "range")(SO:gZ K "set")(OA:gZ K "sorted")(SN:gZ K "sum")(Px:gZ K "tuple")(MM:PySem.W.nsIn K mainGlobals "MOST_SIGNS" = Y (Y (.int 120 MP)))(ML:PySem.W.nsIn K mainGlobals "MOST_TEXTS" = Y (Y (.int 8 MO)))(w_Nodes:gN K "Nodes" C)(Kg:LX K C)(KW:aY K C "longs")(KY:aY K C "links")(Ld:aY K C "ways")(KS:aY K C "texts")(KZ:aY K C "heads")(KU:aY K C "nodes")(w_Machine:gN K "Machine" D)(Ke:LX K D)(KC:aY K D "longs")(KD:aY K D "links")(KL:aY K D "ways")(Kz:aY K D "texts")(KG:aY K D "heads")(KA:aY K D "nodes")
  : ∃fd:Re,(∀(s:KB)(v:PP),BindsTo s fd ⟨[v],[]⟩ [("_law_script",v)])/\∀base:XAA,K.In base->base.Ns mainGlobals g->FnOk l.prog w K g base La 8 fa fd ["_law_script"] (M3 (gx0 K) Cw):=by
 have e:=hfa.symm.trans (Yp X G a28);cases e;have B:LG g:=⟨Yc X G Ri,Yc X G Rh,Yc X G M8,Yc X G SS,Yc X G MK,Yc X G SQ,Yc X G Rg,Yc X G Py,Yc X G SO,Yc X G OA,Yc X G SN,Yc X G Px,⟨_,Yp X G MM⟩,⟨_,Yp X G ML⟩⟩
 have a:Lm K g C D:=⟨Kg,Yp X G w_Nodes,KW,KY,Ld,KS,KZ,KU,Ke,Yp X G w_Machine,KC,KD,KL,Kz,KG,KA⟩
 refine⟨PySem.W.fnOf "law" "law" (cM kJ) (aX kJ) (ag kJ) .none Tv Uk Te UD R9 Ul,λs v=>.of_eq L,λbase _ _=>?_⟩;have aN:=aN l.prog w base F0 a0 B a;have cz:=cz l.prog w base F1 a1 B a aN;have aV:=aV l.prog w base F2 a2 B a aN;have bM:=bM l.prog w base F3 a3 B a aN aV;have bT:=bT l.prog w base F4 a4 B a bM;have bw:=λm=>bw (m:=m) l.prog w base F5 a5 B a;have dc:=λm=>dc (m:=m) l.prog w base F6 a6 B a;have dE:=λm=>dE (m:=m) l.prog w base F7 a7 B a bw dc;have cQ:=cQ l.prog w base F8 a8 B a;have c9:=λm=>c9 (m:=m) l.prog w base F9 (Yp X G a9) B a;have cA:=λm=>cA (m:=m) l.prog w base F10 (Yp X G a10) B a c9;have gn:=λm=>gn (m:=m) l.prog w base F11 (Yp X G a11) B a;have dj:=dj l.prog w base F12 a12 B a bT cA gn;have bQ:=bQ l.prog w base ⟨⟨_,_,_,_,_,_,_,_,_,_,_,_,rfl,l13,c13,t13,u13⟩,k13⟩ a13 B a cQ dj cz;have ju:=λm=>ju (m:=m) l.prog w base F14 a14 B a;have cT:=λm=>cT (m:=m) l.prog w base F15 a15 B a dE;have pz:=λm=>pz (m:=m) l.prog w base F16 (Yp X G a16) B a;have bh:=λm=>bh (m:=m) l.prog w base F17 (Yp X G a17) B a c9;have kM:=λm=>kM (m:=m) l.prog w base F18 (Yp X G a18) B a bh;have cG:=λm=>cG (m:=m) l.prog w base F19 (Yp X G a19) B a kM pz;have jy:=λm=>jy (m:=m) l.prog w base F20 (Yp X G a20) B a cG;have fi:=λm=>fi (m:=m) l.prog w base F21 (Yp X G a21) B a cG bh;have dr:=λm=>dr (m:=m) l.prog w base F22 (Yp X G a22) B a;have aH:=λm=>aH (m:=m) l.prog w base F23 (Yp X G a23) B a;have eZ:=λm=>eZ (m:=m) l.prog w base F24 (Yp X G a24) B a aH;have fz:=λm=>fz (m:=m) l.prog w base F25 (Yp X G a25) B a aH;have gh:=λm=>gh (m:=m) l.prog w base F26 (Yp X G a26) B a aH eZ;have fA:=λm=>fA (m:=m) l.prog w base F27 (Yp X G a27) B a fi;exact Ek L (HJ l.prog w base (m:=λ_=>J) (zB (st:=kJ) l28 c28 k28) B a bQ cT gh aH fA fz dr jy fi) y
end T48
open PySem PySem.W PyProof.Rows PySem.W.X PySem.W.ZRun
set_option maxRecDepth 100000 in
set_option maxHeartbeats 0 in
theorem PySem.Challenge.cw_allparts_k48_rests_and_ways_holds : PySem.Challenge.rw_allparts_k48_rests_and_ways.Holds := by
 w_on;o_law;z_head;(case hw=>w_witness2)
 k_fill
 intro w s₀ s₁ mg mb G y fa o pm cd doc dV kV ho hd hcd hD hmg hg args vals as L hpre hlay hrd hwl hlo
 z_open y L KX ZH ZN ZT
 clear ZH ZN ZT;refine VS.AV (l:=PySem.Challenge.rw_allparts_k48_rests_and_ways) (k:=8) (x := "_law_script") rfl rfl ⟨rfl,by decide,by decide⟩ ?F w s₀ s₁ mg mb G KX fa o pm cd doc dV kV ho hd hcd hD hmg hg args vals as hpre hlay hrd hwl hlo
 case F =>
  intro w mg fa h KX G hmg;apply T48.all_mk KX G hmg T48.Bw
  (case w_Nodes=>unfold T48.gN;k_is)
  (case w_Machine=>unfold T48.gN;k_is)
  all_goals first | (refine' L2.zB ?l ?c ?k;(case l=>k_is);(case c=>k_is);(case k=>k_is)) | (refine' ⟨?l,?c,?k⟩;(case l=>k_is);(case c=>k_is);(case k=>k_is)) | (refine' ⟨?l,?c,?k,?d⟩;(case l=>k_is);(case c=>k_is);(case k=>k_is);(case d=>k_is)) | (unfold T48.gN;k_is) | (unfold T48.gZ;k_is) | (unfold L2.aY;k_is) | k_is | exact rfl | kernel_rfl
end
