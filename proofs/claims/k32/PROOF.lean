import PyProof.Rows.All
import Wide.All
import OpenK.AllK
import Wide.FinOn
import Lean
import PyProof.EqAt
import PyProof.EqKinds
import PyProof.TupleCall
import PyProof.Rows.SortShellK
import PyProof.Rows.SortStr
import PyProof.Rows.SortWalk
import PyProof.StrBlockH
import PyProof.StrLawsIn
import PyProof.Rows.SetFrom
import PyProof.CollectWalk
import KE.KDictSum
import PyProof.ListStr
import PyProof.SeqI3
import PyProof.Rows.CallKwBuiltin
import PyProof.ListRange
import PyProof.AttrMissSeq
import PyProof.DictUpdate
import PyProof.DictList
import PyProof.ListNew
import PyProof.FactsAll.dict_1
import PyProof.SliceList
import PyProof.WalkInts
import PyProof.StationsW
import OpenK.KOwn
import KE.KTryMore
import PyProof.NsDelKeeps
import PyProof.ExcArgsOwn
import PyProof.ExcAttrAll.Exception
import OpenK.KDescr
import KE.KIsAll
import PyProof.ExcBaseAll.ValueError
import PyProof.StrBlock
import PyProof.StrCalls
import PyProof.StrLawsOccR
import KE.KDictOf
import PyProof.Rows.Range3
import PyProof.Rows.ZipForRows
import PyProof.Draws
import KE.KLam
import PySem.Challenge.RW_allparts_k32_the_longest_shared
set_option linter.all false
set_option bootstrap.genMatcherCode false
set_option genSizeOf false
noncomputable section
namespace PySem.W.Fast
def tw11946052192214049792:True:=⟨⟩
def tw2148520076763276660:True:=⟨⟩
def tw5878583939375459010:True:=⟨⟩
def tw4600494938817897605:True:=⟨⟩
def tw17214834208219811675:True:=⟨⟩
def tw8055644963024233775:True:=⟨⟩
def tw11599080033251671871:True:=⟨⟩
def tw951738053741086255:True:=⟨⟩
def tw8075750411283535259:True:=⟨⟩
def tw8371072099920883725:True:=⟨⟩
def tw12247520318575587838:True:=⟨⟩
def tw11848098126425064346:True:=⟨⟩
def tw13843798398040830843:True:=⟨⟩
def tw6891429058386343999:True:=⟨⟩
def tw17799734150498295342:True:=⟨⟩
def tw9064636649877275205:True:=⟨⟩
def tw12362752104110056015:True:=⟨⟩
def tw15985660793140547454:True:=⟨⟩
def tw10180956492234061973:True:=⟨⟩
def tw4435153286569741574:True:=⟨⟩
def tw2922023763033269368:True:=⟨⟩
def tw1061876938293675503:True:=⟨⟩
def tw5114555268742798150:True:=⟨⟩
def tw14066831430999616196:True:=⟨⟩
def tw8233285487841888864:True:=⟨⟩
def tw16652286132002559209:True:=⟨⟩
def tw2904130133005869941:True:=⟨⟩
def tw2874928022268626827:True:=⟨⟩
def tw7715168270778232571:True:=⟨⟩
def tw14931240225524317880:True:=⟨⟩
def tw8722527517559055901:True:=⟨⟩
def tw2507069885324540862:True:=⟨⟩
def tw17215857546831787689:True:=⟨⟩
def tw2344931854316601624:True:=⟨⟩
def tw6587665696905646101:True:=⟨⟩
def tw7659098837458908443:True:=⟨⟩
def tw10043462061808622570:True:=⟨⟩
def tw16602489408351079548:True:=⟨⟩
def tw4728769577085668213:True:=⟨⟩
def tw7359130723497537900:True:=⟨⟩
def tw7598199612935372905:True:=⟨⟩
def tw4624832493036826954:True:=⟨⟩
def tw11600652479629796670:True:=⟨⟩
def tw8932002570837700702:True:=⟨⟩
def tw11196061615117443802:True:=⟨⟩
def tw6959359553574332213:True:=⟨⟩
def tw11654758362706612639:True:=⟨⟩
def tw1547049054985803683:True:=⟨⟩
def tw17022197770708514076:True:=⟨⟩
def tw17924741708547781414:True:=⟨⟩
def tw9663349399261506101:True:=⟨⟩
def tw3813769531269949118:True:=⟨⟩
def tw8810353789446865988:True:=⟨⟩
def tw5222634575873833:True:=⟨⟩
def tw16216958084101830753:True:=⟨⟩
def tw6544179090318650818:True:=⟨⟩
def tw12425135758712624605:True:=⟨⟩
def tw13393748021831486075:True:=⟨⟩
def tw9933199425710805259:True:=⟨⟩
def tw5537352007275275282:True:=⟨⟩
def tw7649319002958038892:True:=⟨⟩
def tw12047106582611989744:True:=⟨⟩
def tw11718496837083380914:True:=⟨⟩
def tw5646175877434780254:True:=⟨⟩
def tw1205614405141839139:True:=⟨⟩
def tw12013238906658398359:True:=⟨⟩
def tw5424119808219875251:True:=⟨⟩
def tw9568179767029944924:True:=⟨⟩
def tw10954372662024609572:True:=⟨⟩
def tw12145424036321668579:True:=⟨⟩
def tw5116364629868101776:True:=⟨⟩
def tw11566596215922373996:True:=⟨⟩
def tw4672804796973877667:True:=⟨⟩
def tw11957901040088489865:True:=⟨⟩
def tw8038672637180021801:True:=⟨⟩
def tw12145876578316709800:True:=⟨⟩
def tw1682133615951573274:True:=⟨⟩
def tw9410342201160028020:True:=⟨⟩
def tw17895228958474182005:True:=⟨⟩
def tw15771247927613206196:True:=⟨⟩
def tw15089681957681941616:True:=⟨⟩
def tw10639840515472730474:True:=⟨⟩
def tw16919116465009701193:True:=⟨⟩
def tw17102692829126593934:True:=⟨⟩
def tw5155693950174748565:True:=⟨⟩
def tw7092927208362643583:True:=⟨⟩
def tw15987340206318942580:True:=⟨⟩
def tw12761572792184110388:True:=⟨⟩
def tw348715494918701251:True:=⟨⟩
def tw11424633092692180221:True:=⟨⟩
def tw7301441043626784724:True:=⟨⟩
def tw13132964985965695555:True:=⟨⟩
def tw9973734850942220726:True:=⟨⟩
def tw7786467842720693608:True:=⟨⟩
def tw4320672918438826677:True:=⟨⟩
def tw8838826560753383075:True:=⟨⟩
def tw14443908384011458428:True:=⟨⟩
def tw6635382379234442785:True:=⟨⟩
def tw4853468382508701884:True:=⟨⟩
def tw3747527051467462373:True:=⟨⟩
def tw13217987799113746489:True:=⟨⟩
def tw11202150448161462099:True:=⟨⟩
def tw17499277663813973901:True:=⟨⟩
def tw6422553234147649587:True:=⟨⟩
def tw9137857182283070270:True:=⟨⟩
def tw12665223927964476775:True:=⟨⟩
def tw2444019438796113963:True:=⟨⟩
def tw17422118403198309612:True:=⟨⟩
def tw4442875060545725843:True:=⟨⟩
def tw2784039041032527081:True:=⟨⟩
def tw8836024703382261329:True:=⟨⟩
def tw7796863371754492044:True:=⟨⟩
def tw8727980328626957606:True:=⟨⟩
def tw12483344035300772230:True:=⟨⟩
def tw15746762432124754018:True:=⟨⟩
def tw9314849175148808228:True:=⟨⟩
def tw13985032525031242104:True:=⟨⟩
def tw18089944595494287485:True:=⟨⟩
def tw6830392207448910032:True:=⟨⟩
def tw2983443304884097814:True:=⟨⟩
def tw17774402843358559349:True:=⟨⟩
def tw10117468864657533882:True:=⟨⟩
def tw4998553548936589872:True:=⟨⟩
def tw7555216314054452820:True:=⟨⟩
def tw3536549353517295904:True:=⟨⟩
def tw18321495854211937673:True:=⟨⟩
def tw12173465197893650506:True:=⟨⟩
def tw13665420848360444604:True:=⟨⟩
def tw17036106265239294928:True:=⟨⟩
def tw8384147053474462914:True:=⟨⟩
def tw17583764814780986620:True:=⟨⟩
def tw8477344998256489072:True:=⟨⟩
def tw16965273548118205326:True:=⟨⟩
def tw4572283695798336367:True:=⟨⟩
def tw12092557348531270618:True:=⟨⟩
def tw10210071879942122636:True:=⟨⟩
def tw15063332410118208076:True:=⟨⟩
def tw14383808611114116207:True:=⟨⟩
def tw12787586954026551380:True:=⟨⟩
def tw16437854258054989383:True:=⟨⟩
def tw16259579438661044675:True:=⟨⟩
def tw17951195303174290913:True:=⟨⟩
def tw940257122995673047:True:=⟨⟩
def tw5028274804229162234:True:=⟨⟩
def tw5620648374210787245:True:=⟨⟩
def tw16525950082005943255:True:=⟨⟩
def tw6135982361272513991:True:=⟨⟩
def tw16490282571778812821:True:=⟨⟩
def tw2041712871850765713:True:=⟨⟩
def tw4031623807976530695:True:=⟨⟩
def tw3346614281393091232:True:=⟨⟩
def tw5271727506614406813:True:=⟨⟩
def tw1777380151771184029:True:=⟨⟩
def tw6643273655373753656:True:=⟨⟩
def tw2176995644583471280:True:=⟨⟩
def tw7680985990000600307:True:=⟨⟩
def tw5439849283168073357:True:=⟨⟩
def tw16244339668019365643:True:=⟨⟩
def tw14258799606611329102:True:=⟨⟩
def tw9235025650332302157:True:=⟨⟩
def tw5515457711334318549:True:=⟨⟩
def tw18087005349165401618:True:=⟨⟩
def tw5515142303222351040:True:=⟨⟩
def tw13924818429460876962:True:=⟨⟩
def tw8559649991349476680:True:=⟨⟩
def tw13774063870979472088:True:=⟨⟩
def tw14754914139807646208:True:=⟨⟩
def tw18304358836570543498:True:=⟨⟩
def tw5919131529085665041:True:=⟨⟩
def tw1674597207699148732:True:=⟨⟩
def tw13296513424552623046:True:=⟨⟩
def tw9456665981642635430:True:=⟨⟩
def tw6365449692282947630:True:=⟨⟩
def tw3352243547556385125:True:=⟨⟩
def tw2873377683281136893:True:=⟨⟩
def tw4684262996706276404:True:=⟨⟩
def tw16092142195785414075:True:=⟨⟩
def tw13145005038558725690:True:=⟨⟩
def tw12817534863937669248:True:=⟨⟩
def tw9613684568544394568:True:=⟨⟩
def tw4663411923364442291:True:=⟨⟩
def tw2926036920189424052:True:=⟨⟩
def tw8297702270341340082:True:=⟨⟩
def tw4713044158124208942:True:=⟨⟩
def tw1997466232944451294:True:=⟨⟩
def tw10162676450651481322:True:=⟨⟩
def tw9282978067669068134:True:=⟨⟩
def tw824678710249815198:True:=⟨⟩
def tw8229951667272757091:True:=⟨⟩
def tw8183320424563971343:True:=⟨⟩
def tw8145615891689013515:True:=⟨⟩
def tw7669211060896990832:True:=⟨⟩
def tw7503823334643442920:True:=⟨⟩
def tw7219365609811224167:True:=⟨⟩
def tw6886997887472734384:True:=⟨⟩
def tw6377103546060419897:True:=⟨⟩
def tw621390897441017011:True:=⟨⟩
def tw6022350125227869923:True:=⟨⟩
def tw4990137705892642688:True:=⟨⟩
def tw4837541956147908460:True:=⟨⟩
def tw4439324702589308349:True:=⟨⟩
def tw3653749862863354951:True:=⟨⟩
def tw3581128822896553375:True:=⟨⟩
def tw3323544371089019511:True:=⟨⟩
def tw3310212430284510389:True:=⟨⟩
def tw2875123371504952550:True:=⟨⟩
def tw2685459546025735802:True:=⟨⟩
def tw2409426551786474297:True:=⟨⟩
def tw2330749783091705003:True:=⟨⟩
def tw2285290093626941014:True:=⟨⟩
def tw220799898724634349:True:=⟨⟩
def tw2079166392594838796:True:=⟨⟩
def tw2063151411846186807:True:=⟨⟩
def tw1898698584545360675:True:=⟨⟩
def tw18161258362171817033:True:=⟨⟩
def tw1808385255520359117:True:=⟨⟩
def tw18047483481937992728:True:=⟨⟩
def tw17456718940038411518:True:=⟨⟩
def tw17374821632764914935:True:=⟨⟩
def tw17161236673616739010:True:=⟨⟩
def tw16727157868677282696:True:=⟨⟩
def tw1637349346276658925:True:=⟨⟩
def tw16217436997593212088:True:=⟨⟩
def tw14500283615108573293:True:=⟨⟩
def tw14375200921637142853:True:=⟨⟩
def tw14363983096007596380:True:=⟨⟩
def tw14198099459165506101:True:=⟨⟩
def tw14110706988020145625:True:=⟨⟩
def tw13823847156207373414:True:=⟨⟩
def tw13670524432406765775:True:=⟨⟩
def tw1282578383876862338:True:=⟨⟩
def tw12800090307821010985:True:=⟨⟩
def tw12647245537349408959:True:=⟨⟩
def tw11955781367331124516:True:=⟨⟩
def tw11917275484330392992:True:=⟨⟩
def tw11692895822006843186:True:=⟨⟩
def tw11507050951939845506:True:=⟨⟩
def tw11425249820591968578:True:=⟨⟩
def tw11178737433803404912:True:=⟨⟩
def tw10625284654742158198:True:=⟨⟩
def tw10551775800592707532:True:=⟨⟩
def tw10551076829455341442:True:=⟨⟩
def tw10415000428971779822:True:=⟨⟩
def tw10019240090575399357:True:=⟨⟩
def tw10006543749464439161:True:=⟨⟩
end PySem.W.Fast
open Option renaming some->Z, none->L
open Bool renaming true->J, false->B
theorem q0(h:True:=by first | exact .inl Y | exact .inr Y | assumption):True:=h
theorem q1(h:True:=by decide):True:=h
theorem q2(h:True:=by rfl):True:=h
theorem q3(h:True:=by intro _;rfl):True:=h
theorem q4(h:True:=by with_unfolding_all rfl):True:=h
theorem q5(h:True:=by first | exact Or.inl Y | exact Or.inr (Or.inl Y) | exact Or.inr (Or.inr Y)):True:=h
theorem q6(h:True:=by first | exact Or.inl Y | exact Or.inr Y):True:=h
theorem q7(h:True:=by first | exact .inl Y | exact .inr Y):True:=h
theorem q8(h:True:=by exact rfl):True:=h
set_option hygiene false
local macro_rules|`({`q0,$x})=>`(autoParam $x q0._auto_1)|`({`q1,$x})=>`(autoParam $x q1._auto_1)|`({`q2,$x})=>`(autoParam $x q2._auto_1)|`({`q3,$x})=>`(autoParam $x q3._auto_1)|`({`q4,$x})=>`(autoParam $x q4._auto_1)|`({`q5,$x})=>`(autoParam $x q5._auto_1)|`({`q6,$x})=>`(autoParam $x q6._auto_1)|`({`q7,$x})=>`(autoParam $x q7._auto_1)|`({`q8,$x})=>`(autoParam $x q8._auto_1)
theorem Y.{u}{α:Sort u}{a:α}:a=a:=rfl
open PySem renaming Shared->KB, model->KF, sizeLine->KM, Addr->On, Value->PP, wpAny->Pi, starEach->P3, FuncData->Re, Program->SB, Around->SC, keywordEach->SL, compareOp->SZ, Heap->UF, World->UV, attributeBase->XAA, foldedSetIterable->XAB
open PyProof.Rows renaming Keyed->Pv
set_option linter.all false
set_option maxRecDepth 100000
set_option Elab.async false
set_option maxHeartbeats 4000000
abbrev Z0:=PySem.Value->PySem.Shared->Prop
abbrev Z2:=List (PySem.Addr×PySem.Obj)
abbrev Xy:=List (List PySem.Addr)
abbrev X3:=PySem.W.Frag
abbrev Wi:=PySem.Str->Option PySem.Value
abbrev Wc:=List PySem.Addr
abbrev Wa:=List PySem.Value
abbrev Vt:=Option PySem.Value
abbrev Vh:=List Nat
abbrev Vg:=List Int
abbrev Vf:=List (List (List Nat))
abbrev Zp:=@if_pos
abbrev Zn:=@if_neg
abbrev ZR:=@decide_eq_true
abbrev ZN:=@decide_eq_false
open Option renaming bind_eq_some_iff->Zz,map_eq_some_iff->Zw,bind_some->Zr,isSome_iff_exists->Yi,map_some->YE,getD_some->Xw,isSome_map->Xp
open List renaming mem_cons_of_mem->Zy,mem_cons_self->Zx,getElem?_eq_getElem->Zu,length_map->Zt,getD_eq_getElem?_getD->Zs,length_append->Zq,mem_cons->Zo,mem_singleton->Zj,length_cons->Zi,map_cons->Zg,getElem?_eq_some_iff->Ze,getElem?_map->Zd,nodup_cons->Zb,all_eq_true->Za,mem_append->ZW,mem_map->ZV,length_range->ZT,append_nil->ZS,zip_cons_cons->ZQ,mem_append_right->ZP,size_toArray->ZM,nodup_append->ZL,flatten_cons->ZK,append_assoc->ZI,length_singleton->ZG,getElem?_eq_none->ZF,map_map->ZD,getElem_mem->ZC,suffix_refl->Z4,mem_of_getElem?->Z5,find?_cons->Z6,map_append->Z8,length_zip->Yv,getElem?_append_left->Yu,nodup_nil->Yt,getElem?_set_ne->Yr,mem_filter->Yp,length_set->Yo,getElem?_zip_eq_some->Yn,length_drop->Ym,flatten_append->Yg,getElem?_append_right->Yf,mem_append_left->Ye,sublist_cons_self->Yd,mem_range->Yc,idxOf_lt_length_iff->Yb,getElem?_replicate->YY,isSuffixOf_iff_suffix->YV,lookup_cons->YT,getElem?_eq_none_iff->YS,map_congr_left->YR,length_replicate->YQ,suffix_nil->YL,nil_append->YK,any_cons->YH,getElem?_set_self->YG,foldl_cons->YD,drop_eq_getElem_cons->YC,length_filter_le->Y0,length_take->Y1,length_range'->Y2,length_eq_zero_iff->Y8,take_of_length_le->Y9,all_cons->Xz,pairwise_cons->Xv,sublist_append_right->Xr,mem_range'_1->Xo,all_map->Xn,getD_cons_succ->Xl,not_mem_nil->Xi,cons_append->Xh,any_eq_true->Xg,getElem_idxOf->Xd,drop_of_length_le->Xc,replicate_succ->XE,nil_suffix->XC,forIn_cons->XB,findIdx?_cons->X1,lt_irrefl->X9,filter_eq_nil_iff->Wz,ext_getElem?->Wy,drop_eq_nil_of_le->Wx,set_getElem_self->Ws,getElem?_toArray->Wr,cons_lt_cons_iff->Wq,zipIdx_cons->Wm,range'_succ->Wk,append_cons->Wj,zip_append->Wh,getElem?_range->Wf,perm_ext_iff_of_nodup->WY,mem_of_find?_eq_some->WW,pairwise_map->WV,flatMap_cons->WU,sum_cons->WT,take_prefix->WQ,map_fst_zip->WO,getElem?_cons_succ->WN,pairwise_lt_range->WJ,of_mem_zip->WE,cons_prefix_cons->WB,range_eq_range'->W0,not_lt->W3,getElem_of_mem->W7,filterMap_cons->W8,map_set->Vo,getElem?_set->Vn,mem_flatten->Vk,map_snd_zip->Vj,getElem_inj->Vi
open PySem renaming wpAny_bind->Zv,wpAny_pure->Zl,wpAny_holding->Yl,codeAny_builtin->Yj,plainId_quiet->YZ,wpAny_mono->YX,wpAny_truthy_bool->YJ,wpAny_tryCatch->YB,wpAny_newObj_type->YA,wpAny_call_entry->Xs,wpAny_updateSeq->Xm,wpAny_setState_of->Xk,wpAny_setField->XZ,sizeLine_eq->XX,wpAny_passesOwn->XT,wpAny_pyIter_list->XG,mem_of_lookup->XF,wpAny_seqItems->XD,codeAny_mono->XA,wpAny_Call_Name_kw->Wv,tupleKind_room_in1->Wu,wpAny_letGo->Wt,builtinLookup_eq_fast->Wg,wpAny_askSetting->We,wpAny_typeNameOfWhole_keyiter->Wb,wpAny_pyIter_slot->WH,fits_of_scanBound->WG,typeIs_str->W5,wpAny_execs_nil->W9,typeLookup_type->Vz,wpAny_of_eq->Vv,isSubtype_type->Vu
open PySem.Heap renaming get?_push_of_some->Zm,get?_push_size->Zc,lt_size->ZY,get?_update_other->Yz,get?_update_self->Ys,size_push->Ya,get?_update_ne->X5
open Nat renaming le_refl->Zk,ne_of_lt->Zf,lt_of_lt_of_le->ZU,le_of_not_lt->ZO,le_trans->ZJ,lt_succ_self->Z3,lt_succ_of_lt->Yq,zero_le->Yk,pos_of_ne_zero->YW,le_add_right->YU,lt_irrefl->YO,min_eq_left->YM,le_of_lt->Y5,le_succ->Y6,succ_le_succ->Xj,lt_of_succ_lt_succ->Xe,ne_of_gt->XO,min_self->XM,min_le_right->XJ,le_of_not_le->XI,le_of_eq->XH,add_sub_cancel->X0,lt_trans->X7,le_add_right_of_le->X8,min_eq_right->Wp,lt_of_le_of_lt->WZ,zero_add->WK,lt_or_eq_of_le->Vx,le_succ_of_le->Vr,le_of_lt_succ->Vq,add_comm->Vp
open Option.some renaming inj->Zh
open Bool renaming and_eq_true_iff->ZZ,false_ne_true->ZX,and_eq_true->Z1,eq_iff_iff->Xq,or_eq_true->WD,false_eq_true->Vw
open Array renaming getElem?_eq_getElem->ZH,length_toList->Z9,getElem?_toList->Yx,getElem?_eq_none->Xb,getElem?_eq_some_iff->XQ
open PySem.PassesOwn renaming never->ZE
open PySem.W renaming mg_of->ZA,mg_none_of->Yw,kia_one->YN,plainGet_of->W6
open PySem.Around renaming under_plainId->Z7
open Ne renaming symm->Yy
open PySem.F renaming plain_min_loop->Yh,type_list_append->Y3,slot_list_append->Y4,plainAttrs_list->Y7,slot_dict_keyiterator_next->XR,entry_min_loop->X2,plainAttrs_str->WM,slot_tuple_getattribute->WI,slot_dict_get->WC
open Int renaming toNat_natCast->YF,emod_lt_of_pos->Xu,emod_nonneg->XY,natCast_nonneg->WX
open List.Perm renaming refl->Xf
open PySem.Heap.SameBut renaming update->Xa
open PyProof.Rows renaming callWith_type1->XU
open Prod.mk renaming inj->X4
open PySem.Paired renaming length->X6
open List.Sublist renaming refl->Ww
open PySem.Walks renaming list->WR
open List.Pairwise renaming filter->W4,imp->Vm
open List.cons renaming inj->Vy
open Nat.succ renaming inj->Vs
open PyProof.Rows.F renaming plain_set_update_loop->Vl
section
namespace L2
def iq{G:Prop}(h:∀P:Prop,(G->P)->P):G:=h G id
end L2
namespace VS
noncomputable abbrev Tx:=Vh
inductive T where
 |non | bl (b:Bool) | int (i:Int) | str (s:Tx) | scr (ns:Vg)
 |tup (l:List T) | lst (l:List T) | dct (kd:Nat) (l:List (T×T)) | obj (c:Nat) (fs:List (Nat×T))
 deriving Inhabited
abbrev Vb:=List T
noncomputable def fq:Nat:=16777216
mutual
def J3:T->Bool
 |.lst _=>B
 |.dct _ _=>B
 |.obj _ _=>B
 |.tup l=>fZ l
 |_=>J
def fZ:Vb->Bool
 |[]=>J
 |t :: r=>J3 t&&fZ r
end
mutual
@[simp] def eqT:T->T->Bool
 |.non,.non=>J
 |.bl a,.bl b=>a==b
 |.bl a,.int i=>(if a then 1 else 0)==i
 |.int i,.bl a=>i==(if a then 1 else 0)
 |.int i,.int j=>i==j
 |.str s,.str t=>s==t
 |.tup a,.tup b=>yt a b
 |.lst a,.lst b=>yt a b
 |_,_=>B
def yt:Vb->Vb->Bool
 |[],[]=>J
 |a :: d,b :: bs=>eqT a b&&yt d bs
 |_,_=>B
end
noncomputable def KY:Nat->T->Bool
 |_,.non=>J
 |_,.bl _=>J
 |_,.int _=>J
 |_,.str _=>J
 |n+1,.tup l=>l.all (KY n)
 |n+1,.lst l=>l.all (KY n)
 |_,_=>B
inductive Md where | fr | pu | bo
 deriving DecidableEq,Inhabited
noncomputable def Md.join:Md->Md->Md
 |.bo,_=>.bo
 |_,.bo=>.bo
 |.pu,_=>.pu
 |_,.pu=>.pu
 |.fr,.fr=>.fr
inductive Cell where | pu (t:T) | ow (t:T)
 deriving Inhabited
abbrev Ve:=Option Cell
noncomputable abbrev Env:=List (Ve)
noncomputable abbrev Val:=Md×T
abbrev Vc:=Option Val
abbrev Vd:=List Val
abbrev Ex:=Env->Vc
abbrev Ko:=Env->Option (Vd)
@[simp] def up(m:Md)(t:T):Val:=(if J3 t then .fr else m,t)
noncomputable def oV:T->Bool
 |.lst _=>J
 |.dct _ _=>J
 |.obj _ _=>J
 |_=>B
@[simp] def cellOf:Val->Ve
 | (.fr,t)=>Z (if oV t then .ow t else .pu t)
 | (.pu,t)=>Z (.pu t)
 | (.bo,_)=>L
inductive Out where | nx (U:Env) | rt (v:Val) (U:Env) | bk (U:Env) | ct (U:Env)
abbrev Sx:=Env->Option Out
@[simp] noncomputable def eC(t:T)(_:Env):Vc:=Z (.fr,t)
abbrev Q3(i:Int):Ex:=eC (.int i)
@[simp] def aa(i:Nat)(U:Env):Vc:=match U[i]? with
 |some (some (.pu t))=>Z (up .pu t)
 |some (some (.ow t))=>Z (.bo,t)
 |_=>L
@[simp] noncomputable def e1(f:Val->Vc)(a:Ex)(U:Env):Vc:=(a U).bind f
@[simp] noncomputable def e2(f:Val->Val->Vc)(a b:Ex)(U:Env):Vc:=(a U).bind λx=>(b U).bind λy=>f x y
@[simp] noncomputable def aj(_:Env):Option (Vd):=Z []
@[simp] noncomputable def ab(a:Ex)(r:Ko)(U:Env):Option (Vd):=(a U).bind λx=>(r U).bind λb=>Z (x :: b)
@[simp] noncomputable def eN(f:Vd->Vc)(a:Ko)(U:Env):Vc:=(a U).bind f
@[simp] def cL:Vd->Md
 |[]=>.fr
 |v :: r=>v.1.join (cL r)
@[simp] noncomputable def trees(l:Vd):Vb:=l.map (·.2)
def ML(m:Md)(l:Vb):Vc:=if l.length<=fq then Z (if fZ l then .fr else m,.lst l) else L
@[simp] def fg(a:Ko)(U:Env):Vc:=(a U).bind λl=>ML (cL l) (trees l)
def qm(l:Vd):Vc:=if l.length<=fq then Z (up (cL l) (.tup (trees l))) else L
@[simp] def gk(a:Ko)(U:Env):Vc:=(a U).bind qm
def dput(l:List (T×T))(k v:T):List (T×T):=if l.any (λp=>eqT p.1 k) then l.map (λp=>if eqT p.1 k then (p.1,v) else p) else l++[(k,v)]
noncomputable def fm:T->Bool
 |.int _=>J
 |.str _=>J
 |_=>B
def keyOk:Nat->T->Bool
 |0,t=>fm t
 |1,.tup l=>l.all fm
 |_,_=>B
noncomputable def pairs:List (Ex×Ex)->Env->Option (List (Val×Val))
 |[],_=>Z []
 | (a,b) :: r,U=>(a U).bind λx=>(b U).bind λy=>(pairs r U).map ((x,y) :: ·)
def pZ(a:Nat)(b:List (Ex×Ex))(U:Env):Vc:=(pairs b U).bind λl=>if l.all (λp=>keyOk a p.1.2)/\l.length<=15 then
 Z (cL (l.map (·.2)),.dct a (l.foldl (λd p=>dput d p.1.2 p.2.2) [])) else L
noncomputable def Ow:T->Option Bool
 |.bl b=>Z b
 |.int i=>Z (i != 0)
 |.str s=>Z (!s.isEmpty)
 |.lst l=>Z (!l.isEmpty)
 |.tup l=>Z (!l.isEmpty)
 |.dct 0 l=>Z (!l.isEmpty)
 |.non=>Z B
 |_=>L
@[simp] noncomputable def kJ(a b:Ex)(U:Env):Vc:=(a U).bind λx=>match x.2 with
 |.bl true=>b U
 |.bl false=>Z (.fr,.bl B)
 |_=>L
@[simp] noncomputable def Oo(a b:Ex)(U:Env):Vc:=(a U).bind λx=>match x.2 with
 |.bl true=>Z (.fr,.bl J)
 |.bl false=>b U
 |_=>L
@[simp] noncomputable def nJ(a:Ex)(U:Env):Vc:=(a U).bind λx=>match x.2 with
 |.bl b=>Z (.fr,.bl (!b))
 |_=>L
noncomputable def RG:T->Bool
 |.non=>J
 |_=>B
@[simp] def Ik(a:Ex)(U:Env):Vc:=(a U).bind λx=>Z (.fr,.bl (RG x.2))
@[simp] def ie(a:Ex)(U:Env):Vc:=(a U).bind λx=>Z (.fr,.bl (!RG x.2))
@[simp] noncomputable def i9(f g:Val->Val->Vc)(a b c:Ex)(U:Env):Vc:=(a U).bind λx=>(b U).bind λy=>(f x y).bind λr=>match r.2 with
 |.bl true=>(c U).bind λz=>g y z
 |.bl false=>Z (.fr,.bl B)
 |_=>L
@[simp] noncomputable def int?:T->Option Int
 |.int i=>Z i
 |_=>L
def bA:Val->Val->Vc
 | (_,.int i),(_,.int j)=>Z (.fr,.int (i+j))
 | (_,.str s),(_,.str t)=>if s.length+t.length<=fq then Z (.fr,.str (s++t)) else L
 | (m,.lst s),(n,.lst t)=>ML (m.join n) (s++t)
 |_,_=>L
@[simp] noncomputable def A7:Val->Val->Vc
 | (_,.int i),(_,.int j)=>Z (.fr,.int (i-j))
 |_,_=>L
noncomputable def NR:Int:=4611686018427387904
noncomputable def T5:Int:=18446744073709551616
def iI:Val->Val->Vc
 | (_,.int i),(_,.int j)=>if (-T5<i/\i<T5)\/(-T5<j/\j<T5) then Z (.fr,.int (i*j)) else L
 |_,_=>L
def xX:Val->Val->Vc
 | (_,.str s),(_,.int j)=>if s.length*j.toNat<=fq/\-NR<=j/\j<NR then Z (.fr,.str (List.replicate j.toNat s).flatten) else L
 |_,_=>L
noncomputable def l5:Val->Val->Vc
 | (_,.int i),(_,.int j)=>if 0<j/\j<1073741824 then Z (.fr,.int (i/j)) else L
 |_,_=>L
noncomputable def oMod:Val->Val->Vc
 | (_,.int i),(_,.int j)=>if 0<j then Z (.fr,.int (i%j)) else L
 |_,_=>L
noncomputable def LX:Tx->Tx->Bool
 |[],[]=>B
 |[],_ :: _=>J
 |_ :: _,[]=>B
 |a :: d,b :: bs=>if a<b then J else if b<a then B else LX d bs
@[simp] def oLt:Val->Val->Vc
 | (_,.int i),(_,.int j)=>Z (.fr,.bl (decide (i<j)))
 | (_,.str s),(_,.str t)=>Z (.fr,.bl (LX s t))
 |_,_=>L
@[simp] def oLe:Val->Val->Vc
 | (_,.int i),(_,.int j)=>Z (.fr,.bl (decide (i<=j)))
 | (_,.str s),(_,.str t)=>Z (.fr,.bl (!LX t s))
 |_,_=>L
@[simp] def N2(a b:Val):Vc:=oLt b a
@[simp] def oEq(a b:Val):Vc:=if KY 60 a.2/\KY 60 b.2 then Z (.fr,.bl (eqT a.2 b.2)) else L
@[simp] def NF(a b:Val):Vc:=if KY 60 a.2/\KY 60 b.2 then Z (.fr,.bl (!eqT a.2 b.2)) else L
def dn(l:List (T×T))(k:T):Option T:=(l.find? λp=>eqT p.1 k).map (·.2)
noncomputable def KU(n:Nat)(i:Int):Option Nat:=if 0<=i then (if i<n then Z i.toNat else L) else (if 0<=i+n then Z (i+n).toNat else L)
@[simp] def sub(m:Md)(t:T):Val:=up m t
@[simp] def aC:Val->Val->Vc
 | (m,.lst l),(_,.int i)=>(KU l.length i).bind λk=>(l[k]?).map (sub m)
 | (m,.tup l),(_,.int i)=>(KU l.length i).bind λk=>(l[k]?).map (sub m)
 | (_,.scr l),(_,.int i)=>(KU l.length i).bind λk=>(l[k]?).map λn=>(.fr,.int n)
 | (_,.str l),(_,.int i)=>(KU l.length i).bind λk=>(l[k]?).map λn=>(.fr,.str [n])
 |_,_=>L
noncomputable def clip(n:Nat)(i:Int):Nat:=if i<0 then (i+n).toNat else min i.toNat n
def cut{α:Type}(l:List α)(a b:Option Int):List α :=
 let lo:=match a with | none=>0 | some i=>clip l.length i
 let hi:=match b with | none=>l.length | some i=>clip l.length i
 (l.drop lo).take (hi-lo)
@[simp] def oSl(v:Val)(a b:Option Int):Vc:=match v with
 | (_,.str s)=>Z (.fr,.str (cut s a b))
 | (m,.lst l)=>ML m (cut l a b)
 |_=>L
@[simp] def Bz(c:Option Ex)(U:Env):Option (Option Int):=match c with
 |none=>Z L
 |some e=>(e U).bind λy=>(int? y.2).map Z
@[simp] def eSl(a:Ex)(b d:Option Ex)(U:Env):Vc:=(a U).bind λx=>(Bz b U).bind λl=>(Bz d U).bind λh=>oSl x l h
noncomputable def Jp:T->Option Nat
 |.lst l=>Z l.length
 |.tup l=>Z l.length
 |.str l=>Z l.length
 |.scr l=>Z l.length
 |.dct 0 l=>Z l.length
 |_=>L
@[simp] def bO:Vd->Vc
 |[x]=>(Jp x.2).map λn=>(.fr,.int n)
 |_=>L
noncomputable def jh:Vb->Option (Vg)
 |[]=>Z []
 |.int i :: r=>(jh r).map (i :: ·)
 |_=>L
noncomputable def strs?:Vb->Option (List Tx)
 |[]=>Z []
 |.str i :: r=>(strs? r).map (i :: ·)
 |_=>L
noncomputable def mL:Vb->Option (List Bool)
 |[]=>Z []
 |.bl i :: r=>(mL r).map (i :: ·)
 |_=>L
def Cs:Vd->Vc
 |[(_,.lst l)]=>(mL l).bind λbs=>Z (.fr,.bl (bs.all id))
 |_=>L
@[simp] def ES:Vd->Vc
 |[(m,.lst l)]=>ML m l
 |[(m,.tup l)]=>ML m l
 |_=>L
def lZ:Vd->Vc
 |[(m,.lst l)]=>if l.length<=fq then Z (up m (.tup l)) else L
 |_=>L
def qx(x:Tx):List Tx->List Tx
 |[]=>[x]
 |y :: r=>if LX y x then y :: qx x r else x :: y :: r
def gb(l:List Tx):List Tx:=l.foldr qx []
noncomputable def m9(x:Int):Vg->Vg
 |[]=>[x]
 |y :: r=>if y<x then y :: m9 x r else x :: y :: r
def fG(l:Vg):Vg:=l.foldr m9 []
inductive Ty where | int | str | bool | list | tuple | dict
@[simp] noncomputable def ud:Ty->T->Bool
 |.int,.int _=>J
 |.int,.bl _=>J
 |.bool,.bl _=>J
 |.str,.str _=>J
 |.list,.lst _=>J
 |.tuple,.tup _=>J
 |.dict,.dct _ _=>J
 |_,_=>B
@[simp] noncomputable def xJ:T->Bool
 |.obj _ _=>B
 |.scr _=>B
 |.dct 0 _=>J
 |.dct 1 _=>J
 |.dct _ _=>B
 |_=>J
@[simp] def PU(t:Ty)(a:Ex)(U:Env):Vc:=(a U).bind λx=>if xJ x.2 then Z (.fr,.bl (ud t x.2)) else L
noncomputable def total:List Tx->Nat
 |[]=>0
 |x :: r=>x.length+total r
noncomputable def dR(a:Tx):List Tx->Tx
 |[]=>[]
 |[x]=>x
 |x :: r=>x++a++dR a r
def ly:Val->Vd->Vc
 | (_,.str sep),[(_,.lst l)]=>(strs? l).bind λa=>if total a+a.length*sep.length<=fq then Z (.fr,.str (dR sep a)) else L
 |_,_=>L
@[simp] noncomputable def eM(f:Val->Vd->Vc)(o:Ex)(b:Ko)(U:Env):Vc:=(o U).bind λx=>(b U).bind λa=>f x a
noncomputable abbrev Fn:=Vb->Vc
@[simp] def aW(g:Fn)(b:Ko)(U:Env):Vc:=(b U).bind λa=>(g (trees a)).bind λr=>match r with
 | (.fr,t)=>Z (.fr,t)
 | (_,t)=>Z ((Md.pu).join (cL a),t)
abbrev Ms:=Env->Option (Md×Vb)
noncomputable def Dw:Val->Option (Md×Vb)
 | (m,.lst l)=>Z (m,l)
 | (m,.tup l)=>Z (m,l)
 | (_,.str l)=>Z (.fr,l.map λc=>.str [c])
 |_=>L
@[simp] def cA(a:Ex)(U:Env):Option (Md×Vb):=(a U).bind Dw
noncomputable def rng(a:Int)(n:Nat):Vb:=(List.range n).map λ(k:Nat)=>T.int (a+k)
def cR(a:Ex)(U:Env):Option (Md×Vb):=(a U).bind λx=>(int? x.2).bind λj=>if -NR<=j/\j<NR then Z (.fr,rng 0 j.toNat) else L
def nX(a b:Ex)(U:Env):Option (Md×Vb):=(a U).bind λx=>(b U).bind λy=>(int? x.2).bind λi=>(int? y.2).bind λj =>
 if (-NR<=i/\i<NR)/\-NR<=j/\j<NR then Z (.fr,rng i (j-i).toNat) else L
noncomputable def fQ(k:Nat):Vb->Vb
 |[]=>[]
 |t :: r=>.tup [.int k,t] :: fQ (k+1) r
def IG:Val->Option (Md×Vb)
 | (m,.lst l)=>Z (m,fQ 0 l)
 |_=>L
@[simp] def oY(a:Ex)(U:Env):Option (Md×Vb):=(a U).bind IG
abbrev Tg:=T->Env->Option Env
@[simp] noncomputable def aG(i:Nat)(t:T)(U:Env):Option Env:=if i<U.length then Z (U.set i (Z (.pu t))) else L
noncomputable def Bo:List Tg->Vb->Env->Option Env
 |[],[],U=>Z U
 |g :: b,t :: a,U=>(g t U).bind λd=>Bo b a d
 |_,_,_=>L
@[simp] def iD(a:List Tg)(t:T)(U:Env):Option Env:=match t with
 |.tup l=>Bo a l U
 |_=>L
@[simp] def VF(m:Md)(l:Vb):Bool:=match m with
 |.bo=>fZ l
 |_=>J
def km(e:Tg)(a:Option Ex)(d:Ex)(U:Env):Vb->Option (Vd)
 |[]=>Z []
 |t :: r=>(e t U).bind λf=>(match a with | none=>some true | some c=>(c f).bind λx=>Ow x.2).bind λb =>
  if b then (d f).bind λv=>(km e a d U r).map (v :: ·) else km e a d U r
def bD(k:Nat)(tg:Tg)(it:Ms)(a:Option Ex)(elt:Ex)(U:Env):Vc:=(it U).bind λ(m,l)=>if VF m l then
 (km tg a elt (List.replicate k L++U) l).bind λb=>ML (cL b) (trees b) else L
@[simp] noncomputable def gf(U:Env):Option Out:=Z (.nx U)
@[simp] noncomputable def ak(a b:Sx)(U:Env):Option Out:=(a U).bind λo=>match o with
 |.nx d=>b d
 |o=>Z o
@[simp] def iw(i:Nat)(e:Ex)(U:Env):Option Out:=(e U).bind λv=>(cellOf v).bind λc=>if i<U.length then Z (.nx (U.set i (Z c))) else L
@[simp] noncomputable def aN(i:Nat)(e:Ex)(U:Env):Option Out:=(e U).bind λv=>match v.1 with
 |.bo=>L
 |_=>if i<U.length then Z (.nx (U.set i (Z (.pu v.2)))) else L
@[simp] noncomputable def fT(e:Ex)(U:Env):Option Out:=(e U).bind λv=>Z (.rt (match v.1 with | .bo=>.pu | m=>m,v.2) U)
@[simp] def eT(i:Nat)(U:Env):Option Out:=match U[i]? with
 |some (some (.ow t))=>Z (.rt (.fr,t) (U.set i L))
 |some (some (.pu t))=>Z (.rt (up .pu t) U)
 |_=>L
@[simp] def Lw(c:Ex)(a b:Sx)(U:Env):Option Out:=(c U).bind λx=>(Ow x.2).bind λt=>if t then a U else b U
noncomputable def forL(d:Tg)(a:Sx):Vb->Env->Option Out
 |[],U=>Z (.nx U)
 |t :: r,U=>(d t U).bind λe=>(a e).bind λo=>match o with
  |.nx b=>forL d a r b
  |.ct b=>forL d a r b
  |.bk b=>Z (.nx b)
  |.rt v b=>Z (.rt v b)
@[simp] noncomputable def okF:Md->Bool
 |.bo=>B
 |_=>J
@[simp] def fo(b:Tg)(d:Ms)(a:Sx)(U:Env):Option Out:=(d U).bind λ(m,l)=>if okF m then forL b a l U else L
def dN(c:Ex)(a:Sx):Nat->Env->Option Out
 |0,_=>L
 |n+1,U=>(c U).bind λx=>(Ow x.2).bind λt=>if t then (a U).bind λo=>match o with
  |.nx b=>dN c a n b
  |.ct b=>dN c a n b
  |.bk b=>Z (.nx b)
  |.rt v b=>Z (.rt v b)
  else Z (.nx U)
noncomputable def vw:Nat:=1000000
def kF(c:Ex)(a:Sx)(U:Env):Option Out:=dN c a vw U
@[simp] noncomputable def oW(i:Nat)(U:Env):Option Out:=match U[i]? with
 |some (some (.ow t))=>Z (.nx (U.set i (Z (.pu t))))
 |some (some (.pu _))=>Z (.nx U)
 |_=>L
inductive MI where | fld (k:Nat) | ix (e:Ex) | un
inductive Ky where | fld (k:Nat) | at (t:T) | un
def keys:List MI->Env->Option (List Ky)
 |[],_=>Z []
 |.fld k :: r,U=>(keys r U).map (.fld k :: ·)
 |.ix e :: r,U=>(e U).bind λx=>(keys r U).map (.at x.2 :: ·)
 |.un :: r,U=>(keys r U).map (.un :: ·)
noncomputable def JO(a:List (Nat×T))(k:Nat):Option T:=a.lookup k
noncomputable def Jy(a:List (Nat×T))(k:Nat)(v:T):List (Nat×T):=if a.any (λp=>p.1==k) then a.map (λp=>if p.1==k then (p.1,v) else p) else a++[(k,v)]
def DR{α:Type}(f:T->Option (T×α)):List Ky->T->Option (T×α)
 |[],t=>f t
 |.fld k :: r,.obj c fs=>(JO fs k).bind λx=>(DR f r x).map λ(y,a)=>(.obj c (Jy fs k y),a)
 |.at (.int i) :: r,.lst l=>(KU l.length i).bind λj=>(l[j]?).bind λx=>(DR f r x).map λ(y,a)=>(.lst (l.set j y),a)
 |.at k :: r,.dct d l=>(dn l k).bind λx=>(DR f r x).map λ(y,a)=>(.dct d (dput l k y),a)
 |_,_=>L
abbrev Xx:=Env->Option (Val×Env)
@[simp] noncomputable def xP(e:Ex)(U:Env):Option (Val×Env):=(e U).map λv=>(v,U)
@[simp] def pP(i:Nat)(a:List MI)(f:T->Vd->Option (T×Val))(e:Ko)(U:Env):Option (Val×Env):=match U[i]? with
 |some (some (.ow t))=>(keys a U).bind λks=>(e U).bind λb=>(DR (λx=>f x b) ks t).map λ(d,v)=>(v,U.set i (Z (.ow d)))
 |_=>L
@[simp] noncomputable def fit(v:Val):Option T:=match v.1 with
 |.fr=>Z v.2
 |_=>L
def aJ:T->Vd->Option (T×Val)
 |.lst l,[v]=>(fit v).bind λt=>if l.length<fq then Z (.lst (l++[t]),(.fr,.non)) else L
 |_,_=>L
@[simp] noncomputable def sX(x:Xx)(U:Env):Option Out:=(x U).map λr=>.nx r.2
@[simp] noncomputable def fn(d e:Nat)(a:Sx):Fn:=λb=>if b.length=d then
 (a (b.map (λt=>Z (.pu t))++List.replicate (e-d) L)).bind λo=>match o with
  |.rt v _=>Z v
  |.nx _=>Z (.fr,.non)
  |_=>L else L
def lW{s t:Tx}(h:s.length+t.length<=16777216):bA (m,.str s) (n,.str t)=Z (.fr,.str (s++t)):=Zp h
def lb{i j:Int}(h:-18446744073709551616<i/\i<18446744073709551616):iI (m,.int i) (n,.int j)=Z (.fr,.int (i*j)):=Zp (.inl h)
def lP{i j:Int}(h:0<j/\j<1073741824):l5 (m,.int i) (n,.int j)=Z (.fr,.int (i/j)):=Zp h
def gm{i j:Int}(h:0<j):oMod (m,.int i) (n,.int j)=Z (.fr,.int (i%j)):=Zp h
def dq{l:Vb}(h:l.length<16777216):aJ (.lst l) [(.fr,t)]=Z (.lst (l++[t]),(.fr,.non)):=by
 exact Zp h
def g8{m:Md}{j:Int}(e:a U=Z (m,.int j))(h:-4611686018427387904<=j/\j<4611686018427387904):cR a U=Z (.fr,rng 0 j.toNat):=by
 simp only[cR,e,Zr,int?];exact Zp h
def rO{l:Vb}(h:l.length<=16777216):ML m l=Z (if fZ l then .fr else m,.lst l):=Zp h
def cw{b:Tg}{r:Vb}{U1:Env}(f:b t U=Z U1)(e:a U1=Z (.nx d)):forL b a (t :: r) U=forL b a r d:=by
 simp[forL,f,e]
theorem strs_map{α:Type}(f:α->Tx):∀l:List α,strs? (l.map λx=>T.str (f x))=Z (l.map f)
 |[]=>rfl
 |a :: r=>congrArg (Option.map (f a :: ·)) (strs_map f r)
theorem ints_map{α:Type}(f:α->Int):∀l:List α,jh (l.map λx=>T.int (f x))=Z (l.map f)
 |[]=>rfl
 |a :: r=>congrArg (Option.map (f a :: ·)) (ints_map f r)
theorem qB{α:Type}(f:α->Bool):∀l:List α,mL (l.map λx=>T.bl (f x))=Z (l.map f)
 |[]=>rfl
 |a :: r=>by simp[mL,qB f r]
theorem oC:∀a:List Tx,dR [] a=a.flatten
 |[]=>rfl
 |[x]=>by simp[dR]
 |x :: y :: r=>by
  have:=oC (y :: r);simp[dR]at this ⊢;exact this
theorem oy:∀a:List Tx,total a=a.flatten.length
 |[]=>rfl
 |x :: r=>by simp[total,oy r]
def qD{m n:Md}(e:strs? l=Z a)(b:a.flatten.length<=16777216):ly (m,.str []) [(n,.lst l)]=Z (.fr,.str a.flatten):=by
 simp only[ly,Zr,e,oC];refine Zp ?_;rw[oy];show _<=16777216;simpa using b
def gh{α:Type}(l:List α):(l.map λx=>[x]).flatten=l:=by
 induction l with
 |nil=>rfl
 |cons a r b=>rw[Zg,ZK,b];rfl
def jS(n:Nat):rng 0 n=(List.range n).map λ(k:Nat)=>T.int (k:Int):=by
 unfold rng;simp
theorem gR{α:Type}(f:α->T)(h:∀x,J3 (f x)=J):∀l:List α,fZ (l.map f)=J
 |[]=>rfl
 |a :: r=>ZZ.mpr ⟨h a,gR f h r⟩
theorem qZ{α:Type}(g:α->T)(f:α->Val):∀l:List α,(∀a∈l,∃e,i (g a) U=Z e/\d e=Z (f a))->km i L d U (l.map g)=Z (l.map f)
 |[],_=>rfl
 |a :: r,h=>by
  obtain⟨e,m,j⟩:=h a Zx;simp[km,m,j,qZ g f r λb hb=>h b (Zy _ hb)]
theorem lF{α:Type}{c:Ex}(g:α->T)(p:α->Bool)(f:α->Val):∀l:List α,(∀a∈l,∃i x,j (g a) U=Z i/\c i=Z x/\Ow x.2=Z (p a)/\(p a=J->d i=Z (f a))) →
  km j (Z c) d U (l.map g)=Z ((l.filter p).map f)
 |[],_=>rfl
 |a :: r,h=>by
  obtain⟨i,x,q,o,n,s⟩:=h a Zx;have m:=lF (c:=c) g p f r λb hb=>h b (Zy _ hb);cases e:p a with
  |true=>simp[-Ow,km,q,o,n,e,s e,m]
  |false=>simp[-Ow,km,q,o,n,e,m]
theorem oz{α:Type}(f:α->T):∀l:List α,cL (l.map λa=>(Md.fr,f a))=.fr
 |[]=>rfl
 |a :: r=>congrArg (Md.join .fr) (oz f r)
def qS{α:Type}(f:α->Val)(l:List α):trees (l.map f)=l.map λa=>(f a).2:=by simp
def cF{α:Type}{k:Nat}{tg:Tg}{it:Ms}{elt:Ex}{U:Env}{m:Md}(g:α->T)(f:α->T)(l:List α)(i:it U=Z (m,l.map g))(e:VF m (l.map g)=J)(d:l.length<=16777216)(h:∀a∈l,∃b,tg (g a) (List.replicate k L++U)=Z b/\elt b=Z (.fr,f a)):bD k tg it L elt U=Z (.fr,.lst (l.map f)):=by
 simp only[bD,i,Zr];rw[Zp e,qZ g (λa=>(Md.fr,f a)) l h];simp only[Zr,oz,qS];rw[rO (by rw[Zt];exact d)];simp
def eX{α:Type}{k:Nat}{tg:Tg}{it:Ms}{c elt:Ex}{U:Env}{m:Md}(g:α->T)(p:α->Bool)(f:α->T)(l:List α)(i:it U=Z (m,l.map g))(e:VF m (l.map g)=J)(d:l.length<=16777216)(h:∀a∈l,∃b x,tg (g a) (List.replicate k L++U)=Z b/\c b=Z x/\Ow x.2=Z (p a)/\(p a=J->elt b=Z (.fr,f a))):bD k tg it (Z c) elt U=Z (.fr,.lst ((l.filter p).map f)):=by
 simp only[bD,i,Zr];rw[Zp e,lF g p (λa=>(Md.fr,f a)) l h];simp only[Zr,oz,qS];rw[rO (by rw[Zt];exact ZJ (Y0 _ _) d)];simp
def GA{α:Type}(f:α->T)(l:List α)(i:Int)(d:α)(g:0<=i)(e:i<l.length)(a:J3 (f (l.getD i.toNat d))=J):aC (m,.lst (l.map f)) (n,.int i)=Z (.fr,f (l.getD i.toNat d)):=by
 have b:i.toNat<l.length:=by lia
 simp only[Zs,Zu b,Xw]at a ⊢;simp[KU,g,e,b,a]
end VS
end
section
namespace L2
open PySem PySem.Spec PyProof.Rows
noncomputable abbrev Key:=Sum Int Str
def nG:Key->PP->Bool
 |.inl k,v=>Value.isInt k v
 |.inr x,v=>Value.isStrOf x v
noncomputable def Jl(w:UV):Key->Int
 |.inl k=>hashInt k
 |.inr x=>hashStr w x
theorem bK:∀{k:Key}{v:PP},nG k v=J->(∃i t,k=Sum.inl i/\v=Value.int i t)\/(∃x t,k=Sum.inr x/\v=Value.str x t)
 |.inl i,v,h=>by
  obtain⟨t,e⟩:=Value.isInt_shape (k:=i) (v:=v) h;exact .inl ⟨i,t,rfl,e⟩
 |.inr x,v,h=>by
  obtain⟨t,e⟩:=Value.isStrOf_shape (x:=x) (v:=v) h;exact .inr ⟨x,t,rfl,e⟩
def yC(i:Int)(t:Tok):nG (.inl i) (.int i t)=J:=by simp[nG,Value.isInt]
def yD(x:Str)(t:Tok):nG (.inr x) (.str x t)=J:=by simp[nG,Value.isStrOf]
def GZ(a b:Int):decide ((Sum.inl a:Key)=Sum.inl b)=(a==b):=by
 by_cases e:a=b
 ·subst e;simp
 ·rw[ZN (λq=>e (Sum.inl.inj q))];exact(beq_eq_false_iff_ne.mpr e).symm
def Hm(a b:Str):decide ((Sum.inr a:Key)=Sum.inr b)=decide (a=b):=by
 by_cases e:a=b
 ·subst e;simp
 ·rw[ZN (λq=>e (Sum.inr.inj q)),ZN e]
def FK(a:Int)(b:Str):decide ((Sum.inl a:Key)=Sum.inr b)=B:=ZN (λq=>nomatch q)
def Ht(a:Str)(b:Int):decide ((Sum.inr a:Key)=Sum.inl b)=B:=ZN (λq=>nomatch q)
def aU(d:SB)(w:UV):PySem.KeyKind d w Key where
 is:=nG
 hash:=Jl w
 inj:=λv a b l hb=>by
  rcases bK l with⟨i,t,rfl,rfl⟩ | ⟨x,t,rfl,rfl⟩
  ·rcases bK hb with⟨j,u,rfl,e⟩ | ⟨y,u,rfl,e⟩
   ·injection e with e1 _;rw[e1]
   ·exact nomatch e
  ·rcases bK hb with⟨j,u,rfl,e⟩ | ⟨y,u,rfl,e⟩
   ·exact nomatch e
   ·injection e with e1 _;rw[e1]
 byValue:=λk v h=>by
  rcases bK h with⟨i,t,rfl,rfl⟩ | ⟨x,t,rfl,rfl⟩<;>rfl
 pyHash:=λf h=>by
  rcases bK f with⟨i,t,rfl,rfl⟩ | ⟨x,t,rfl,rfl⟩
  ·exact wpAny_pyHash_int h
  ·exact wpAny_pyHash_str h
 eqBool:=λg f h=>by
  rcases bK g with⟨i,t,rfl,rfl⟩ | ⟨x,t,rfl,rfl⟩
  ·rcases bK f with⟨j,u,rfl,rfl⟩ | ⟨y,u,rfl,rfl⟩
   ·rw[GZ]at h;exact wpAny_eqBool_int h
   ·rw[FK]at h;exact SeqAt.EqAt.int_str i t y u _ _ _ _ h
  ·rcases bK f with⟨j,u,rfl,rfl⟩ | ⟨y,u,rfl,rfl⟩
   ·rw[Ht]at h;exact SeqAt.EqAt.str_int x t j u _ _ _ _ h
   ·rw[Hm]at h;exact wpAny_eqBool_str h
 «strs» := λk x t v h=>by
  rcases bK h with⟨i,u,rfl,e⟩ | ⟨y,u,rfl,e⟩
  ·exact nomatch e
  ·injection e with e1 _
   subst e1;cases v<;>rfl
def uH(a:SB)(w:UV)(i:Int)(t:Tok):(aU a w).is (.inl i) (.int i t)=J:=yC i t
def uF(a:SB)(w:UV)(x:Str)(t:Tok):(aU a w).is (.inr x) (.str x t)=J:=yD x t
inductive V where
 |non | bl (b:Bool) | int (i:Int) | str (x:Str) | byt (b:Array UInt8) | flt (b:UInt64) | ref (a:On) | ty (n:String)
 deriving DecidableEq
noncomputable def RelV:V->PP->Prop
 |.non,u=>u=Value.none
 |.bl b,u=>u=Value.bool b
 |.int i,u=>∃t,u=Value.int i t
 |.str x,u=>∃t,u=Value.str x t
 |.byt b,u=>∃t,u=Value.bytes b t
 |.flt b,u=>∃t,u=Value.float b t
 |.ref a,u=>u=Value.ref a
 |.ty n,u=>u=Value.type n
abbrev aQ:List V->Wa->Prop:=Paired RelV
theorem aQ.length{b:Wa}(r:aQ a b):a.length=b.length:=X6 r
theorem aQ.get:∀{a:List V}{b:Wa}{i:Nat}{x:V},aQ a b->a[i]?=Z x->∃u,b[i]?=Z u/\RelV x u
 |_,_,_,_,.nil,e=>by simp at e
 |_,_,0,_,.cons r _,e=>by simp at e;subst e;exact⟨_,rfl,r⟩
 |_,_,i+1,x,.cons _ t,e=>by
  obtain⟨u,f,d⟩:=aQ.get (i:=i) (x:=x) t (by simpa using e);exact⟨u,by simpa using f,d⟩
theorem aQ.set(r:RelV x u):∀{a:List V}{b:Wa}(i:Nat),aQ a b->aQ (a.set i x) (b.set i u)
 |_,_,_,.nil=>.nil
 |_,_,0,.cons _ t=>.cons r t
 |_,_,i+1,.cons q t=>.cons q (aQ.set r i t)
theorem aQ.append:∀{b a:List V}{e d:Wa},aQ b e->aQ a d->aQ (b++a) (e++d)
 |_,_,_,_,.nil,s=>s
 |_,_,_,_,.cons r t,s=>.cons r (aQ.append t s)
theorem aQ.take:∀{a:List V}{b:Wa}(n:Nat),aQ a b->aQ (a.take n) (b.take n)
 |_,_,0,_=>.nil
 |_,_,_+1,.nil=>.nil
 |_,_,n+1,.cons r t=>.cons r (aQ.take n t)
theorem aQ.drop:∀{a:List V}{b:Wa}(n:Nat),aQ a b->aQ (a.drop n) (b.drop n)
 |_,_,0,r=>r
 |_,_,_+1,.nil=>.nil
 |_,_,n+1,.cons _ t=>aQ.drop n t
def aQ.none_of:∀{a:List V}{b:Wa}{i:Nat},aQ a b->a[i]?=L->b[i]?=L:=λ{a b i} r e=>by
 have f:=r.length;have d:=YS.mp e;exact YS.mpr (by lia)
def jV:Option V->Vt->Prop
 |some v,some u=>RelV v u
 |none,none=>True
 |_,_=>False
def KV{κ:Type}:List (κ×V)->List (κ×PP)->Prop:=Paired λ(p:κ×V) (q:κ×PP)=>p.1=q.1/\RelV p.2 q.2
noncomputable def kV:Key->V
 |.inl i=>.int i
 |.inr x=>.str x
inductive HO where
 |lst (xs:List V)
 |tup (xs:List V)
 |dK (jj:List (Key×V)) | dT (jj:List (List Key×V))
 |set (S:Int->Bool) (n:Nat)
 |ins (C dx:On) (fs:List (Str×V))
 |own (x:On)
 |xd (fs:List (Str×V))
 |met (f x:On)
 |rng (lo hi:Int)
 |frz (o:Obj) (u:HO)
 |tbl (q:Str)
 |ext (φ:UV->UF->Prop)
noncomputable abbrev Hp:=On->Option HO
noncomputable def upd(H:Hp)(a:On)(o:HO):Hp:=λb=>if b=a then Z o else H b
def aq{H:Hp}:upd H a o a=Z o:=by unfold upd;rw[Zp Y]
def aw(h:b≠a):upd H a o b=H b:=by unfold upd;rw[Zn h]
def Dy:upd (upd H a o) a u=upd H a u:=by
 funext b;unfold upd;split<;>rfl
def Jk{H:Hp}{a b:On}{o u:HO}(h:H a=Z o)(f:H b=Z u)(d:o≠u):a≠b:=by
 intro e;subst e;rw[h]at f;exact d (Zh f)
def aY{H:Hp}{a b:On}{o:HO}(h:H a=Z o)(d:H b=L):a≠b:=by
 intro e;subst e;rw[h]at d;cases d
noncomputable def Pj(h:UF)(a:On):Prop:=∀o,h.get? a=Z o->o.dict=L
def Pj.new(h:UF)(a:Array PP):Pj (h.push { cls:=.type "tuple",data:=.seq a }) h.objs.size:=λo e=>by
 rw[Zc _ Y]at e;cases e;rfl
def Pj.of{h:UF}(e:h.get? a=Z o)(d:o.dict=L):Pj h a:=λf b=>by
 rw[e]at b;cases b;exact d
section
variable(P:SB)(w:UV)
def da(H:Hp)(h:UF)(a:On):HO->Prop
 |.lst b=>b.length<=KM/\∃(g:Wa)(n:Nat),aQ b g/\h.get? a=Z { cls:=.type "list",data:=.seq g.toArray n }
 |.tup b=>b.length<=KM/\∃g:Wa,aQ b g/\Pj h a/\IsTup h a g.toArray
 |.dK i=>i.length<=KM/\(a==sysModules)=B/\∃e,KV i e/\h.DictOf (aU P w) a e
 |.dT i=>i.length<=KM/\(a==sysModules)=B/\∃b:List (List Key×On×PP),
   Paired (λ(p:List Key×V) (q:List Key×On×PP)=>p.1=q.1/\H q.2.1=Z (.tup (p.1.map kV))/\RelV p.2 q.2.2) i b ∧
   ∃o r z,h.get? a=Z o/\o.ExactDict/\o.data=.dict r z/\r.toList=b.map (entryOfKey (tupleKind (aU P w)))/\(b.map (·.1)).Nodup
 |.set S n=>h.SetOf (intKind P w) a S n
 |.ins C j fs=>H j=Z (.own a)/\fs.length<=1000/\j≠a/\h.get? a=Z (PySem.W.instObj C j) ∧
   ∃d,h.Ns1 j d/\(∀f,jV (fs.lookup f) (d f))/\PySem.Within d (fs.map (·.1))
 |.own _=>∃o,h.get? a=Z o
 |.xd fs=>∃d,h.Ns1 a d/\∀f,jV (fs.lookup f) (d f)
 |.rng lo s=>∃t u v,h.get? a=Z { cls:=.type "range",data:=.fields #[.int lo t,.int s u,.int 1 v] }
 |.frz o u=>h.get? a=Z o/\da H h a u
 |.tbl q=>∃ps,h.get? a=Z { cls:=.none,data:=.fields ps }/\TriplesOk ps.toList/\∀pos v,codeAmong pos ps.toList=Z v->∃c o y e t,v=.ref c/\H c=Z (.frz o (.own y))/\o.data=.fields e/\e[1]?=Z (.str q t)
 |.met f x=>h.get? a=Z (PySem.W.methodObj (.ref f) (.ref x))
 |.ext φ=>φ w h/\(∃o,h.get? a=Z o)/\∀m l:UF,φ w m->(∀o,m.get? a=Z o->l.get? a=Z o)->φ w l
def Lj(H:Hp)(h:UF):Prop:=∀a o,H a=Z o->da P w H h a o
end
section
variable{H:Hp}
theorem da.lt(x:da P w H h a o):a<h.objs.size:=by
 cases o with
 |lst b=>obtain⟨_,_,_,_,e⟩:=x;exact ZY e
 |tup b=>obtain⟨_,_,_,_,p⟩:=x;exact p.lt
 |dK d=>obtain⟨_,_,_,_,o,_,_,e,_⟩:=x;exact ZY e
 |dT d=>obtain⟨_,_,_,_,o,_,_,e,_⟩:=x;exact ZY e
 |set S n=>obtain⟨o,_,_,_,e,_⟩:=x;exact ZY e
 |ins C j fs=>obtain⟨_,_,_,e,_⟩:=x;exact ZY e
 |own y=>obtain⟨_,e⟩:=x;exact ZY e
 |xd fs=>obtain⟨_,⟨_,_,_,e,_⟩,_⟩:=x;exact ZY e
 |rng lo i=>obtain⟨_,_,_,e⟩:=x;exact ZY e
 |frz g u=>obtain⟨e,_⟩:=x;exact ZY e
 |tbl q=>obtain⟨_,e,_⟩:=x;exact ZY e
 |met f y=>exact ZY (x)
 |ext φ=>obtain⟨_,⟨_,e⟩,_⟩:=x;exact ZY e
theorem Paired.OX{α β:Type}{F G:α->β->Prop}:∀{e:List α}{d:List β},Paired F e d->(∀a b,F a b->G a b)->Paired G e d
 |_,_,.nil,_=>.nil
 |_,_,.cons r t,f=>.cons (f _ _ r) (Paired.OX t f)
def da.Mh{h':UF}(x:da P w H h a o)(k:∀b u,(b=a\/H b=Z (.own a))->h.get? b=Z u->h'.get? b=Z u)(N:∀b,H b=Z (.own a)->H' b=Z (.own a))(M:∀b l,H b=Z (.tup l)->H' b=Z (.tup l))(O:∀b o y,H b=Z (.frz o (.own y))->H' b=Z (.frz o (.own y))):da P w H' h' a o:=by
 induction o with
 |lst l=>obtain⟨z,s,n,r,e⟩:=x;exact⟨z,s,n,r,k _ _ (.inl Y) e⟩
 |tup l=>obtain⟨z,s,r,nd,g,e,c⟩:=x;exact⟨z,s,r,Pj.of (k _ _ (.inl Y) e) (nd _ e),g,k _ _ (.inl Y) e,c⟩
 |dK F=>obtain⟨z,y,m,r,g,i,j,e,c⟩:=x;exact⟨z,y,m,r,g,i,j,k _ _ (.inl Y) e,c⟩
 |dT F =>
  obtain⟨z,y,l,r,g,i,j,e,c⟩:=x;exact⟨z,y,l,Paired.OX r λp q z=>⟨z.1,M _ _ z.2.1,z.2.2⟩,g,i,j,k _ _ (.inl Y) e,c⟩
 |set S n=>obtain⟨g,i,j,t,e,c⟩:=x;exact⟨g,i,j,t,k _ _ (.inl Y) e,c⟩
 |ins C R fs =>
  obtain⟨d,z,ne,e,D,⟨A,i,j,e2,c⟩,r⟩:=x;exact⟨N _ d,z,ne,k _ _ (.inl Y) e,D,⟨A,i,j,k _ _ (.inr d) e2,c⟩,r⟩
 |own y=>obtain⟨g,e⟩:=x;exact⟨g,k _ _ (.inl Y) e⟩
 |xd fs=>obtain⟨D,⟨A,i,j,e,c⟩,r⟩:=x;exact⟨D,⟨A,i,j,k _ _ (.inl Y) e,c⟩,r⟩
 |rng lo Q=>obtain⟨t,u,v,e⟩:=x;exact⟨t,u,v,k _ _ (.inl Y) e⟩
 |frz g u G=>obtain⟨e,q⟩:=x;exact⟨k _ _ (.inl Y) e,G q⟩
 |tbl q =>
  obtain⟨ps,e,e1,e2⟩:=x;refine⟨ps,k a _ (.inl Y) e,e1,λpos v r=>?_⟩;obtain⟨c,o,y,m,t,r1,r2,E⟩:=e2 pos v r;exact⟨c,o,y,m,t,r1,O _ _ _ r2,E⟩
 |met f y =>
  exact k a _ (.inl Y) x
 |ext φ=>obtain⟨p,⟨o,e⟩,st⟩:=x;exact⟨st _ _ p λo q=>k _ _ (.inl Y) q,⟨o,k _ _ (.inl Y) e⟩,st⟩
theorem Lj.lt(x:Lj P w H h)(e:H a=Z o):a<h.objs.size:=(x a o e).lt
def Lj.fresh(x:Lj P w H h)(e:h.objs.size<=a):H a=L:=by
 cases q:H a with
 |none=>rfl
 |some u=>exact absurd (ZU (x.lt q) e) (YO _)
def Lj.kept{h':UF}(x:Lj P w H h)(k:∀b u,h.get? b=Z u->h'.get? b=Z u):Lj P w H h':=λa o e =>
 (x a o e).Mh (λb u _ q=>k b u q) (λ_ q=>q) (λ_ _ q=>q) λ_ _ _ q=>q
def Lj.laid{h':UF}(x:Lj P w H h)(k:∀b u,h.get? b=Z u->h'.get? b=Z u)(g:h.objs.size<=a)(d:da P w (upd H a o) h' a o):Lj P w (upd H a o) h':=λb u e=>by
 have f:=x.fresh g;by_cases hb:b=a
 ·subst hb;rw[aq]at e;cases e;exact d
 ·rw[aw hb]at e;exact(x b u e).Mh (λc v _ q=>k c v q) (λc q=>by rw[aw (aY q f)];exact q) (λc i q=>by rw[aw (aY q f)];exact q) λc _ _ q=>by rw[aw (aY q f)];exact q
end
noncomputable def Rd(H:Hp)(a:On)(u:HO):Prop:=H a=Z u\/∃o,H a=Z (.frz o u)
def Rd.ok(r:Rd H a u)(x:Lj P w H h):da P w H h a u:=by
 rcases r with r | ⟨o,r⟩
 ·exact x a u r
 ·obtain⟨_,q⟩:=x a _ r;exact q
def J8:Option HO->Prop
 |some (.lst _)=>True
 |some (.dK _)=>True
 |some (.dT _)=>True
 |some (.set _ _)=>True
 |some (.ins _ _ _)=>True
 |some (.ext _)=>True
 |_=>False
section
variable{H:Hp}
def Lj.write{h':UF}(m:Lj P w H h)(a:J8 (H x))(he:e=x\/H e=Z (.own x))(k:∀b u,b≠e->h.get? b=Z u->h'.get? b=Z u)(o:∃u,h'.get? e=Z u)(g:da P w (upd H x o') h' x o'):Lj P w (upd H x o') h':=λb u q=>by
 have l:∀c y,H c=Z (.own y)->c≠x:=λc y r z=>by subst z;rw[r]at a;exact a
 by_cases hb:b=x
 ·subst hb;rw[aq]at q;cases q;exact g
 ·rw[aw hb]at q;by_cases f:b=e
  ·have j:H b=Z (.own x):=by
    rcases he with z | z
    ·exact absurd (f.trans z) hb
    ·rw[f];exact z
   rw[q]at j;cases j;obtain⟨v,n⟩:=o;exact⟨v,by rw[f];exact n⟩
  ·refine(m b u q).Mh (λc v d r=>k c v ?_ r) (λc r=>by rw[aw (l c b r)];exact r) (λc i r=>by rw[aw ((λc i r z=>by subst z;rw[r]at a;exact a) c i r)];exact r) λc _ _ r=>by rw[aw λz=>by subst z;rw[r]at a;exact a];exact r
   rcases d with rfl | d
   ·exact f
   ·rintro rfl;rcases he with z | z
    ·exact l c b d z
    ·rw[d]at z;cases z;exact hb Y
end
structure Un(fs ex:Wc)(H H':Hp)(h h':UF):Prop where
 keep:∀b o,h.get? b=some o->H b=none->b∉fs->b∉ex->h'.get? b=some o
 slot:∀b o,h.get? b=some o->H b=none->b∈fs->b∉ex->∃sl,h'.get? b=some { o with slots:=sl }
 free:∀b o,h.get? b=some o->H b=none->b∉ex->H' b=none
 there:∀b o,h.get? b=some o->b∉ex->∃o',h'.get? b=some o'
 Mf:∀b xs,H b=some (.tup xs)->H' b=some (.tup xs)
 LS:∀b o u,H b=some (.frz o u)->H' b=some (.frz o u)
 LK:∀b q,H b=some (.tbl q)->H' b=some (.tbl q)
section
variable{H:Hp}
def Un.any(u:Un fs ex H H1 h h1)(q:h.get? b=Z d)(n:H b=L)(f:b∉ex):∃g,h1.get? b=Z { d with slots:=g }:=by
 by_cases hb:b∈fs
 ·exact u.slot b d q n hb f
 ·exact⟨d.slots,u.keep b d q n hb f⟩
def Un.kept{h h':UF}(k:∀b u,h.get? b=Z u->h'.get? b=Z u):Un fs ex H H h h' :=
 ⟨λb d q _ _ _=>k b d q,λb d q _ _ _=>⟨d.slots,k b d q⟩,λ_ _ _ n _=>n,λb d q _=>⟨d,k b d q⟩,λ_ _ q=>q,λ_ _ _ q=>q,λ_ _ q=>q⟩
def Un.refl:Un fs ex H H h h:=Un.kept λ_ _ q=>q
def Un.laid{h h':UF}(k:∀b u,h.get? b=Z u->h'.get? b=Z u)(g:h.objs.size<=a)(d:H a=L):Un fs ex H (upd H a o) h h' where
 keep:=λb u q _ _ _=>k b u q
 slot:=λb u q _ _ _=>⟨u.slots,k b u q⟩
 free:=λb u q n _=>by rw[aw (Zf (ZU (ZY q) g))];exact n
 there:=λb u q _=>⟨u,k b u q⟩
 Mf:=λb f q=>by rw[aw (aY q d)];exact q
 LS:=λb u f q=>by rw[aw (aY q d)];exact q
 LK:=λb n q=>by rw[aw (aY q d)];exact q
def Un.write{h h':UF}(d:J8 (H x))(he:e=x\/H e=Z (.own x))(k:∀b u,b≠e->h.get? b=Z u->h'.get? b=Z u)(l:∃u,h'.get? e=Z u):Un fs ex H (upd H x o) h h':=by
 have g:∀b,H b=L->b≠x:=λb n z=>by subst z;rw[n]at d;exact d
 have hb:∀b,H b=L->b≠e:=λb n z=>by
  subst z;rcases he with r | r
  ·exact g b n r
  ·rw[n]at r;cases r
 have f:∀b u,H b=Z u->¬J8 (Z u)->b≠x:=λb u q nm z=>by subst z;rw[q]at d;exact nm d
 refine⟨λb u q n _ _=>k b u (hb b n) q,λb u q n _ _=>⟨u.slots,k b u (hb b n) q⟩,λb u q n _=>by rw[aw (g b n)];exact n,λb u q _=>?_,
  λb j q=>by rw[aw (f b _ q λz=>z)];exact q,λb u j q=>by rw[aw (f b _ q λz=>z)];exact q,λb n q=>by rw[aw (f b _ q λz=>z)];exact q⟩
 by_cases i:b=e
 ·subst i;exact l
 ·exact⟨u,k b u i q⟩
end
noncomputable def gone(v:PP):Obj:=⟨v,L,.freed,#[]⟩
def yr(H:Hp)(a:On)(o:Obj):Obj:=match H a with
 |some (.tbl q)=>gone (.str q 0)
 |some _=>gone .none
 |none=>match o.data with
  |.freed=>gone .none
  |_=>o
def vf(h:UF)(H:Hp):Heap:=⟨h.objs.mapIdx λa o=>yr H a o,h.life⟩
def Tb(b:UF)(a:On)(q:Str):Prop:=b.objs[a]?=Z (gone (.str q 0))
def yT(h:UF)(H:Hp):(vf h H).objs.size=h.objs.size:=Array.size_mapIdx
def rX(h:UF)(H:Hp)(b:On):(vf h H).objs[b]?=(h.objs[b]?).map (yr H b):=Array.getElem?_mapIdx
def oq{h:UF}:h.get? b=Z o↔h.objs[b]?=Z o/\o.data ≠ .freed:=by
 unfold Heap.get?;split
 ·rename_i e;exact⟨λz=>(nomatch z),λ⟨z,n⟩=>by rw[e]at z;cases z;exact absurd Y n⟩
 ·rename_i n;exact⟨λz=>⟨z,λd=>by
   obtain⟨c,u,f,a⟩:=o;cases (d);exact n _ _ _ z⟩,λz=>z.1⟩
def zy{h:UF}(e:h.get? b=Z o)(n:H b=L):(vf h H).get? b=Z o:=by
 obtain⟨e1,e2⟩:=oq.mp e;refine oq.mpr ⟨?_,e2⟩;rw[rX,e1,YE];unfold yr;rw[n];cases h:o.data with
 |freed=>exact absurd h e2
 |_=>rfl
def Dj(e:(vf h H).get? b=Z o):h.get? b=Z o/\H b=L:=by
 obtain⟨e1,e2⟩:=oq.mp e;rw[rX]at e1;obtain⟨u,e3,a⟩:=Zw.mp e1;unfold yr at a;cases q:H b with
 |some y =>
  rw[q]at a;cases y<;>(cases a;exact absurd Y e2)
 |none =>
  rw[q]at a;refine⟨oq.mpr ?_,rfl⟩;cases d:u.data with
  |freed=>rw[d]at a;cases a;exact absurd Y e2
  |_ =>
   have f:u=o:=by rw[d]at a;exact a
   subst f;exact⟨e3,e2⟩
def xQ:Tb (vf h H) b q↔H b=Z (.tbl q)/\b<h.objs.size:=by
 unfold Tb;rw[rX];constructor
 ·intro e;obtain⟨u,e3,a⟩:=Zw.mp e;refine⟨?_,(XQ.mp e3).1⟩;unfold yr at a;cases y:H b with
  |some f =>
   rw[y]at a;cases f with
   |tbl i=>cases a;rfl
   |_=>cases a
  |none =>
   rw[y]at a;cases d:u.data with
   |freed=>rw[d]at a;cases a
   |_ =>
    have g:u=gone (.str q 0):=by rw[d]at a;exact a
    rw[g]at d;cases d
 ·rintro⟨e,l⟩;rw[ZH l,YE];unfold yr;rw[e]
noncomputable def DA(g h:UF)(L:On):Z2:=(List.range h.objs.size).filterMap λa=>if a=L\/(g.get? a).isSome=J then none else (h.get? a).map λo=>(a,o)
def rest(g h:UF)(L d:On):Z2:=(DA g h L).filter λp=>decide (p.1≠d)
structure Mod(K:X3)(mg:Wi)(base:UF):Prop where
 Su:K.In base
 glob:base.Ns mainGlobals mg
 blt:∃mb,base.Ns builtinsNs mb/\∀x:Str,x ≠ "__name__" → mb x=bootBuiltins x
 nolimit:base.NoLimit
structure Cx where
 prog:SB
 w:UV
 K:X3
 mg:Wi
 base:UF
 A:SC
 N:List Str
 s₀:KB
 H₀:Hp
 env:Env
 outer:List Env
 stack:List Env
 ex:Wc
 fn:Str->Bool
 calm:Bool
 pn:Z2
 xe:Z0
abbrev K1(e:Expr)(l:List Expr)(X:Cx):Prop:=P3 (e :: l) X.env=(B,eval e X.env) :: P3 l X.env
abbrev K2(p:Pos)(l:List Expr)(X:Cx):Prop:=(backTo p (P3 l X.env)).any (·.1)=B
abbrev K3(x:Str):Prop:=(x==("__debug__" : Str))=B
abbrev K4(x:Str):Prop:=(x==("__classdict__" : Str))=B
noncomputable def Lv(l:List Env):Wc:=l.filterMap (·.frame)
abbrev Cx.fs(X:Cx):Wc:=Lv X.outer
noncomputable def L6(a:Scope)(x:Str):Prop:=a.names.lookup x=Z .local\/a.names.lookup x=Z .cell\/a.names.lookup x=Z .free
noncomputable def Loc(a:Scope)(x:Str):Prop:=a.names.lookup x=Z .local\/a.names.lookup x=Z .cell
noncomputable def Look(a:Env)(h:UF)(m:Wi)(x:Str)(u:PP):Prop :=
 (a.kindOf x=Z .local/\m x=Z u)\/((a.kindOf x=Z .cell\/a.kindOf x=Z .free)/\∃c,a.cells.lookup x=Z c/\h.IsCell c (Z u))
structure Cx.Ok(X:Cx):Prop where
 mod:Mod X.K X.mg X.base
 kind:X.env.scope.kind=.function
 glob:X.env.globals=mainGlobals
 blt:X.env.builtins=builtinsNs
 above:X.s₀.heap.objs.size<=X.env.locals
 inj:∀x y c,X.env.cells.lookup x=some c->X.env.cells.lookup y=some c->x=y
 has:∀x,(X.env.kindOf x=some .cell\/X.env.kindOf x=some .free)->∃c,X.env.cells.lookup x=some c
 TK:∀x c,X.fn x=true->X.env.cells.lookup x=some c->X.s₀.heap.objs.size<=c
 hd:X.calm=true->X.A.handled=none
 frames:X.A.frames=some X.stack
 Ue:X.stack=X.outer\/(X.stack=X.env :: X.outer/\X.env.frame=some X.env.locals)
 exf:∀b∈X.ex,b≠X.env.locals/\∀x c,X.env.cells.lookup x=some c->c≠b
 tb:∀b q,Tb X.base b q->X.H₀ b=some (.tbl q)
 bs:∀b o,X.base.get? b=some o->X.s₀.heap.get? b=some o/\X.H₀ b=none
 OH:X.base.objs.size<=X.s₀.heap.objs.size
 N4:∀b o,X.base.get? b=some o->b∉X.ex
 Pf:∀b∈X.ex,b∉X.fs
 LF:X.s₀.heap.FunFrames X.base X.outer
 Rl:∀b∈X.fs,X.H₀ b=none
structure Inv(X:Cx)(pins:Z2)(M:List (Option V))(H:Hp)(s:KB):Prop where
 ok:X.Ok
 os:s.os=X.s₀.os
 bare:AllBare s.gens
 base:Un X.fs X.ex X.H₀ H X.s₀.heap s.heap
 loc:∃m,s.heap.Ns X.env.locals m/\∀(i:Nat)(x:Str)(v:V),X.N[i]?=some x->M[i]?=some (some v)->L6 X.env.scope x->∃u,RelV v u/\Look X.env s.heap m x u
 cell:∀x c,X.env.cells.lookup x=some c->∃v,s.heap.IsCell c v
 free:H X.env.locals=none
 KI:∀x c,X.env.cells.lookup x=some c->H c=none
 pin:∀p∈X.pn++pins,s.heap.get? p.1=some p.2/\H p.1=none/\p.1≠X.env.locals/\p.1∉X.fs/\∀v,p.2.data ≠ .cell v
 JZ:Lj X.prog X.w H s.heap
 len:M.length=X.N.length
section
variable{H:Hp}
def Cx.Ok.VM{X:Cx}(a:X.Ok)(e:X.base.get? b=Z o):b∉X.fs:=λhb=>by
 have:=(a.LF.mem hb).1;rw[e]at this;cases this
theorem Inv.bs(I:Inv X pins M H s):∀b o,X.base.get? b=Z o->s.heap.get? b=Z o/\H b=L:=λb o e =>
 ⟨I.base.keep b o (I.ok.bs b o e).1 (I.ok.bs b o e).2 (I.ok.VM e) (I.ok.N4 b o e),I.base.free b o (I.ok.bs b o e).1 (I.ok.bs b o e).2 (I.ok.N4 b o e)⟩
theorem Inv.tb(I:Inv X pins M H s):∀b q,Tb X.base b q->H b=Z (.tbl q):=λb q e=>I.base.LK b q (I.ok.tb b q e)
def Inv.bk(I:Inv X pins M H s):∀b o,X.base.get? b=Z o->s.heap.get? b=Z o:=λb o e=>(I.bs b o e).1
theorem Inv.mod(I:Inv X pins M H s):Mod X.K X.mg X.base:=I.ok.mod
def Inv.Ly(I:Inv X pins M H s):X.K.In s.heap:=I.ok.mod.Su.keeps I.bk
theorem Inv.nolimit(I:Inv X pins M H s):s.heap.NoLimit:=I.ok.mod.nolimit.keeps I.bk
theorem Inv.lt(I:Inv X pins M H s):X.env.locals<s.heap.objs.size:=let ⟨_,a,_⟩:=I.loc;a.lt
def Inv.sz(I:Inv X pins M H s):X.s₀.heap.objs.size<=s.heap.objs.size:=ZJ I.ok.above (Y5 I.lt)
def Inv.VL(I:Inv X pins M H s)(h:s.heap.objs.size<=a):a∉X.fs:=λhb=>by
 obtain⟨_,o,b,_⟩:=I.ok.LF.mem hb;exact absurd (ZU (ZY b) (ZJ I.sz h)) (YO _)
def Inv.Ro(I:Inv X pins M H s):∀x c,X.env.cells.lookup x=Z c->c≠X.env.locals:=λx c e z=>by
 obtain⟨v,o,b,hd⟩:=I.cell x c e;obtain⟨m,⟨f,g,h,d,a,_⟩,_⟩:=I.loc;rw[z,d]at b;cases b;rw[a]at hd;cases hd
theorem Inv.LF(I:Inv X pins M H s):s.heap.FunFrames X.base X.outer:=by
 have all:∀(l:List Env),(∀b∈Lv l,b∈X.fs)->X.s₀.heap.FunFrames X.base l->s.heap.FunFrames X.base l:=by
  intro l
  induction l with
  |nil=>intro _ _;trivial
  |cons env r g =>
   intro f m;obtain⟨n,⟨L,o,a,j,i,hd⟩,h⟩:=m;have d:=f L (by unfold Lv;rw[W8,a];exact Zx);obtain⟨p,e⟩:=I.base.slot L o i (I.ok.Rl L d) d λz=>I.ok.Pf L z d;exact⟨n,⟨L,_,a,j,e,hd⟩,g (λb hb=>f b (by unfold Lv;rw[W8,a];exact Zy _ hb)) h⟩
 exact all X.outer (λ_ hb=>hb) I.ok.LF
theorem Inv.stack(I:Inv X pins M H s):s.heap.FunFrames X.base X.stack:=by
 rcases I.ok.Ue with e | ⟨e,b⟩
 ·rw[e];exact I.LF
 ·rw[e];obtain⟨m,a,_⟩:=I.loc;refine .cons (by rw[I.ok.kind];decide) b a ?_ I.LF;exact Heap.get?_none_of_le (ZJ I.ok.OH I.ok.above)
def Inv.LL(I:Inv X pins M H s):∀b∈Lv X.stack,b∈X.env.locals :: X.fs:=λb hb=>by
 rcases I.ok.Ue with e | ⟨e,a⟩
 ·rw[e]at hb;exact Zy _ hb
 ·rw[e]at hb;unfold Lv at hb;rw[W8,a]at hb;exact hb
def Inv.Mg(I:Inv X pins M H s):∀b∈Lv X.stack,H b=L:=λb hb=>by
 rcases Zo.mp (I.LL b hb) with e | hb
 ·rw[e];exact I.free
 ·obtain⟨_,o,a,_⟩:=I.ok.LF.mem hb;exact I.base.free b o a (I.ok.Rl b hb) λz=>I.ok.Pf b z hb
def Inv.step{h':UF}{ch:Wc}(I:Inv X pins M H s)(E:∀b∈ch,(b∈X.ex\/X.s₀.heap.objs.size<=b)/\b≠X.env.locals/\(∀x c,X.env.cells.lookup x=Z c->c≠b)/\∀p∈X.pn++pins,p.1≠b)(g:∀b o,b≠X.env.locals->b∉X.fs->b∉ch->s.heap.get? b=Z o->H b=L->h'.get? b=Z o)(j:∀b o,b≠X.env.locals->b∈X.fs->b∉ch->s.heap.get? b=Z o->H b=L->∃N,h'.get? b=Z { o with slots:=N })(f:∀b o,b∉ch->s.heap.get? b=some o->H b=none->H' b=none)(t:∀b o,b∉ch->s.heap.get? b=Z o->∃A,h'.get? b=Z A)(Mf:∀b h,H b=Z (.tup h)->H' b=Z (.tup h))(LS:∀b o u,H b=Z (.frz o u)->H' b=Z (.frz o u))(LK:∀b q,H b=Z (.tbl q)->H' b=Z (.tbl q))(U:∀m,s.heap.Ns X.env.locals m->h'.Ns X.env.locals m)(JZ:Lj X.prog X.w H' h')(hg:AllBare R) :
  Inv X pins M H' { s with heap:=h',gens:=R,drawn:=d',toks:=S }:=by
 have C:∀b o,X.s₀.heap.get? b=Z o->b≠X.env.locals:=λb o e=>Zf (ZU (ZY e) I.ok.above);have F:∀b o,X.s₀.heap.get? b=Z o->b∉X.ex->b∉ch:=λb o e a hb=>by
  rcases (E b hb).1 with z | z
  ·exact a z
  ·exact absurd (ZU (ZY e) z) (YO _)
 have cellK:∀x c,X.env.cells.lookup x=Z c->∀v,s.heap.IsCell c v->h'.IsCell c v:=λx c e v ⟨o,y,hd⟩=>by
  have D:c∉ch:=λz=>(E c z).2.2.1 x c e Y;by_cases Q:c∈X.fs
  ·obtain⟨N,q⟩:=j c o (I.Ro x c e) Q D y (I.KI x c e);exact⟨_,q,hd⟩
  ·exact⟨o,g c o (I.Ro x c e) Q D y (I.KI x c e),hd⟩
 refine⟨I.ok,I.os,hg,⟨λb o e n hb a=>?_,λb o e n hb a=>?_,λb o e n a=>?_,λb o e a=>?_,λb h e=>Mf b h (I.base.Mf b h e),λb o h e=>LS b o h (I.base.LS b o h e),λb q e=>LK b q (I.base.LK b q e)⟩,?_,λx c e=>?_,?_,λx c e=>?_,λp P=>?_,JZ,I.len⟩
 ·exact g b o (C b o e) hb (F b o e a) (I.base.keep b o e n hb a) (I.base.free b o e n a)
 ·obtain⟨N,e1⟩:=I.base.slot b o e n hb a;obtain⟨G,e2⟩:=j b _ (C b o e) hb (F b o e a) e1 (I.base.free b o e n a);exact⟨G,e2⟩
 ·obtain⟨A,e1⟩:=I.base.there b o e a;exact f b A (F b o e a) e1 (I.base.free b o e n a)
 ·obtain⟨A,e1⟩:=I.base.there b o e a;exact t b A (F b o e a) e1
 ·obtain⟨m,hn,hl⟩:=I.loc;refine⟨m,U m hn,λi x v e1 e2 e3=>?_⟩;obtain⟨u,r,l⟩:=hl i x v e1 e2 e3;refine⟨u,r,?_⟩;rcases l with l | ⟨k,c,e,z⟩
  ·exact .inl l
  ·exact .inr ⟨k,c,e,cellK x c e _ z⟩
 ·obtain⟨v,z⟩:=I.cell x c e;exact⟨v,cellK x c e v z⟩
 ·obtain⟨m,⟨o,_,_,y,_⟩,_⟩:=I.loc;exact f _ o (λz=>(E _ z).2.1 Y) y I.free
 ·obtain⟨v,o,y,hd⟩:=I.cell x c e;exact f c o (λz=>(E c z).2.2.1 x c e Y) y (I.KI x c e)
 ·obtain⟨e,n,ne,O,d⟩:=I.pin p P;have D:=λz=>(E p.1 z).2.2.2 p P Y;exact⟨g p.1 p.2 ne O D e n,f p.1 p.2 D e n,ne,O,d⟩
def Inv.un{t':Nat}(I:Inv X pins M H s)(u:Un X.fs [] H H' s.heap h')(l:Lj X.prog X.w H' h'):Inv X pins M H' { s with heap:=h',toks:=t' }:=by
 obtain⟨m,⟨o,v,x,a,r⟩,_⟩:=id I.loc;obtain⟨p,h⟩:=u.any a I.free (by simp);exact I.step (ch:=[]) (λ_ z=>nomatch z) (λb o _ hb _ e n=>u.keep b o e n hb (by simp)) (λb o _ hb _ e n=>u.slot b o e n hb (by simp)) (λb o _ e n=>u.free b o e n (by simp)) (λb o _ e=>u.there b o e (by simp)) u.Mf u.LS u.LK (λt g=>by
  obtain⟨q,j,i,d,f⟩:=g;rw[a]at d;cases d;exact⟨_,j,i,h,f⟩) l I.bare
def Inv.call{g':Array GenState}{t':Nat}{d':Drawn}{ch:Wc}(I:Inv X pins M H s)(u:Un (Lv X.stack) ch H H' s.heap h')(v:Lj X.prog X.w H' h')(l:AllBare g')(g:∀b∈ch,(b∈X.ex\/X.s₀.heap.objs.size<=b)/\b≠X.env.locals/\(∀x c,X.env.cells.lookup x=Z c->c≠b)/\∀p∈X.pn++pins,p.1≠b) :
  Inv X pins M H' { s with heap:=h',gens:=g',drawn:=d',toks:=t' }:=by
 obtain⟨m,⟨o,D,E,f,r⟩,_⟩:=id I.loc;obtain⟨y,d⟩:=u.any f I.free λz=>(g _ z).2.1 Y;exact I.step (ch:=ch) g (λb o d hb a e n=>u.keep b o e n (λz=>(Zo.mp (I.LL b z)).elim d hb) a) (λb o _ _ a e n=>u.any e n a) (λb o a e n=>u.free b o e n a) (λb o a e=>u.there b o e a) u.Mf u.LS u.LK (λC j=>by
  obtain⟨A,t,q,h,i⟩:=j;rw[f]at h;cases h;exact⟨_,t,q,d,i⟩) v l
def Inv.turned{h':UF}{t':Nat}(I:Inv X pins M H s)(k:∀b o,b≠a->s.heap.get? b=Z o->h'.get? b=Z o)(i:H a=L)(g:a≠X.env.locals)(w:a∈X.ex\/X.s₀.heap.objs.size<=a)(t:∀x c,X.env.cells.lookup x=Z c->c≠a)(l:∀p∈X.pn++pins,p.1≠a):Inv X pins M H { s with heap:=h',toks:=t' }:=by
 have f:∀b u,H b=Z u->b≠a:=λb u e z=>by rw[z,i]at e;cases e
 refine I.step (ch:=[a]) (λb hb=>?_) (λb o _ _ d e _=>k b o (λz=>d (by simp[z])) e) (λb o _ _ d e _=>⟨o.slots,k b o (λz=>d (by simp[z])) e⟩) (λ_ _ _ _ n=>n)
  (λb o d e=>⟨o,k b o (λz=>d (by simp[z])) e⟩) (λ_ _ e=>e) (λ_ _ _ e=>e) (λ_ _ e=>e) (λm j=>?_) (λb u e=>?_) I.bare
 ·have e:b=a:=by simpa using hb
  subst e;exact⟨w,g,t,l⟩
 ·obtain⟨o,y,A,h,r⟩:=j;exact⟨o,y,A,k _ o (Yy g) h,r⟩
 ·refine(I.JZ b u e).Mh (λc v d q=>k c v ?_ q) (λ_ q=>q) (λ_ _ q=>q) λ_ _ _ q=>q;rcases d with z | z
  ·rw[z];exact f b u e
  ·exact f c _ z
def Inv.tok(I:Inv X pins M H s)(t:Nat):Inv X pins M H { s with toks:=t }:=I.un (t':=t) Un.refl I.JZ
theorem Inv.kept{h':UF}{t':Nat}(I:Inv X pins M H s)(k:∀b u,s.heap.get? b=Z u->h'.get? b=Z u):Inv X pins M H { s with heap:=h',toks:=t' }:=I.un (Un.kept k) (I.JZ.kept k)
theorem Inv.laid{h':UF}{o:HO}{t':Nat}(I:Inv X pins M H s)(k:∀b u,s.heap.get? b=Z u->h'.get? b=Z u)(e:s.heap.objs.size<=a)(d:da X.prog X.w (upd H a o) h' a o) :
  Inv X pins M (upd H a o) { s with heap:=h',toks:=t' }:=I.un (Un.laid k e (I.JZ.fresh e)) (I.JZ.laid k e d)
theorem Inv.write{h':UF}{x e:On}(I:Inv X pins M H s)(d:J8 (H x))(he:e=x\/H e=Z (.own x))(k:∀b u,b≠e->s.heap.get? b=Z u->h'.get? b=Z u)(f:∃u,h'.get? e=Z u)(a:da X.prog X.w (upd H x o) h' x o):Inv X pins M (upd H x o) { s with heap:=h',toks:=g }:=I.un (Un.write d he k f) (I.JZ.write d he k f a)
def Inv.Nf(I:Inv X pins M H s)(h:∀p∈a,s.heap.get? p.1=Z p.2/\H p.1=L/\p.1≠X.env.locals/\p.1∉X.fs/\∀v,p.2.data ≠ .cell v):Inv X a M H s :=
 ⟨I.ok,I.os,I.bare,I.base,I.loc,I.cell,I.free,I.KI,λp b=>(ZW.mp b).elim (λz=>I.pin p (Ye _ z)) (h p),I.JZ,I.len⟩
def uE{N:List Str}(d:N.Nodup){i j:Nat}{x:Str}(a:N[i]?=Z x)(b:N[j]?=Z x):i=j:=by
 obtain⟨f,e1⟩:=Ze.mp a;obtain⟨e,e2⟩:=Ze.mp b;exact(Vi d).mp (e1.trans e2.symm)
def qj{v:V}(I:Inv X pins M H s)(hN:X.N.Nodup)(G:X.N[i]?=Z x)(l:Loc X.env.scope x)(r:RelV v u)(h:∀s',Inv X pins (M.set i (Z v)) H s'->(∃a,Heap.SameBut a s.heap s'.heap/\(a=X.env.locals\/X.env.cells.lookup x=Z a))->Q () s')(hf:{`q0,X.fn x=J\/X.env.scope.names.lookup x=Z .local}):Pi Mq A (storeName X.env x u) Q E s:=by
 obtain⟨m,hn,hl⟩:=id I.loc;have F:i<M.length:=by rw[I.len];exact(Ze.mp G).1
 have Ro:=I.Ro;have tracked:∀{a:On}{h':UF},(∃o,s.heap.get? a=Z o/\H a=L)->Heap.SameBut a s.heap h'->Lj X.prog X.w H h':=λ{a h'} ha f b ob e=>by
  obtain⟨_,_,PJ⟩:=ha;refine(I.JZ b ob e).Mh (λc P g q=>(f.2 c ?_).trans q) (λ_ q=>q) (λ_ _ q=>q) λ_ _ _ q=>q;rintro rfl;rcases g with rfl | g
  ·rw[PJ]at e;cases e
  ·rw[PJ]at g;cases g
 rcases l with t | t
 ·refine wpAny_storeName_local t hn (λh' SU f=>?_) (by rw[I.ok.kind];rfl);obtain⟨oL,_,_,Pa,_⟩:=id hn;refine h _ ⟨I.ok,I.os,I.bare,⟨λb o e n hb l=>?_,λb o e n hb l=>?_,I.base.free,λb o e l=>?_,I.base.Mf,I.base.LS,I.base.LK⟩,⟨_,SU,λj y S e1 e2 e3=>?_⟩,λy c e=>?_,I.free,I.KI,λp hp=>?_,tracked ⟨oL,Pa,I.free⟩ f,by simpa using I.len⟩ ⟨_,f,.inl Y⟩
  ·exact(f.2 b (Zf (ZU (ZY e) I.ok.above))).trans (I.base.keep b o e n hb l)
  ·obtain⟨sl,e1⟩:=I.base.slot b o e n hb l;exact⟨sl,(f.2 b (Zf (ZU (ZY e) I.ok.above))).trans e1⟩
  ·obtain⟨o',e1⟩:=I.base.there b o e l;exact⟨o',(f.2 b (Zf (ZU (ZY e) I.ok.above))).trans e1⟩
  ·by_cases C:j=i
   ·subst C;rw[G]at e1;cases e1;rw[YG F]at e2;cases e2;exact⟨u,r,.inl ⟨t,by simp⟩⟩
   ·rw[Yr (Yy C)]at e2;obtain⟨U,r',q⟩:=hl j y S e1 e2 e3;refine⟨U,r',?_⟩;rcases q with⟨k,e⟩ | ⟨k,c,e,z⟩
    ·refine .inl ⟨k,?_⟩;have:y≠x:=λe=>C (uE hN e1 (e ▸ G));simp[this,e]
    ·exact .inr ⟨k,c,e,z.sameBut f (Ro y c e)⟩
  ·obtain⟨P,z⟩:=I.cell y c e;exact⟨P,z.sameBut f (Ro y c e)⟩
  ·obtain⟨e,n,ne,nf,d⟩:=I.pin p hp;exact⟨(f.2 p.1 ne).trans e,n,ne,nf,d⟩
 ·have S5:X.fn x=J:=by
   rcases hf with z | z
   ·exact z
   ·rw[z]at t;cases t
  obtain⟨c,g⟩:=I.ok.has x (.inl t);obtain⟨P,z⟩:=I.cell x c g;refine wpAny_storeName_cell I.ok.kind t g z (λh' Lf f=>?_);obtain⟨oc,Oy,D⟩:=id z;refine h { s with heap:=h' } ⟨I.ok,I.os,I.bare,⟨λb o e n hb l=>?_,λb o e n hb l=>?_,I.base.free,λb o e l=>?_,I.base.Mf,I.base.LS,I.base.LK⟩,⟨m,hn.sameBut f (Yy (Ro x c g)),λj y S e1 e2 e3=>?_⟩,λy R e=>?_,I.free,I.KI,λp hp=>?_,tracked ⟨oc,Oy,I.KI x c g⟩ f,by simpa using I.len⟩ ⟨c,f,.inr g⟩
  ·exact(f.2 b (Zf (ZU (ZY e) (I.ok.TK x c S5 g)))).trans (I.base.keep b o e n hb l)
  ·obtain⟨sl,e1⟩:=I.base.slot b o e n hb l;exact⟨sl,(f.2 b (Zf (ZU (ZY e) (I.ok.TK x c S5 g)))).trans e1⟩
  ·obtain⟨o',e1⟩:=I.base.there b o e l;exact⟨o',(f.2 b (Zf (ZU (ZY e) (I.ok.TK x c S5 g)))).trans e1⟩
  ·by_cases C:j=i
   ·subst C;rw[G]at e1;cases e1;rw[YG F]at e2;cases e2;exact⟨u,r,.inr ⟨.inl t,c,g,Lf⟩⟩
   ·rw[Yr (Yy C)]at e2;obtain⟨U,r',q⟩:=hl j y S e1 e2 e3;refine⟨U,r',?_⟩;rcases q with q | ⟨k,R,e,z'⟩
    ·exact .inl q
    ·refine .inr ⟨k,R,e,z'.sameBut f ?_⟩;rintro rfl;exact C (uE hN e1 (I.ok.inj _ _ _ e g ▸ G))
  ·by_cases O:R=c
   ·subst O;exact⟨_,Lf⟩
   ·obtain⟨w2,z2⟩:=I.cell y R e;exact⟨w2,z2.sameBut f O⟩
  ·obtain⟨e,n,ne,nf,d⟩:=I.pin p hp;refine⟨(f.2 p.1 ?_).trans e,n,ne,nf,d⟩;intro q;rw[q,Oy]at e;exact d P (by rw[← (Zh e)];exact D)
def ur(I:Inv X pins M H s)(f:X.N.Nodup)(d:X.N[i]?=Z x)(b:Loc X.env.scope x)(r:RelV v u)(h:∀a,Inv X pins (M.set i (Z v)) H a->Q () a)(e:{`q0,X.fn x=J\/X.env.scope.names.lookup x=Z .local}):Pi g A (storeName X.env x u) Q E s :=
 qj I f d b r (λa j _=>h a j) e
def Inv.TJ{a:KB}{ch:Wc}(I:Inv X pins M H s)(d:a.os=s.os)(u:Un (Lv X.stack) ch H H' s.heap a.heap)(g:Lj X.prog X.w H' a.heap)(e:AllBare a.gens)(f:∀b∈ch,(b∈X.ex\/X.s₀.heap.objs.size<=b)/\b≠X.env.locals/\(∀x c,X.env.cells.lookup x=Z c->c≠b)/\∀p∈X.pn++pins,p.1≠b):Inv X pins M H' a:=by
 obtain⟨h',g',d',t',h⟩:=a;subst d;exact I.call (g':=g') (t':=t') (d':=d') u g e f
end
abbrev XK:=PP->Option On->Hp->Prop
noncomputable abbrev St:=List (Option V)
abbrev VK:=V->Hp->Prop
abbrev TE:=St->Hp->VK->Prop
abbrev TT:=St->Hp->(Bool->Hp->Prop)->Prop
abbrev TA:=St->Hp->(List V->Hp->Prop)->Prop
structure Ends where
 nx:St->Hp->Prop
 rt:VK
 bk:St->Hp->Prop:=λ_ _=>False
 ct:St->Hp->Prop:=λ_ _=>False
abbrev TS:=Ends->St->Hp->Prop
def EP(X:Cx)(a:Z2)(M:St)(Q:VK)(u:PP)(d:KB):Prop:=∃v b,Inv X a M b d/\RelV v u/\Q v b
noncomputable def TP(X:Cx)(a:Z2)(M:St)(Q:Bool->Hp->Prop)(b:Bool)(e:KB):Prop:=∃d,Inv X a M d e/\Q b d
def AP(X:Cx)(a:Z2)(M:St)(Q:List V->Hp->Prop)(e:Wa)(f:KB):Prop:=∃b d,Inv X a M d f/\aQ b e/\Q b d
def SP(X:Cx)(a:Z2)(D:Ends)(f:Flow)(e:KB):Prop :=
 match f with
 |.next=>∃d b,Inv X a d b e/\D.nx d b
 |.brk=>∃d b,Inv X a d b e/\D.bk d b
 |.cont=>∃d b,Inv X a d b e/\D.ct d b
 |.ret u=>∃v d b,Inv X a d b e/\RelV v u/\D.rt v b
def PE(X:Cx)(e:Expr)(t:TE):Prop :=
 ∀(a:Z2)(s:KB)(M:St)(H:Hp)(Q:VK),Inv X a M H s->t M H Q->Pi (KF X.prog X.w) X.A (eval e X.env) (EP X a M Q) X.xe s
def PT(X:Cx)(e:Expr)(t:TT):Prop :=
 ∀(a:Z2)(s:KB)(M:St)(H:Hp)(Q:Bool->Hp->Prop),Inv X a M H s->t M H Q->Pi (KF X.prog X.w) X.A (isTrue e X.env (eval e X.env)) (TP X a M Q) X.xe s
def PW(X:Cx)(e:Expr)(t:TT):Prop :=
 ∀(whole:Sem PP)(a:Z2)(s:KB)(M:St)(H:Hp)(Q:Bool->Hp->Prop),Inv X a M H s->t M H Q->Pi (KF X.prog X.w) X.A (isTrue e X.env whole) (TP X a M Q) X.xe s
def PW.pt(h:PW X e t):PT X e t:=h _
def PA(X:Cx)(b:List Expr)(t:TA):Prop :=
 ∀(pos:Pos)(a:Z2)(s:KB)(M:St)(H:Hp)(Q:List V->Hp->Prop),Inv X a M H s->t M H Q->Pi (KF X.prog X.w) X.A (spliced (backTo pos (P3 b X.env))) (AP X a M Q) X.xe s
def PS(X:Cx)(b:Stmt)(t:TS):Prop :=
 ∀(a:Z2)(s:KB)(M:St)(H:Hp)(D:Ends),Inv X a M H s->t D M H->Pi (KF X.prog X.w) X.A (exec b X.env) (SP X a D) X.xe s
def LZ(X:Cx)(b:List Stmt)(t:TS):Prop :=
 ∀(a:Z2)(s:KB)(M:St)(H:Hp)(D:Ends),Inv X a M H s->t D M H->Pi (KF X.prog X.w) X.A (execs b X.env) (SP X a D) X.xe s
def thn{α:Type}{t:Sem α}{Q b:α->KB->Prop}(h:Pi d A t Q E s)(e:∀a s,Q a s->b a s):Pi d A t b E s:=YX h e λ_ _ x=>x
section
noncomputable def Ir(i:Nat):TE:=λM H Q=>∃v,M[i]?=Z (Z v)/\Q v H
noncomputable def tC(v:V):TE:=λ_ H Q=>Q v H
def dS{X:Cx}(t:X.N[i]?=Z x)(n:L6 X.env.scope x)(f:{`q1,K3 x})(w:{`q1,K4 x}):PE X (.Name x d) (Ir i):=by
 intro b s M H Q I h;obtain⟨v,e,h⟩:=h;obtain⟨m,o,q⟩:=I.loc;obtain⟨u,r,l⟩:=q i x v t e n;have fin:EP X b M Q u s:=⟨v,H,I,r,h⟩
 rcases l with⟨a,p⟩ | ⟨a,c,g,j⟩
 ·exact wpAny_Name (wpAny_loadName_local I.ok.kind a o p fin) f
 ·rcases a with a | a
  ·exact wpAny_Name (wpAny_loadName_cell I.ok.kind a g j fin) f
  ·exact wpAny_Name (wpAny_loadName_free I.ok.kind a g j fin w) f
def rD{i j pos}:PE X (.Constant (.int i) j pos) (tC (.int i)):=λ_ _ _ H _ I h=>wpAny_Constant_int ⟨.int i,H,I.tok _,⟨_,rfl⟩,h⟩
def IE{b j pos}:PE X (.Constant (.bool b) j pos) (tC (.bl b)):=λ_ _ _ H _ I h=>Constant_bool ⟨.bl b,H,I,rfl,h⟩
def Fb{j pos}:PE X (.Constant .none j pos) (tC .non):=λ_ _ _ H _ I h=>Constant_none ⟨.non,H,I,rfl,h⟩
def BZ{x j pos}:PE X (.Constant (.str x) j pos) (tC (.str x)):=λ_ _ _ H _ I h=>Calls.Constant_str ⟨.str x,H,I.tok _,⟨_,rfl⟩,h⟩
noncomputable def Gl(X:Cx)(x:Str):Prop:=X.env.kindOf x=Z .globalImplicit
def xF(I:Inv X a M H s)(e:Gl X x)(d:X.mg x=Z u)(h:Q u s)(f:{`q1,K3 x}):Pi (KF X.prog X.w) X.A (eval (.Name x b) X.env) Q E s :=
 Calls.Name_function_global I.ok.kind e (Calls.loadGlobal_global (by rw[I.ok.glob];exact I.mod.glob.keeps I.bk) d h) f
def lh(I:Inv X a M H s)(g:Gl X x)(f:X.mg x=L)(d:bootBuiltins x=Z u)(h:Q u s)(e:{`q1,x ≠ "__name__"})(i:{`q1,K3 x}):Pi (KF X.prog X.w) X.A (eval (.Name x b) X.env) Q E s:=by
 obtain⟨m,l,j⟩:=I.mod.blt;exact Calls.Name_function_global I.ok.kind g (Calls.loadGlobal_builtin (by rw[I.ok.glob];exact I.mod.glob.keeps I.bk) f (by rw[I.ok.blt];exact l.keeps I.bk) ((j x e).trans d) h) i
def D9{v:V}(f:Gl X x)(e:X.mg x=L)(b:bootBuiltins x=Z u)(r:RelV v u)(d:{`q1,x ≠ "__name__"})(g:{`q1,K3 x}):PE X (.Name x a) (tC v) :=
 λ_ _ _ H _ I h=>lh I f e b ⟨v,H,I,r,h⟩ d g
def PC(X:Cx)(g:CmpOp)(a b:Expr)(t:TE):Prop :=
 ∀(d:Z2)(s:KB)(M:St)(H:Hp)(Q:VK),Inv X d M H s->t M H Q →
  Pi (KF X.prog X.w) X.A (eval a X.env) (λv f=>Pi (KF X.prog X.w) X.A (eval b X.env) (λu e=>Pi (KF X.prog X.w) X.A (SZ g v u) (EP X d M Q) X.xe e) X.xe f) X.xe s
def A3(b:Expr)(h:d ≠ .In)(e:d ≠ .NotIn):behindInMarks d b=B:=by
 have e1:(d==CmpOp.In)=B:=by cases d<;>first | rfl | exact absurd Y h
 have e2:(d==CmpOp.NotIn)=B:=by cases d<;>first | rfl | exact absurd Y e
 cases b<;>simp[behindInMarks,e1,e2]
noncomputable def JJ(ta:TE):TE:=λM H Q=>ta M H λx d=>Q (.bl (decide (x=.non))) d
noncomputable def IP(ta:TE):TE:=λM H Q=>ta M H λx d=>Q (.bl (!decide (x=.non))) d
def RelV.Mz(r:RelV x v):(v==Value.none)=decide (x=.non):=by
 cases x with
 |non=>cases r;rfl
 |bl _=>cases r;rfl
 |int _=>obtain⟨t,rfl⟩:=r;rfl
 |str _=>obtain⟨t,rfl⟩:=r;rfl
 |byt _=>obtain⟨t,rfl⟩:=r;rfl
 |flt _=>obtain⟨t,rfl⟩:=r;rfl
 |ref _=>cases r;rfl
 |ty _=>cases r;rfl
def E3{j pos'}(f:PE X a ta):PC X .Is a (.Constant .none j pos') (JJ ta):=by
 intro d s M H Q I h;refine thn (f d s M H _ I h) λv s1 ⟨x,i,g,r1,e⟩=>?_;exact Constant_none (is_none_gen ⟨.bl _,i,g,by rw[r1.Mz];rfl,e⟩)
def D5{j pos'}(f:PE X a ta):PC X .IsNot a (.Constant .none j pos') (IP ta):=by
 intro d s M H Q I h;refine thn (f d s M H _ I h) λv s1 ⟨x,i,g,r1,e⟩=>?_;exact Constant_none (isnot_none_gen ⟨.bl _,i,g,by rw[r1.Mz];rfl,e⟩)
noncomputable def tB(t:TE):TT:=λM H Q=>t M H λx d=>∃c,x=.bl c/\Q c d
def Cb(h:PC X f a b t)(g:behindInMarks f b=B:=by first | exact A3 _ (by decide) (by decide) | rfl):PT X (.Compare a [f] [b] pos) (tB t):=by
 intro e s M H Q I hw;refine wpAny_isTrue_Compare1 (thn (h e s M H _ I hw) λv s1 g=>thn g λu o j=>thn j λc n ⟨x,m,l,r1,i⟩=>?_) g;obtain⟨d,rfl,q⟩:=i;cases r1;exact YJ ⟨m,l,q⟩
noncomputable def Jv(t u:TT):TT:=λM H Q=>t M H λc d=>if c=J then u M d Q else Q B d
noncomputable def tOr(t u:TT):TT:=λM H Q=>t M H λc d=>if c=J then Q J d else u M d Q
noncomputable def Ju(t:TT):TT:=λM H Q=>t M H λc d=>Q (!c) d
def oa(f:PT X a tA):PW X (.BoolOp .And [a] pos) tA:=by
 intro g d s M H Q I h;refine isTrue_and (thn (f d s M H Q I h) λc s1 e=>?_);cases c with
 |true=>exact isTrue_and_nil e
 |false=>exact e
def sv(f:PT X a tA):PW X (.BoolOp .Or [a] pos) tA:=by
 intro g d s M H Q I h;refine isTrue_or (thn (f d s M H Q I h) λc s1 e=>?_);cases c with
 |false=>exact isTrue_or_nil e
 |true=>exact e
def BU{X:Cx}{a:Expr}{pos:Pos}{tA Ud:TT}{rest:List Expr}(l:PT X a tA)(j:PW X (.BoolOp .And (b :: rest) pos) Ud):PW X (.BoolOp .And (a :: b :: rest) pos) (Jv tA Ud):=by
 intro i d s M H Q I h;refine isTrue_and (thn (l d s M H _ I h) λc s1 ⟨g,f,e⟩=>?_);cases c with
 |true=>exact j i d s1 M g Q f e
 |false=>exact⟨g,f,e⟩
def IF{X:Cx}{a:Expr}{pos:Pos}{tA Ud:TT}{rest:List Expr}(l:PT X a tA)(j:PW X (.BoolOp .Or (b :: rest) pos) Ud):PW X (.BoolOp .Or (a :: b :: rest) pos) (tOr tA Ud):=by
 intro i d s M H Q I h;refine isTrue_or (thn (l d s M H _ I h) λc s1 ⟨g,f,e⟩=>?_);cases c with
 |true=>exact⟨g,f,e⟩
 |false=>exact j i d s1 M g Q f e
def GS(e:PT X a tA):PT X (.UnaryOp .Not a pos) (Ju tA):=by
 intro d s M H Q I h;exact isTrue_not (e d s M H (λc f=>Q (!c) f) I h)
noncomputable def HL(ta e:TE):TE:=λM H Q=>ta M H λx d=>∃c,x=.bl c/\if c=J then e M d Q else Q (.bl B) d
noncomputable def IR(ta:TE):TE:=λM H Q=>ta M H λx d=>∃c,x=.bl c/\Q (.bl (!c)) d
def Hn{op}(h:PE X a t):PE X (.BoolOp op [a] pos) t:=λd s M H Q I hw=>BoolOp_one (h d s M H Q I hw)
def Gh{X:Cx}{a:Expr}{ta tb:TE}{pos:Pos}{rest:List Expr}(j:PE X a ta)(i:PE X (.BoolOp .And (b :: rest) pos) tb):PE X (.BoolOp .And (a :: b :: rest) pos) (HL ta tb):=by
 intro d s M H Q I h;refine BoolOp_and (thn (j d s M H _ I h) λv s1 ⟨x,g,f,r1,e⟩=>?_);obtain⟨c,rfl,e⟩:=e;cases r1;refine YJ ?_;cases c with
 |true=>exact i d s1 M g Q f e
 |false=>exact⟨.bl B,g,f,rfl,e⟩
def E4(f:PE X a ta):PE X (.UnaryOp .Not a pos) (IR ta):=by
 intro d s M H Q I h;refine UnaryOp_ (thn (f d s M H _ I h) λv s1 ⟨x,i,g,r1,e⟩=>?_);obtain⟨c,rfl,e⟩:=e;cases r1;exact not_of (YJ ⟨.bl (!c),i,g,rfl,e⟩)
end
def Kb(K:X3)(H:Hp)(a:On)(d:List V):Prop :=
 Rd H a (.lst d) ∨
  ∃(o:Obj)(b:Array PP)(n:Nat),K.lookup a=Z o/\o.cls=.type "list" ∧ o.dict=L/\o.data=.seq b n/\b.size<=KM/\aQ d b.toList
def Li(K:X3)(H:Hp)(a:On)(d:List V):Prop :=
 Rd H a (.tup d) ∨
  ∃(o:Obj)(b:Array PP)(n:Nat),K.lookup a=Z o/\o.cls=.type "tuple" ∧ o.data=.seq b n/\b.size<=KM/\aQ d b.toList
noncomputable def JM:PP->Option V
 |.none=>Z .non
 |.bool b=>Z (.bl b)
 |.int i _=>Z (.int i)
 |.str x _=>Z (.str x)
 |.bytes b _=>Z (.byt b)
 |.float b _=>Z (.flt b)
 |.ref a=>Z (.ref a)
 |.type n=>Z (.ty n)
 |_=>L
def RelV.abs(r:RelV x u):JM u=Z x:=by
 cases x with
 |non=>cases r;rfl
 |bl _=>cases r;rfl
 |int _=>obtain⟨t,rfl⟩:=r;rfl
 |str _=>obtain⟨t,rfl⟩:=r;rfl
 |byt _=>obtain⟨t,rfl⟩:=r;rfl
 |flt _=>obtain⟨t,rfl⟩:=r;rfl
 |ref _=>cases r;rfl
 |ty _=>cases r;rfl
def RelV.inj(r:RelV x u)(q:RelV y u):x=y:=Zh (r.abs.symm.trans q.abs)
theorem aQ.inj:∀{b a:List V}{d:Wa},aQ b d->aQ a d->b=a
 |_,_,_,.nil,.nil=>rfl
 |_,_,_,.cons r t,.cons f e=>by rw[r.inj f,aQ.inj t e]
section
variable{H:Hp}
def Kb.of{K:X3}(h:H a=Z (.lst xs)):Kb K H a xs:=.inl (.inl h)
def Li.of{K:X3}(h:H a=Z (.tup xs)):Li K H a xs:=.inl (.inl h)
def Inv.list(I:Inv X pins M H s)(h:Kb X.K H a xs):∃b:Wa,aQ xs b/\PlainL s.heap a b.toArray/\xs.length<=sizeLine:=by
 rcases h with h | ⟨o,b,n,f,g,hd,d,i,r⟩
 ·obtain⟨z,b,n,r,e⟩:=h.ok I.JZ;exact⟨b,r,⟨_,n,e,rfl,rfl,rfl⟩,z⟩
 ·refine⟨b.toList,r,⟨o,n,I.Ly a o f,g,hd,by simpa using d⟩,?_⟩;have e:=r.length;simp only[Z9]at e;lia
def Inv.tuple(I:Inv X pins M H s)(h:Li X.K H a xs):∃b:Wa,aQ xs b/\IsTup s.heap a b.toArray/\xs.length<=sizeLine:=by
 rcases h with h | ⟨o,b,n,f,g,d,i,r⟩
 ·obtain⟨z,b,r,_,p⟩:=h.ok I.JZ;exact⟨b,r,p,z⟩
 ·refine⟨b.toList,r,⟨o,I.Ly a o f,g,n,by simpa using d⟩,?_⟩;have e:=r.length;simp only[Z9]at e;lia
def Inv.MA(I:Inv X pins M H s)(h:Kb X.K H a xs)(j:Kb X.K H a ys):xs=ys:=by
 obtain⟨i,r,⟨o,n,e,_,_,d⟩,_⟩:=I.list h;obtain⟨l,g,⟨m,p,b,_,_,f⟩,_⟩:=I.list j;rw[e]at b;cases b;rw[d]at f;injection f with d1 _
 have:i=l:=by simpa using congrArg Array.toList d1
 subst this;exact r.inj g
def Inv.Nr(I:Inv X pins M H s)(h:Li X.K H a xs)(j:Li X.K H a ys):xs=ys:=by
 obtain⟨i,r,⟨o,e,_,n,d⟩,_⟩:=I.tuple h;obtain⟨l,g,⟨m,b,_,p,f⟩,_⟩:=I.tuple j;rw[e]at b;cases b;rw[d]at f;injection f with d1 _
 have:i=l:=by simpa using congrArg Array.toList d1
 subst this;exact r.inj g
end
noncomputable abbrev Cx.L0(X:Cx)(E:Z0):Cx:={ X with xe:=E }
abbrev Cx.My(X:Cx):Cx:=X.L0 λ_ _=>False
theorem Cx.Ok.L0{X:Cx}(a:X.Ok)(E:Z0):(X.L0 E).Ok :=
 ⟨a.mod,a.kind,a.glob,a.blt,a.above,a.inj,a.has,a.TK,a.hd,a.frames,a.Ue,a.exf,a.tb,a.bs,a.OH,a.N4,a.Pf,a.LF,a.Rl⟩
def Cx.Ok.K5{X:Cx}(a:(X.L0 E).Ok):X.Ok :=
 ⟨a.mod,a.kind,a.glob,a.blt,a.above,a.inj,a.has,a.TK,a.hd,a.frames,a.Ue,a.exf,a.tb,a.bs,a.OH,a.N4,a.Pf,a.LF,a.Rl⟩
section
variable{H:Hp}
theorem Inv.L0(I:Inv X pins M H s)(E:Z0):Inv (X.L0 E) pins M H s:=⟨I.ok.L0 E,I.os,I.bare,I.base,I.loc,I.cell,I.free,I.KI,I.pin,I.JZ,I.len⟩
theorem Inv.K5{X:Cx}(I:Inv (X.L0 E) pins M H s):Inv X pins M H s:=⟨I.ok.K5,I.os,I.bare,I.base,I.loc,I.cell,I.free,I.KI,I.pin,I.JZ,I.len⟩
theorem SP.K5{X:Cx}(h:SP (X.L0 E) pins D f d):SP X pins D f d:=by
 cases f with
 |next=>obtain⟨a,b,I,q⟩:=h;exact⟨a,b,I.K5,q⟩
 |brk=>obtain⟨a,b,I,q⟩:=h;exact⟨a,b,I.K5,q⟩
 |cont=>obtain⟨a,b,I,q⟩:=h;exact⟨a,b,I.K5,q⟩
 |ret u=>obtain⟨v,a,b,I,r,q⟩:=h;exact⟨v,a,b,I.K5,r,q⟩
theorem LZ.My{X:Cx}(h:LZ X.My a t):LZ X a t:=λpins s M H D I hw =>
 YX (h pins s M H D (I.L0 _) hw) (λ_ _ q=>q.K5) λ_ _ z=>False.elim z
end
section
variable{st:Stmt}
noncomputable def HQ:TS:=λD M H=>D.nx M H
noncomputable def JT(t u:TS):TS:=λD M H=>t { D with nx:=u D } M H
def D1:LZ X [] HQ:=λ_ _ M H _ I h=>W9 ⟨M,H,I,h⟩
def ua{X:Cx}{rest:List Stmt}{t u:TS}(d:PS X st t)(b:LZ X rest u):LZ X (st :: rest) (JT t u):=by
 intro a s M H D I h;refine wpAny_execs_cons (thn (d a s M H { D with nx:=u D } I h) λf s1 q=>?_);cases f with
 |next =>
  obtain⟨g,j,i,q⟩:=q;exact b a s1 g j D i q
 |ret v=>exact q
 |brk=>exact q
 |cont=>exact q
def ar(b:PS X st t):LZ X [st] t:=by
 intro a s M H D I h;refine wpAny_execs_cons (thn (b a s M H D I h) λf s1 q=>?_);cases f with
 |next=>exact W9 q
 |ret v=>exact q
 |brk=>exact q
 |cont=>exact q
def Inv.quiet(I:Inv X a M H s):interactive X.env=B:=by simp[interactive,I.ok.kind]
noncomputable def Jn(a:TE):TS:=λD M H=>a M H λ_ b=>D.nx M b
def hZ{pos:Pos}(he:PE X e te)(d:{`q2,swapsWith e L pos.line X.env=pure B}):PS X (.Expr e pos) (Jn te):=by
 intro a s M H D I h;exact wpAny_Expr_any (thn (he a s M H _ I h) λv s1 ⟨x,g,f,r1,b⟩=>⟨M,g,f,b⟩) I.quiet d
noncomputable def Jt(a:TE):TS:=λD M H=>a M H D.rt
def r6(he:PE X e te):PS X (.Return (Z e) pos) (Jt te):=by
 intro a s M H D I h;exact wpAny_Return_some (thn (he a s M H _ I h) λv s1 ⟨x,f,d,r1,b⟩=>⟨x,M,f,d,r1,b⟩)
noncomputable def JV(c:TT)(t u:TS):TS:=λD M H=>c M H λb a=>if b=J then t D M a else u D M a
def EC(m:PT X c g)(o:LZ X a t)(n:LZ X b u):PS X (.If c a b pos) (JV g t u):=by
 intro f s M H D I h;refine wpAny_If (thn (m f s M H _ I h) λd s1 ⟨l,j,i⟩=>?_);cases d with
 |true=>exact o f s1 M l D j i
 |false=>exact n f s1 M l D j i
end
abbrev TG:=V->St->Hp->(St->Hp->Prop)->Prop
abbrev Ph:=List V->St->Hp->(St->Hp->Prop)->Prop
def PG(X:Cx)(a:Expr)(t:TG):Prop :=
 ∀(b:Z2)(s:KB)(M:St)(H:Hp)(v:V)(u:PP)(Q:St->Hp->Prop),Inv X b M H s->RelV v u->t v M H Q →
  Pi (KF X.prog X.w) X.A (assign a X.env u) (λ_ f=>∃d e,Inv X b d e f/\Q d e) X.xe s
def OK(X:Cx)(g:List Expr)(t:Ph):Prop :=
 ∀(a:Z2)(s:KB)(M:St)(H:Hp)(b:List V)(d:Wa)(Q:St->Hp->Prop),Inv X a M H s->aQ b d->t b M H Q →
  Pi (KF X.prog X.w) X.A (assignInOrder ((assignEach g X.env).map (·.2)) d) (λ_ h=>∃e f,Inv X a e f h/\Q e f) X.xe s
abbrev D0:=V->V->V->Hp->(Hp->Prop)->Prop
def GV(X:Cx)(t:D0):Prop :=
 ∀(a:Z2)(s:KB)(M:St)(H:Hp)(o i v:V)(b iv u:PP)(Q:Hp->Prop),Inv X a M H s->RelV o b->RelV i iv->RelV v u->t o i v H Q →
  Pi (KF X.prog X.w) X.A (setItem b iv u) (λ_ e=>∃d,Inv X a M d e/\Q d) X.xe s
section
noncomputable def yk(i:Nat):TG:=λv M H Q=>Q (M.set i (Z v)) H
def sM{X:Cx}(f:X.N.Nodup)(d:X.N[i]?=Z x)(b:Loc X.env.scope x)(e:{`q0,X.fn x=J\/X.env.scope.names.lookup x=Z .local}):PG X (.Name x pos) (yk i):=by
 intro a s M H v u Q I r h;exact wpAny_assign_Name (ur I f d b r (λj g=>⟨_,H,g,h⟩) e)
noncomputable def Js:Ph:=λa M H Q=>a=[]/\Q M H
noncomputable def Ih(t:TG)(u:Ph):Ph:=λa M H Q=>∃v r,a=v :: r/\t v M H λb d=>u r b d Q
def Cu:OK X [] Js:=by
 intro a s M H b d Q I r h;obtain⟨e,h⟩:=h;subst e;cases r;exact assignInOrder_nil ⟨M,H,I,h⟩
def zY(j:PG X e t)(i:OK X b u)(g:{`q2,(assignEach (e :: b) X.env).map (·.2)=assign e X.env :: (assignEach b X.env).map (·.2)}):OK X (e :: b) (Ih t u):=by
 intro a s M H o q Q I r h;obtain⟨v,p,e1,h⟩:=h;subst e1;cases r with
 |cons r d =>
  rw[g];refine assignInOrder_cons (thn (j a s M H _ _ _ I r h) λ_ s1 ⟨l,n,m,f⟩=>?_);exact i a s1 l n _ _ Q m d f
def iD(K:X3)(n:Nat)(t:Ph):TG:=λv M H Q=>∃a b,v=.ref a/\Li K H a b/\b.length=n/\t b M H Q
def Gb{X:Cx}(w:X.calm=J)(h:OK X f t)(p:{`q2,(assignEach f X.env).length=n})(x:{`q2,(assignEach f X.env).findIdx? (·.1)=L}):PG X (.Tuple f k pos) (iD X.K n t):=by
 intro d s M H v u Q I r hw;obtain⟨a,i,e1,m,q,hw⟩:=hw;subst e1;cases r;obtain⟨y,g,l,z⟩:=I.tuple m;refine assign_Tuple_tuple (I.ok.hd w) l (by simp[p,← q,g.length]) x λA j=>?_;exact h d _ M H i _ Q (I.kept (t':=s.toks) λb o e=>j b o (Zf (ZY e)) e) (by simpa using g) hw
noncomputable def HV(a b:TE)(t:D0):TG:=λv M H Q=>a M H λo f=>b M f λi e=>t o i v e λd=>Q M d
def sJ(n:PE X o d)(p:PE X i e)(m:GV X t)(q:{`q3,∀v,assign (.Subscript o i pos) X.env v=(do
   let b ← holding [v] (eval o X.env)
   let iv ← holding [v,b] (eval i X.env)
   standAt pos
   holding [v,b,iv] (setItem b iv v)
   release [v,b,iv] [])}):PG X (.Subscript o i pos) (HV d e t):=by
 intro a s M H v u Q I r h;rw[q];refine Zv (Yl (thn (n a s M H _ I h) λb s1 ⟨x,E,A,r1,l⟩=>?_));refine Zv (Yl (thn (p a s1 M E _ A l) λiv f ⟨y,D,z,r2,j⟩=>?_));refine Zv (wpAny_standAt (Zv (Yl (thn (m a f M D x y v b iv u _ z r1 r2 r j) λ_ F ⟨C,w,g⟩=>?_))));exact wpAny_release ⟨M,C,w,g⟩
noncomputable def Iw(a:TE)(g:TG):TS:=λD M H=>a M H λx b=>g x M b D.nx
def rK{pos:Pos}(he:PE X e d)(j:PG X b g)(i:{`q2,swapsWithSole [b] e pos.line X.env=pure B})(hw:{`q2,swappedStores [b] e X.env=pure L})(l:{`q2,(assignEach [b] X.env).map (·.2)=[assign b X.env]}):PS X (.Assign [b] e pos) (Iw d g):=by
 intro a s M H D I h;refine wpAny_Assign_stores (thn (he a s M H _ I h) λv s1 ⟨x,n,m,r1,f⟩=>?_) i hw;rw[l];exact thn (j a s1 M n x v _ m r1 f) λ_ o q=>q
def mS{X:Cx}{pos:Pos}(n:X.N.Nodup)(l:X.N[i]?=Z x)(g:Loc X.env.scope x)(he:PE X e d)(j:{`q2,swapsWith e (Z (.Name x a)) pos.line X.env=pure B})(m:{`q0,X.fn x=J\/X.env.scope.names.lookup x=Z .local}) :
  PS X (.Assign [.Name x a] e pos) (Iw d (yk i)):=by
 intro b s M H D I h;refine wpAny_Assign_Name (thn (he b s M H _ I h) λv s1 ⟨y,q,p,r1,f⟩=>?_) j;exact ur p n l g r1 (λr o=>⟨_,q,o,f⟩) m
end
section
def GK(c:TT)(g:TS):TS:=λD M H=>∃W:Nat->St->Hp->Prop,(∃m,W m M H)/\∀m M H,W m M H →
 c M H λb e=>if b=J then ∃N:St->Hp->Prop,(∀d f,N d f->∃a,a<m/\W a d f)/\g { D with nx:=N,ct:=N,bk:=D.nx } M e else D.nx M e
def AW{X:Cx}(x:PassesOwn (KF X.prog X.w) X.A X.env X.xe)(S:PT X c t)(U:LZ X d u):PS X (.While c d [] pos) (GK t u):=by
 intro a s M H D I h;obtain⟨W,⟨R,O⟩,turn⟩:=h;refine wpAny_While (codeAny_whileLoop (λn Q=>∃y F,Inv X a y F Q/\W n y F) ?_ R ⟨M,H,I,O⟩);rintro n s1 ⟨l,E,I1,G⟩;refine XT x (thn (S a s1 l E _ I1 (turn n l E G)) λb P ⟨C,z,j⟩=>?_);cases b with
 |true =>
  obtain⟨N,hN,j⟩:=j;rw[Zp Y];refine XT x (thn (U a P l C _ z j) λf s3 i=>?_);cases f with
  |next =>
   obtain⟨e,g,r,o⟩:=i;obtain⟨p,q,m⟩:=hN e g o;exact⟨p,q,e,g,r,m⟩
  |cont =>
   obtain⟨e,g,r,o⟩:=i;obtain⟨p,q,m⟩:=hN e g o;exact⟨p,q,e,g,r,m⟩
  |brk=>exact i
  |ret v=>exact i
 |false =>
  rw[Zn ZX];exact W9 ⟨l,C,z,j⟩
end
structure It where
 go:Nat->Hp->Prop
 T6:Nat->Hp->V->Hp->Prop
 stop:Nat->Hp->Prop
def jq(X:Cx)(a:Z2)(H:Hp)(b:On):Prop :=
 H b=L/\b≠X.env.locals/\b∉X.fs/\(b∈X.ex\/X.s₀.heap.objs.size<=b)/\(∀x c,X.env.cells.lookup x=Z c->c≠b)/\∀p∈X.pn++a,p.1≠b
def Inv.M0(I:Inv X a M H s)(d:s.heap.objs.size<=b)(h:f b=L):jq X a f b:=by
 refine⟨h,XO (ZU I.lt d),I.VL d,.inr (ZJ I.sz d),λx c e z=>?_,λp g z=>?_⟩
 ·obtain⟨v,q⟩:=I.cell x c e;exact absurd (ZU q.lt (by rw[z];exact d)) (YO _)
 ·exact absurd (ZU (ZY (I.pin p g).1) (by rw[z];exact d)) (YO _)
structure Turn(P:SB)(w:UV)(K:X3)(tg:Expr)(J:It)(fp:Wc)(it:On)(tn:Nat->UF->Prop):Prop where
 mem:it∈fp
 obj:∀i h,tn i h->∀b∈fp,∃o,h.get? b=some o/\∀v,o.data ≠ .cell v
 keep:∀i h h',tn i h->(∀b∈fp,∀o,h.get? b=some o->h'.get? b=some o)->tn i h'
 item:∀(X:Cx),X.prog=P->X.w=w->X.K=K->X.calm=true->∀(i:Nat)(pins:Z2)(s:KB)(M:St)(H:Hp)(E:Z0),Inv X pins M H s->(∀b∈fp,jq X pins H b)->tn i s.heap->J.go i H →
  Pi (KF P w) X.A (pyNext (.ref it)) (λr s1=>∃u,r=some u ∧
   Pi (KF P w) X.A (letOwnedTupleGo tg (.ref it) u) (λ_ s2=>∃x H',Inv X pins M H' s2/\RelV x u/\J.T6 i H x H'/\tn (i+1) s2.heap/\∀b∈fp,H' b=none) E s1) E s
 done:∀(X:Cx),X.prog=P->X.w=w->X.K=K->X.calm=true->∀(i:Nat)(pins:Z2)(s:KB)(M:St)(H:Hp)(E:Z0),Inv X pins M H s->(∀b∈fp,jq X pins H b)->tn i s.heap->J.stop i H →
  Pi (KF P w) X.A (pyNext (.ref it)) (λr s1=>r=none/\Inv X pins M H s1) E s
 self:∀(A:SC)(i:Nat)(s:KB)(Q:Z0)(E:Z0),tn i s.heap->Q (.ref it) s->Pi (KF P w) A (pyIter (.ref it)) Q E s
abbrev TI:=St->Hp->(It->Hp->Prop)->Prop
def PIE(X:Cx)(a:Z2)(M:St)(f:Expr)(R:It->Hp->Prop)(g:PP)(e:KB):Prop :=
 ∃(it:On)(fp:Wc)(tn:Nat->UF->Prop)(J:It)(d:Hp),g=.ref it/\Inv X a M d e/\Turn X.prog X.w X.K f J fp it tn/\tn 0 e.heap/\(∀b∈fp,jq X a d b)/\R J d
def PI(X:Cx)(e b:Expr)(d:TI):Prop :=
 ∀(a:Z2)(s:KB)(M:St)(H:Hp)(R:It->Hp->Prop),Inv X a M H s->d M H R →
  Pi (KF X.prog X.w) X.A (eval b X.env) (λv s1=>Pi (KF X.prog X.w) X.A (pyIter v) (PIE X a M e R) X.xe s1) X.xe s
def tY{s:KB}(g:s.heap.get? e=Z o)(l:o.cls=.type n)(j:o.data=.fields b)(i:["enumerate", "zip", "dict_itemiterator", "dict_reverseitemiterator", "odict_iterator", "itertools.zip_longest", "itertools.pairwise"].contains n=B)(a:Q () s):Pi f A (letOwnedTupleGo d (.ref e) u) Q E s:=by
 cases d<;>first
  |exact Zl a
  | (cases u<;>first
    |exact Zl a
    | (refine Zv (wpAny_load g ?_)
       rw[l,j];show Pi f A (if (["enumerate", "zip", "dict_itemiterator", "dict_reverseitemiterator", "odict_iterator", "itertools.zip_longest", "itertools.pairwise"].contains n&&b[0]? == Z (rawInt _))=J then _ else _) Q E s;rw[Zn (by intro h;rw[i,Bool.false_and]at h;cases h)];exact Zl a))
def Itl(K:X3)(a:On):It :=
 ⟨λi H=>∃b x,Kb K H a b/\b[i]?=Z x,λi H x d=>d=H/\∀b,Kb K H a b->b[i]?=Z x,λi H=>∃b,Kb K H a b/\b.length<=i⟩
def Itt(K:X3)(a:On):It :=
 ⟨λi H=>∃b x,Li K H a b/\b[i]?=Z x,λi H x d=>d=H/\∀b,Li K H a b->b[i]?=Z x,λi H=>∃b,Li K H a b/\b.length<=i⟩
noncomputable def TY(a:Int)(n:Nat):It:=⟨λi _=>i<n,λi H x b=>b=H/\x=.int (a+i),λi _=>n<=i⟩
def yu{K:X3}(a f:On):Turn P w K O (Itl K a) [f] f (λi h=>h.IsListIter f a i) where
 mem:=by simp
 obj:=λi h st b hb=>by
  have e:b=f:=by simpa using hb
  subst e;obtain⟨o,e,c,d⟩:=st;exact⟨o,e,λv z=>by rw[d]at z;cases z⟩
 keep:=λi h F st k=>st.at λo e=>k f (by simp) o e
 item:=by
  intro X q hw r D i g s M H E I l st hg;subst q hw r;obtain⟨N,x,j,n⟩:=hg;obtain⟨S,m,p,U⟩:=I.list j;obtain⟨u,hu,R⟩:=m.get n;obtain⟨C,f1,f2,A,y,t⟩:=l f (by simp);refine wpAny_pyNext_list_item st p.isList (x:=u) (by simpa using hu) λF G Q=>?_;obtain⟨o,e,c,d⟩:=id G;exact⟨u,rfl,tY e c d (by decide) ⟨x,H,(I.turned (t':=s.toks) (λb o hb e=>(Q.2 b hb).trans e) C f1 A y t),R,⟨rfl,λys Y=>by rw[I.MA Y j];exact n⟩,G,λb hb=>(l b hb).1⟩⟩
 done:=by
  intro X q hw r D i g s M H E I l st hg;subst q hw r;obtain⟨N,j,n⟩:=hg;obtain⟨S,m,p,U⟩:=I.list j;obtain⟨C,f1,f2,A,y,t⟩:=l f (by simp);have hl:=m.length;exact wpAny_pyNext_list_end (I.ok.hd D) st p.isList (by simp;lia) λF eb=>⟨rfl,I.turned (λb o hb e=>eb b o hb e) C f1 A y t⟩
 self:=λ_ _ _ _ _ st h=>wpAny_pyIter_listiter st h
def vh{K:X3}(a f:On):Turn P w K O (Itt K a) [f] f (λi h=>h.IsTupleIter f a i) where
 mem:=by simp
 obj:=λi h st b hb=>by
  have e:b=f:=by simpa using hb
  subst e;obtain⟨o,e,c,d⟩:=st;exact⟨o,e,λv z=>by rw[d]at z;cases z⟩
 keep:=λi h F st k=>st.at λo e=>k f (by simp) o e
 item:=by
  intro X q hw r D i g s M H E I l st hg;subst q hw r;obtain⟨N,x,j,n⟩:=hg;obtain⟨S,m,p,U⟩:=I.tuple j;obtain⟨u,hu,R⟩:=m.get n;obtain⟨C,f1,f2,A,y,t⟩:=l f (by simp);refine wpAny_pyNext_tuple_item st (p) (x:=u) (by simpa using hu) λF G Q=>?_;obtain⟨o,e,c,d⟩:=id G;exact⟨u,rfl,tY e c d (by decide) ⟨x,H,(I.turned (t':=s.toks) (λb o hb e=>(Q.2 b hb).trans e) C f1 A y t),R,⟨rfl,λys Y=>by rw[I.Nr Y j];exact n⟩,G,λb hb=>(l b hb).1⟩⟩
 done:=by
  intro X q hw r D i g s M H E I l st hg;subst q hw r;obtain⟨N,j,n⟩:=hg;obtain⟨S,m,p,U⟩:=I.tuple j;obtain⟨C,f1,f2,A,y,t⟩:=l f (by simp);have hl:=m.length;exact wpAny_pyNext_tuple_end (I.ok.hd D) st (p) (by simp;lia) λF eb=>⟨rfl,I.turned (λb o hb e=>eb b o hb e) C f1 A y t⟩
 self:=λ_ _ _ _ _ st h=>wpAny_pyIter_tupleiter st h
def vp{K:X3}(a:On)(f:Int)(n:Nat):Turn P w K A (TY f n) [a] a (λi h=>IsRangeIter h a (f+(i:Nat)*1) ((n:Int)-(i:Nat)) 1) where
 mem:=by simp
 obj:=λi h st b hb=>by
  have e:b=a:=by simpa using hb
  subst e;exact⟨_,st,λv z=>by
   cases z⟩
 keep:=λi h x st k=>k a (by simp) _ st
 item:=by
  intro X l hw m j i d s M H E I g st hg;subst l hw m;obtain⟨u,f1,f2,r,q,p⟩:=g a (by simp);refine(Walks.range (prog:=X.prog) (w:=X.w) (I.ok.hd j) a f 1 n).item i s _ _ hg st λv x G D y C=>?_;obtain⟨t,rfl⟩:=D;refine⟨_,rfl,tY y Y Y (by decide) ⟨.int (f+i),H,(I.turned (λb o hb e=>C b o (by simpa using hb) e) u f1 r q p),⟨t,?_⟩,⟨rfl,rfl⟩,y,λb hb=>(g b hb).1⟩⟩;rw[Int.mul_one]
 done:=by
  intro X l hw m j i d s M H E I g st hg;subst l hw m;obtain⟨u,f1,f2,r,q,p⟩:=g a (by simp);exact wpAny_pyNext_range_end (I.ok.hd j) st (by have:n<=i:=hg;lia) λx F=>⟨rfl,I.turned (λb o hb e=>F b o hb e) u f1 r q p⟩
 self:=λ_ _ _ _ _ st h=>wpAny_pyIter_rangeiter st h
section
def tF{a f:Int}(I:Inv X d M H s)(m:-(2 ^ 62)<=a)(l:a<2 ^ 62)(j:-(2 ^ 62)<=f)(i:f<2 ^ 62)(q:R (TY a (f-a).toNat) H):Pi (KF X.prog X.w) X.A (pyIter (.ref s.heap.objs.size)) (PIE X d M tg R) E { s with heap:=s.heap.push { cls:=.type "range",data:=.fields #[.int a t,.int f u,.int 1 v] },toks:=g }:=by
 refine wpAny_pyIter_range (IsRange.new ..) (small_one m l j i) ?_;have h:Inv X d M H { s with heap:=s.heap.push { cls:=.type "range",data:=.fields #[.int a t,.int f u,.int 1 v] },toks:=g }:=I.kept λb o e=>Zm _ e;refine⟨(s.heap.push { cls:=.type "range",data:=.fields #[.int a t,.int f u,.int 1 v] }).objs.size,[(s.heap.push { cls:=.type "range",data:=.fields #[.int a t,.int f u,.int 1 v] }).objs.size],_,_,H,rfl,
  h.kept (t':=g) λb o e=>Zm _ e,vp _ a (f-a).toNat,?_,λb hb=>?_,q⟩
 ·have e1:a+((0:Nat):Int)*1=a:=by simp
  have e2:(((f-a).toNat:Nat):Int)-((0:Nat):Int)=Builtin.Range.rangeSize a f 1:=by rw[rangeSize_one];split<;>lia
  rw[e1,e2];exact Zc _ Y
 ·have e:b=(s.heap.push { cls:=.type "range",data:=.fields #[.int a t,.int f u,.int 1 v] }).objs.size:=by simpa using hb
  subst e;exact h.M0 (Zk _) (h.JZ.fresh (Zk _))
def EN(ta:TA):TI:=λM H R=>ta M H λa b=>∃j:Int,a=[.int j]/\-(2 ^ 62)<=j/\j<2 ^ 62/\R (TY 0 j.toNat) b
def Jb(ta:TA):TI:=λM H R=>ta M H λa b=>∃i j:Int,a=[.int i,.int j]/\(-(2 ^ 62)<=i/\i<2 ^ 62/\-(2 ^ 62)<=j/\j<2 ^ 62)/\R (TY i (j-i).toNat) b
def mZ(o:Gl X "range")(n:X.mg "range" = L)(u:PA X [a] g)(m:{`q2,P3 [a] X.env=[(B,eval a X.env)]}):PI X tg (.Call (.Name "range" p) [a] [] b) (EN g):=by
 intro d s M H R I h;refine Call_ (lh I o n boot_range (XU (thn (u b d s M H _ I h) λx s1 ⟨w,y,v,r1,f⟩=>?_) m Y));obtain⟨j,e,f,l,q⟩:=f;subst e;cases r1 with
 |cons r i =>
  cases i;obtain⟨t,rfl⟩:=r;exact call_range_1 (tF v (by lia) (by lia) f l (by simpa using q))
def yS(z:Gl X "range")(y:X.mg "range" = L)(A:PA X [a,b] m)(x:{`q2,P3 [a,b] X.env=[(B,eval a X.env),(B,eval b X.env)]})(n:{`q2,P3 [b] X.env=[(B,eval b X.env)]}) :
  PI X tg (.Call (.Name "range" p) [a,b] [] d) (Jb m):=by
 intro f s M H R I h;refine Call_ (lh I z y boot_range (XU (thn (A d f s M H _ I h) λE s1 ⟨D,G,C,r1,l⟩=>?_) (by rw[x,n]) (by rw[n];rfl)));obtain⟨i,j,e,⟨l,w,v,u⟩,q⟩:=l;subst e;cases r1 with
 |cons r g =>
  cases g with
  |cons o g =>
   cases g;obtain⟨t,rfl⟩:=r;obtain⟨F,rfl⟩:=o;exact call_range_2 (tF C l w v u q)
def Jc(e:TI)(g:TG)(f:TS):TS:=λD M H=>e M H λJ l=>∃W:Nat->Nat->St->Hp->Prop,(∃m,W 0 m M l)/\∀i m M H,W i m M H →
 (J.stop i H/\D.nx M H)\/(J.go i H/\∃N:St->Hp->Prop,(∀d a,N d a->∃b,b<m/\W (i+1) b d a)/\∀x a,J.T6 i H x a->g x M a λh j=>f { D with nx:=N,ct:=N,bk:=D.nx } h j)
noncomputable def pL(a:Wc)(h:UF):Z2:=a.filterMap λb=>(h.get? b).map λo=>(b,o)
def iU{h:UF}(d:b∈a)(e:h.get? b=Z o):(b,o)∈pL a h:=List.mem_filterMap.mpr ⟨b,d,by rw[e];rfl⟩
def y9(d:p∈pL a h):p.1∈a/\h.get? p.1=Z p.2:=by
 obtain⟨b,hb,e⟩:=List.mem_filterMap.mp d;cases q:h.get? b with
 |none=>rw[q]at e;cases e
 |some o =>
  rw[q]at e;have f:=Zh e;subst f;exact⟨hb,q⟩
def Inv.pinned(I:Inv X a M H s)(j:∀b∈f,jq X a H b)(i:∀b∈f,∃o,s.heap.get? b=Z o/\∀v,o.data ≠ .cell v):Inv X (a++pL f s.heap) M H s :=
 I.Nf λp h=>(ZW.mp h).elim (λz=>I.pin p (ZP _ z)) λz=>by
  obtain⟨hb,e⟩:=y9 z;obtain⟨l,f1,f2,_⟩:=j p.1 hb;obtain⟨o,g,d⟩:=i p.1 hb;rw[e]at g;cases g;exact⟨e,l,f1,f2,d⟩
def Inv.Lk(I:Inv X (a++b) M H s):Inv X a M H s:=I.Nf λp d=>I.pin p (ZP _ (Ye _ d))
def B6{X:Cx}{pos:Pos}(F:PassesOwn (KF X.prog X.w) X.A X.env X.xe)(hc:X.calm=true)(hi:PI X tg j wi)(hg:PG X tg g)(l:LZ X C tb)(hs:{`q3,∀x,XAB j X.env x=pure x}):PS X (.For tg j C [] pos) (Jc wi g tb):=by
 intro a s M H D I h;refine wpAny_For (thn (hi a s M H _ I h) λv s1 h1=>thn h1 λV3 s2 h2=>?_) hs;obtain⟨it,fp,tn,J,H2,e,I2,T,Ug,f2,W,⟨m0,w0⟩,turn⟩:=h2;subst e;have MP:∀{y:Hp},(∀b∈fp,y b=L)->∀b∈fp,jq X a y b:=λhn b l=>⟨hn b l,(f2 b l).2⟩
 refine codeAny_forLoop_any (λn s'=>∃i O y,Inv X a O y s'/\tn i s'.heap/\(∀b∈fp,y b=L)/\W i n O y) ?_ m0 ⟨0,M,H2,I2,Ug,λb l=>(f2 b l).1,w0⟩;rintro n s3 ⟨i,G,P,I3,Pu,Tn,w3⟩;rcases turn i n G P w3 with⟨stop,qn⟩ | ⟨go,N,hN,step⟩
 ·refine XT F (thn (T.done X Y Y Y hc i a s3 G P X.xe I3 (MP Tn) Pu stop) λr s4 ⟨R,I4⟩=>?_);subst R;exact W9 ⟨G,P,I4,qn⟩
 ·refine XT F (thn (T.item X Y Y Y hc i a s3 G P X.xe I3 (MP Tn) Pu go) λr s4 ⟨u,R,h4⟩=>?_);subst R;refine XT F (thn h4 λ_ s5 ⟨x,H5,I5,r5,y5,U,S⟩=>?_);refine XT F (thn (hg _ s5 G H5 x u _ (I5.pinned (MP S) (T.obj _ _ U)) r5 (step x H5 y5)) λ_ s6 ⟨M6,H6,I6,q6⟩=>?_);refine XT F (thn (l _ s6 M6 H6 _ I6 q6) λf Q z=>?_);have again:∀{p:St}{t:Hp},Inv X (a++pL fp s5.heap) p t Q->N p t->∃m,m<n/\∃i O y,Inv X a O y Q/\tn i Q.heap/\(∀b∈fp,y b=L)/\W i m O y:=λ{p t} q E=>by
   obtain⟨m',hm,w7⟩:=hN p t E;refine⟨m',hm,i+1,p,t,q.Lk,T.keep _ _ _ U λb l o e=>(q.pin (b,o) (ZP _ (ZP _ (iU l e)))).1,λb l=>?_,w7⟩;obtain⟨o,e,d⟩:=T.obj _ _ U b l;exact(q.pin (b,o) (ZP _ (ZP _ (iU l e)))).2.1
  cases f with
  |next=>obtain⟨p,t,q,E⟩:=z;exact again q E
  |cont=>obtain⟨p,t,q,E⟩:=z;exact again q E
  |brk=>obtain⟨p,t,q,z⟩:=z;exact⟨p,t,q.Lk,z⟩
  |ret v=>obtain⟨x7,p,t,q,r7,z⟩:=z;exact⟨x7,p,t,q.Lk,r7,z⟩
end
abbrev R2:=V->V->Hp->VK->Prop
def OpR(X:Cx)(f:PP->PP->Sem PP)(r:R2):Prop :=
 ∀(a:Z2)(s:KB)(M:St)(H:Hp)(x y:V)(v u:PP)(Q:VK),Inv X a M H s->RelV x v->RelV y u->r x y H Q →
  Pi (KF X.prog X.w) X.A (f v u) (EP X a M Q) X.xe s
def UnR(X:Cx)(f:PP->Sem PP)(r:V->Hp->VK->Prop):Prop :=
 ∀(a:Z2)(s:KB)(M:St)(H:Hp)(x:V)(v:PP)(Q:VK),Inv X a M H s->RelV x v->r x H Q →
  Pi (KF X.prog X.w) X.A (f v) (EP X a M Q) X.xe s
def dA(X:Cx)(f:PP)(r:List V->Hp->VK->Prop):Prop :=
 ∀(a:Z2)(s:KB)(M:St)(H:Hp)(b:List V)(d:Wa)(Q:VK),Inv X a M H s->aQ b d->r b H Q →
  Pi (KF X.prog X.w) X.A (call f d) (EP X a M Q) X.xe s
def Jw(X:Cx)(r:V->Hp->(Bool->Hp->Prop)->Prop):Prop :=
 ∀(a:Z2)(s:KB)(M:St)(H:Hp)(x:V)(v:PP)(Q:Bool->Hp->Prop),Inv X a M H s->RelV x v->r x H Q →
  Pi (KF X.prog X.w) X.A (truthy v) (TP X a M Q) X.xe s
noncomputable def Rz(r:R2)(ta a:TE):TE:=λM H Q=>ta M H λx d=>a M d λy b=>r x y b Q
noncomputable def tUn(r:V->Hp->VK->Prop)(ta:TE):TE:=λM H Q=>ta M H λx a=>r x a Q
noncomputable def rI(C:Int->Int->Prop)(g:Int->Int->V):R2:=λx y H Q=>∃i j,x=.int i/\y=.int j/\C i j/\Q (g i j) H
noncomputable def ND(g:Int->Int->V):R2:=λx y H Q=>∃i j,x=.int i/\y=.int j/\Q (g i j) H
noncomputable def rU(g:Int->V):V->Hp->VK->Prop:=λx H Q=>∃i,x=.int i/\Q (g i) H
section
def E7{X:Cx}{a b:Expr}{ta tb:TE}(q:PE X a ta)(p:PE X b tb){d:Z2}{s:KB}{M:St}{H:Hp}{R:V->V->Hp->Prop}(I:Inv X d M H s)(h:ta M H λx i=>tb M i λy e=>R x y e){Q:Z0}{f:PP->PP->Sem PP}(o:∀v u g x y e,Inv X d M e g->RelV x v->RelV y u->R x y e->Pi (KF X.prog X.w) X.A (f v u) Q X.xe g) :
  Pi (KF X.prog X.w) X.A (eval a X.env) (λv l=>Pi (KF X.prog X.w) X.A (eval b X.env) (λu j=>Pi (KF X.prog X.w) X.A (f v u) Q X.xe j) X.xe l) X.xe s:=by
 refine thn (q d s M H _ I h) λv s1 ⟨x,i,t,r1,n⟩=>?_;refine thn (p d s1 M i _ t n) λu g ⟨y,e,r,r2,m⟩=>?_;exact o v u g x y e r r1 r2 m
def Ek(j:OpR X (binaryOp e) r)(m:PE X a ta)(l:PE X b tb):PE X (.BinOp a e b pos) (Rz r ta tb):=by
 intro d s M H Q I h;exact wpAny_BinOp (E7 m l I h λv u f x y o n i g q=>j d f M o x y v u Q n i g q)
def II(g:UnR X (unaryOp e) r)(i:PE X a ta):PE X (.UnaryOp e a pos) (tUn r ta):=by
 intro d s M H Q I h;exact UnaryOp_ (thn (i d s M H _ I h) λv s1 ⟨x,l,j,r1,f⟩=>g d s1 M l x v Q j r1 f)
def VD{X:Cx}{f:PP->PP->Sem PP}{C:Int->Int->Prop}{g:Int->Int->Int}(d:∀(i j:Int)(t u:Tok)(s:KB)(Q:Z0)(E:Z0),C i j->Q (.int (g i j) s.toks) { s with toks:=s.toks+1 }->Pi (KF X.prog X.w) X.A (f (.int i t) (.int j u)) Q E s) :
  OpR X f (rI C λi j=>.int (g i j)):=by
 intro e s M H x y v u Q I n m h;obtain⟨i,j,rfl,rfl,o,q⟩:=h;obtain⟨t,rfl⟩:=n;obtain⟨l,rfl⟩:=m;exact d i j t l s _ _ o ⟨.int (g i j),H,I.tok _,⟨_,rfl⟩,q⟩
def HS{X:Cx}{f:PP->PP->Sem PP}{g:Int->Int->Int}(d:∀(i j:Int)(t u:Tok)(s:KB)(Q:Z0)(E:Z0),Q (.int (g i j) s.toks) { s with toks:=s.toks+1 }->Pi (KF X.prog X.w) X.A (f (.int i t) (.int j u)) Q E s) :
  OpR X f (ND λi j=>.int (g i j)):=by
 intro e s M H x y v u Q I n m h;obtain⟨i,j,rfl,rfl,q⟩:=h;obtain⟨t,rfl⟩:=n;obtain⟨l,rfl⟩:=m;exact d i j t l s _ _ ⟨.int (g i j),H,I.tok _,⟨_,rfl⟩,q⟩
def Ge{X:Cx}{f:PP->PP->Sem PP}{g:Int->Int->Bool}(d:∀(i j:Int)(t u:Tok)(s:KB)(Q:Z0)(E:Z0),Q (.bool (g i j)) s->Pi (KF X.prog X.w) X.A (f (.int i t) (.int j u)) Q E s) :
  OpR X f (ND λi j=>.bl (g i j)):=by
 intro e s M H x y v u Q I n m h;obtain⟨i,j,rfl,rfl,q⟩:=h;obtain⟨t,rfl⟩:=n;obtain⟨l,rfl⟩:=m;exact d i j t l s _ _ ⟨.bl (g i j),H,I,rfl,q⟩
noncomputable def HI(i j:Int):Prop:=0<j/\j<1073741824
noncomputable def CZ(i j:Int):Prop:=(-(2 ^ 64)<i/\i<2 ^ 64)\/(-(2 ^ 64)<j/\j<2 ^ 64)
def CZ.ok{i j:Int}(h:CZ i j):IntMulOk i j:=by
 rcases h with⟨e,d⟩ | ⟨e,d⟩
 ·exact .of_left (intBits_le_64 e d)
 ·exact .of_right (intBits_le_64 e d)
def G3:OpR X (binaryOp .Add) (ND λi j=>.int (i+j)):=HS λ_ _ _ _ _ _ _ q=>add_int q
def FW:OpR X (binaryOp .Sub) (ND λi j=>.int (i-j)):=HS λ_ _ _ _ _ _ _ q=>sub_int q
def GR:OpR X (binaryOp .Mult) (rI CZ λi j=>.int (i*j)):=VD λ_ _ _ _ _ _ _ d q=>mul_int q d.ok
def oj:OpR X (binaryOp .FloorDiv) (rI HI λi j=>.int (i/j)):=VD λi j _ _ _ _ _ d q=>by
 have f:=d.1;have e:=d.2;exact floordiv_int (by lia) (by rw[Int.fdiv_eq_ediv_of_nonneg i (by lia)];exact q) (.inl (PyProof.noPylong_small (by omega)))
def Gd:OpR X (binaryOp .Mod) (rI (λ_ j=>0<j) λi j=>.int (i%j)):=VD λi j _ _ _ _ _ d q=>by
 exact mod_int' (by lia) (by rw[Int.fmod_eq_emod_of_nonneg i (by lia)];exact q)
def unI{X:Cx}{f:PP->Sem PP}{g:Int->Int}(d:∀(i:Int)(t:Tok)(s:KB)(Q:Z0)(E:Z0),Q (.int (g i) s.toks) { s with toks:=s.toks+1 }->Pi (KF X.prog X.w) X.A (f (.int i t)) Q E s) :
  UnR X f (rU λi=>.int (g i)):=by
 intro e s M H x v Q I j h;obtain⟨i,rfl,q⟩:=h;obtain⟨t,rfl⟩:=j;exact d i t s _ _ ⟨.int (g i),H,I.tok _,⟨_,rfl⟩,q⟩
def FZ:UnR X (unaryOp .USub) (rU λi=>.int (-i)):=unI λ_ _ _ _ _ q=>neg_int q
end
section
def Hg(I:Inv X d M H s)(q:Q (.bl k) H)(e:k=f):EP X d M Q (.bool f) s:=by
 subst e;exact⟨.bl k,H,I,rfl,q⟩
def Il:OpR X (SZ .Lt) (ND λi j=>.bl (decide (i<j))):=Ge λ_ _ _ _ _ _ _ q=>lt_int q
def HB:OpR X (SZ .LtE) (ND λi j=>.bl (decide (i<=j))):=Ge λ_ _ _ _ _ _ _ q=>le_int q
def IW:OpR X (SZ .Gt) (ND λi j=>.bl (decide (j<i))):=Ge λ_ _ _ _ _ _ _ q=>gt_int q
def yZ:OpR X (SZ .Lt) (λx y H Q=>∃i j,x=.str i/\y=.str j/\Q (.bl (decide (i.cps.toList<j.cps.toList))) H):=by
 intro d s M H x y v u Q I f e h;obtain⟨i,j,rfl,rfl,q⟩:=h;obtain⟨t,rfl⟩:=f;obtain⟨g,rfl⟩:=e;exact lt_str (Hg I q Y)
def OpR.or(h:OpR X f r)(j:OpR X f i):OpR X f (λx y H Q=>r x y H Q\/i x y H Q):=by
 intro d s M H x y v u Q I g e q;rcases q with q | q
 ·exact h d s M H x y v u Q I g e q
 ·exact j d s M H x y v u Q I g e q
def kH(b:Expr)(h:{`q1,d ≠ .In})(e:{`q1,d ≠ .NotIn}):behindInMarks d b=B:=by
 have e1:(d==CmpOp.In)=B:=by cases d<;>first | rfl | exact absurd Y h
 have e2:(d==CmpOp.NotIn)=B:=by cases d<;>first | rfl | exact absurd Y e
 cases b<;>simp[behindInMarks,e1,e2]
def D3(j:OpR X (SZ e) r)(n:PE X a ta)(m:PE X b tb)(l:behindInMarks e b=B):PE X (.Compare a [e] [b] pos) (Rz r ta tb):=by
 intro d s M H Q I h;exact wpAny_Compare1 (E7 n m I h λv u f x y p o i g q=>j d f M p x y v u Q o i g q) l
noncomputable def AC(t:TE):TT:=λM H Q=>t M H λx d=>∃k,x=.bl k/\Q k d
def yb(n:OpR X (SZ f) r)(q:PE X a ta)(p:PE X b tb)(o:behindInMarks f b=B):PT X (.Compare a [f] [b] pos) (AC (Rz r ta tb)):=by
 intro d s M H Q I h;refine wpAny_isTrue_Compare1 (thn (q d s M H _ I h) λv s1 ⟨x,E,A,r1,m⟩=>thn (p d s1 M E _ A m) λu g ⟨y,D,w,r2,l⟩ =>
  thn (n d g M D x y v u _ w r1 r2 l) λc F ⟨z,C,t,i,k,e,j⟩=>?_) o
 subst e;cases i;exact YJ ⟨C,t,j⟩
noncomputable def zU(r h:R2)(ta g f:TE):TE:=λM H Q=>ta M H λx l=>g M l λy j=>r x y j λz d=>∃k,z=.bl k ∧
 (if k=J then f M d λe i=>h y e i Q else Q (.bl B) d)
def tN(P:OpR X (SZ g) r)(MW:OpR X (SZ i) j)(Y:PE X a ta)(U:PE X b tb)(S:PE X c tc)(R:{`q4,lastMarks [g,i] [b,c]=B}):PT X (.Compare a [g,i] [b,c] pos) (AC (zU r j ta tb tc)):=by
 intro f s M H Q I h;refine isTrue_chain (thn (Y f s M H _ I h) λv s1 ⟨x,H1,I1,r1,N⟩=>test_link (thn (U f s1 M H1 _ I1 N) λu w ⟨y,H2,I2,r2,G⟩ =>
  thn (P f w M H2 x y v u _ I2 r1 r2 G) λd t ⟨z,n,m,D,k,e,l⟩=>?_)) R
 subst e;cases D;refine YJ ?_;cases k with
 |false =>
  obtain⟨k',e',O⟩:=l;cases e';exact ite_ff ⟨n,m,O⟩
 |true =>
  refine ite_tt (test_last (thn (S f t M n _ m l) λp q ⟨o,H4,I4,C,F⟩=>thn (MW f q M H4 y o u p _ I4 r2 C F) λd' s5 ⟨z2,H5,I5,A,k2,e2,E⟩=>?_));subst e2;cases A;exact YJ ⟨H5,I5,E⟩
def Fm(K:X3)(x:V)(H:Hp)(k:Bool):Prop :=
 match x with
 |.non=>k=B
 |.bl b=>k=b
 |.int i=>k=(i != 0)
 |.str y=>y.length<=KM/\k=((y.length:Int) != 0)
 |.byt y=>y.size<=KM/\k=((y.size:Int) != 0)
 |.ref p=>(∃d,Kb K H p d/\k=!d.isEmpty)\/(∃d,Li K H p d/\k=!d.isEmpty)\/∃e,H p=Z (.dK e)/\k=!e.isEmpty
 |_=>False
def vS{κ:Type}{e:List (κ×V)}{d:List (κ×PP)}(r:KV e d):(!d.isEmpty)=!e.isEmpty:=by
 cases r<;>rfl
def oB(r:aQ d e):(!e.toArray.isEmpty)=!d.isEmpty:=by
 cases r<;>simp
def rC:(KM:Nat)<2 ^ 63:=by rw[XX];decide
def Gc:Jw X (λx H Q=>∃k,Fm X.K x H k/\Q k H):=by
 intro n s M H x v Q I f h;obtain⟨k,e,q⟩:=h;have D:=XX;cases x with
 |non =>
  cases f;subst e;exact truthy_none ⟨H,I,q⟩
 |bl b =>
  cases f;subst e;exact YJ ⟨H,I,q⟩
 |int i =>
  obtain⟨t,rfl⟩:=f;subst e;exact PySem.P.truthy_int ⟨H,I,q⟩
 |str y =>
  obtain⟨t,rfl⟩:=f;obtain⟨C,d⟩:y.length<=KM/\k=((y.length:Int) != 0):=e;subst d;exact PySem.P.truthy_str (by lia) ⟨H,I.tok _,q⟩
 |byt y =>
  obtain⟨t,rfl⟩:=f;obtain⟨C,d⟩:y.size<=KM/\k=((y.size:Int) != 0):=e;subst d;exact PySem.W.truthy_bytes (by lia) ⟨H,I.tok _,q⟩
 |ref p =>
  cases f;have d:=e;rcases d with⟨z,g,d⟩ | ⟨z,g,d⟩ | ⟨o,g,d⟩
  ·subst d;obtain⟨A,r,l,u⟩:=I.list g;have hlen:=r.length;exact wpAny_truthy_list l.isList (by simp only[ZM];lia) ⟨H,I.tok _,by rw[oB r];exact q⟩
  ·subst d;obtain⟨A,r,l,u⟩:=I.tuple g;have hlen:=r.length;exact truthy_tuple l (by simp only[ZM];lia) ⟨H,I.tok _,by rw[oB r];exact q⟩
  ·subst d;obtain⟨u,hS,j,r,m⟩:o.length<=KM/\(p==sysModules)=B/\∃j,KV o j/\s.heap.DictOf (aU X.prog X.w) p j:=I.JZ p _ g;have hlen:=X6 r;exact wpAny_truthy_dict hS m (by lia) ⟨H,I.tok _,by rw[vS r];exact q⟩
 |_=>exact(e).elim
def zX(g:PE X a ta)(he:∀whole,isTrue a X.env whole=(do let v ← whole;standAt a.pos;holding [v] (truthy v))) :
  PT X a (λM H Q=>ta M H λx e=>∃k,Fm X.K x e k/\Q k e):=by
 intro d s M H Q I h;exact isTrue_plain (thn (g d s M H _ I h) λv s1 ⟨x,j,i,r1,f⟩=>Gc d s1 M j x v Q i r1 f) (he _)
def vQ:OpR X (binaryOp .Add) (λx y H Q=>∃i j,x=.str i/\y=.str j/\i.length+j.length<=KM/\Q (.str (i++j)) H):=by
 intro d s M H x y v u Q I g f h;obtain⟨i,j,rfl,rfl,l,q⟩:=h;obtain⟨t,rfl⟩:=g;obtain⟨e,rfl⟩:=f;exact add_str (λe m=>⟨.str (i++j),H,I.tok _,⟨_,rfl⟩,q⟩) l
def vals1(r:aQ [x] d):∃u,d=[u]/\RelV x u:=by
 cases r with
 |cons r1 r2=>cases r2;exact⟨_,rfl,r1⟩
def vals2(r:aQ [x,y] e):∃u d,e=[u,d]/\RelV x u/\RelV y d:=by
 cases r with
 |cons r1 r2 =>
  cases r2 with
  |cons g f=>cases f;exact⟨_,_,rfl,r1,g⟩
def Ji(K:X3)(x:V)(H:Hp)(n:Nat):Prop :=
 match x with
 |.str y=>y.length<=KM/\n=y.length
 |.byt y=>y.size<=KM/\n=y.size
 |.ref p=>(∃d,Kb K H p d/\n=d.length)\/∃d,Li K H p d/\n=d.length
 |_=>False
def Bf:dA X (.builtin "len") (λf H Q=>∃x n,f=[x]/\Ji X.K x H n/\Q (.int n) H):=by
 intro m s M H f z Q I r h;obtain⟨x,n,rfl,e,q⟩:=h;obtain⟨u,rfl,g⟩:=vals1 r;have A:=XX;cases x with
 |str y =>
  obtain⟨t,rfl⟩:=g;obtain⟨w,d⟩:y.length<=KM/\n=y.length:=e;subst d;exact len_str (by lia) ⟨.int _,H,I.tok _,⟨_,rfl⟩,q⟩
 |byt y =>
  obtain⟨t,rfl⟩:=g;obtain⟨w,d⟩:y.size<=KM/\n=y.size:=e;subst d;exact PySem.W.len_bytes (by lia) ⟨.int _,H,I.tok _,⟨_,rfl⟩,q⟩
 |ref p =>
  cases g;have d:=e;rcases d with⟨f,l,d⟩ | ⟨f,l,d⟩
  ·subst d;obtain⟨o,i,j,v⟩:=I.list l;have hlen:=i.length;exact Calls.call_len_list j.isList (by simp only[ZM];lia) ⟨.int f.length,H,I.tok _,⟨_,by simp only[ZM];rw[hlen]⟩,q⟩
  ·subst d;obtain⟨o,i,j,v⟩:=I.tuple l;have hlen:=i.length;exact len_tuple j (by simp only[ZM];lia) ⟨.int f.length,H,I.tok _,⟨_,by simp only[ZM];rw[hlen]⟩,q⟩
 |_=>exact(e).elim
end
structure Nb(h:UF)(x dx C:On)(mA:Wi):Prop where
 obj:h.get? x=some (PySem.W.instObj C dx)
 ns:h.Ns1 dx mA
 ne:dx≠x
def yI{h:UF}(n:h.Ns1 g f):∃d,h.get? g=Z d/\∀name,PySem.W.lookIn name d=Z (f name):=by
 obtain⟨o,p,r,j,hd,m,_,l⟩:=n;refine⟨o,j,λname=>?_⟩;have e:=l name;unfold nsFind findBy at e;rw[← Array.find?_toList]at e;unfold PySem.W.lookIn;rw[hd];dsimp only;split
 ·rename_i y q;rw[q]at e;exact congrArg Z e
 ·rename_i q;rw[q]at e;have a:p.toList.any (·.refKey)=B:=by
   rw[List.any_eq_false];intro y i;obtain⟨z,t,b⟩:=m y (Array.mem_toList_iff.mp i);simp[DictEntry.refKey,b]
  rw[Zn (by rw[a];exact ZX)];exact congrArg Z e
def Nb.look{x:On}(I:Nb h x d C b):∃a,PySem.W.InstAt h x (PySem.W.instObj C d) C (Z a)/\∀name,PySem.W.lookIn name a=Z (b name) :=
 let ⟨a,e,f⟩:=yI I.ns
 ⟨a,⟨I.obj,rfl,rfl,e⟩,f⟩
section
variable{K:X3}
def get_map{s:KB}(X:K.In s.heap)(I:Nb s.heap x dx C mA)(i:PySem.W.plainGet K C name=true)(g:PySem.W.hasDictIn K C=true)(j:PySem.W.findIn K (.ref C) name=Z L)(d:mA name=Z v)(b:PySem.W.handedIn v=true)(h:Q v { s with toks:=s.toks+1 }) :
  Pi (KF prog w) A (getAttr (.ref x) name a) Q E s:=by
 obtain⟨l,J,e⟩:=I.look;exact PySem.W.get_value X J (W6 i).1 (PySem.W.findObj_own g j Y (by rw[e,d])) b h
def BK{s:KB}(X:K.In s.heap)(I:Nb s.heap x dx C mA)(a:PySem.W.plainGet K C name=true)(j:PySem.W.findIn K (.ref C) name=Z (Z (.ref f)))(g:PySem.W.isFn K (.ref f)=true)(e:mA name=L)(h:Q (.ref f,[.ref x]) s) :
  Pi (KF prog w) A (getMethod (.ref x) name b) Q E s:=by
 obtain⟨d,J,i⟩:=I.look;exact PySem.W.method_fn X J (W6 a).1 (W6 a).2 j (beq_iff_eq.mp g) (by show (PySem.W.lookIn name d).map (·.isSome)=Z B;rw[i,e];rfl) h
def CU{s:KB}(X:K.In s.heap)(I:Nb s.heap x dx C mA)(p:PySem.W.findIn K (.ref C) "__setattr__" = Z (Z (.builtin "object.__setattr__")))(q:PySem.W.plainOver K C=true)(o:PySem.W.takerIn K C name=Z L)(r:PySem.W.hasDictIn K C=true)(hw:PySem.Within mA l)(d:l.length<=KM)(h:∀a,Nb a x dx C (λy=>if y=name then Z v else mA y)->Heap.SameBut dx s.heap a->Q () { s with heap:=a,toks:=s.toks+2 }) :
  Pi (KF prog w) A (setAttr (.ref x) name v) Q E s:=by
 obtain⟨D,J,G⟩:=I.look;refine PySem.W.set_plain X J p (PySem.W.osa_open X J q o λb=>?_);obtain⟨cd,t,i⟩:=PySem.W.any_some r;refine Zv (Zl (Zv (Zv (wpAny_loadPart I.obj (Zv (PySem.W.Looks.here (PySem.W.looks_clsIn X t) ?_))))));rw[i];refine Zl (Zv (Zl (Zv ?_)));refine wpAny_nsSet1 I.ns λa m n=>?_;obtain⟨F,u,z,e,g,j⟩:=m.count (PySem.Within.cons name v hw);refine Zv (wpAny_lookBehind e (by rw[g];exact pastItsLine_dict (ZJ j (by rw[Zi];exact Xj d))) ?_);exact Zl (h _ ⟨(n.2 _ (Yy I.ne)).trans I.obj,m,I.ne⟩ n)
def BS{A:SC}{s:KB}(X:K.In s.heap)(e:PySem.W.makesIn K C=J)(i:PySem.W.findIn K (.ref C) "__init__" = Z (Z (.ref f)))(j:PySem.W.typeIn K (.ref f)=Z (.type "function"))(h:codeAny (KF prog w) (A.under (.builtin "type.__call__" ⟨.ref C :: a,b⟩)) (.call (.ref f) ⟨.ref (s.heap.objs.size+1) :: a,b⟩) (PySem.W.InitBack (s.heap.objs.size+1) R)
   { s with heap:=(s.heap.push PySem.W.emptyDict).push (PySem.W.instObj C s.heap.objs.size) }) :
  codeAny (KF prog w) A (.call (.ref C) ⟨a,b⟩) R s:=by
 obtain⟨l,g,d,t,os⟩:=s;exact PySem.W.make_core (PySem.W.makes_of X e) (PySem.W.looks_findIn X i) (λself=>PySem.W.bind_fn X self j) (.inl Y) h
end
noncomputable def jA(f:Str)(v:V):List (Str×V)->List (Str×V)
 |[]=>[(f,v)]
 | (g,x) :: r=>if g=f then (g,v) :: r else (g,x) :: jA f v r
theorem nh(f g:Str)(v:V):∀fs:List (Str×V),(jA f v fs).lookup g=if g=f then Z v else fs.lookup g
 |[]=>by
  show List.lookup g [(f,v)]=_;by_cases h:g=f
  ·simp only[List.lookup,(beq_iff_eq.mpr h),Zp h]
  ·simp only[List.lookup,(beq_eq_false_iff_ne.mpr h),Zn h]
 | (k,x) :: r=>by
  rw[show jA f v ((k,x) :: r)=(if k=f then (k,v) :: r else (k,x) :: jA f v r) from rfl];by_cases a:k=f
  ·rw[Zp a];by_cases h:g=k
   ·simp only[List.lookup,(beq_iff_eq.mpr h),Zp (h.trans a)]
   ·simp only[List.lookup,(beq_eq_false_iff_ne.mpr h),Zn (λe:g=f=>h (e.trans a.symm))]
  ·rw[Zn a];by_cases h:g=k
   ·simp only[List.lookup,(beq_iff_eq.mpr h),Zn (λe:g=f=>a (h.symm.trans e))]
   ·simp only[List.lookup,(beq_eq_false_iff_ne.mpr h)];exact(nh f g v r)
theorem mP(f:Str)(v:V):∀fs:List (Str×V),f∈(jA f v fs).map (·.1)/\∀g,g∈fs.map (·.1)->g∈(jA f v fs).map (·.1)
 |[]=>⟨by simp[jA],λg h=>by simp at h⟩
 | (k,x) :: r=>by
  obtain⟨d,b⟩:=mP f v r;rw[show jA f v ((k,x) :: r)=(if k=f then (k,v) :: r else (k,x) :: jA f v r) from rfl];by_cases a:k=f
  ·rw[Zp a];subst a;exact⟨by simp,λg h=>by simpa using h⟩
  ·rw[Zn a];refine⟨?_,λg h=>?_⟩
   ·rw[Zg];exact Zy _ d
   ·rw[Zg]at h ⊢;rcases Zo.mp h with e | e
    ·exact Zo.mpr (.inl e)
    ·exact Zy _ (b g e)
theorem ng(f:Str)(v:V):∀fs:List (Str×V),(jA f v fs).length<=fs.length+1
 |[]=>by simp[jA]
 | (k,x) :: r=>by
  rw[show jA f v ((k,x) :: r)=(if k=f then (k,v) :: r else (k,x) :: jA f v r) from rfl];by_cases a:k=f
  ·rw[Zp a,Zi,Zi];exact YU _ _
  ·rw[Zn a,Zi,Zi];exact Xj (ng f v r)
def jV.some_of{v:V}(r:jV (Z v) o):∃u,o=Z u/\RelV v u:=by
 cases o with
 |none=>exact(r).elim
 |some u=>exact⟨u,rfl,r⟩
def jV.none_of(r:jV L o):o=L:=by
 cases o with
 |none=>rfl
 |some u=>exact(r).elim
def zq(r:RelV v u):PySem.W.handedIn u=J:=by
 cases v with
 |non=>cases (r);rfl
 |bl b=>cases (r);rfl
 |int i=>obtain⟨t,e⟩:=(r);cases e;rfl
 |str x=>obtain⟨t,e⟩:=(r);cases e;rfl
 |byt b=>obtain⟨t,e⟩:=(r);cases e;rfl
 |flt b=>obtain⟨t,e⟩:=(r);cases e;rfl
 |ref a=>cases (r);rfl
 |ty n=>cases (r);rfl
section
variable{H:Hp}
def ka(i:Lj P w H h)(e:H a=Z (.ins C dx fs)):∃b,Nb h a dx C b/\(∀f,jV (fs.lookup f) (b f))/\PySem.Within b (fs.map (·.1))/\fs.length<=1000/\H dx=Z (.own a):=by
 obtain⟨d,z,ne,g,b,n,r,q⟩:=(i a _ e)
 exact⟨b,⟨g,n,ne⟩,r,q,z,d⟩
end
structure LV(K:X3)(C:On):Prop where
 pg:PySem.W.plainGet K C Str.empty=true
 hd:PySem.W.hasDictIn K C=true
 po:PySem.W.plainOver K C=true
 sa:PySem.W.findIn K (.ref C) "__setattr__" = some (some (.builtin "object.__setattr__"))
def LV.get{K:X3}(c:LV K C)(f:Str):PySem.W.plainGet K C f=J:=c.pg
def dz(K:X3)(C:On)(f:Str):Prop:=PySem.W.findIn K (.ref C) f=Z L
def dz.R9{K:X3}(n:dz K C f):PySem.W.takerIn K C f=Z L:=by
 unfold PySem.W.takerIn;rw[n];rfl
structure Meth(K:X3)(C:On)(m:Str)(f:On):Prop where
 at_:PySem.W.findIn K (.ref C) m=some (some (.ref f))
 fn:PySem.W.isFn K (.ref f)=true
 kp:PySem.W.keepIn K (.ref f)=true
section
variable{H:Hp}
def wc(I:Inv X pins M H s)(e:H a=Z (.ins C dx fs))(c:LV X.K C)(n:dz X.K C f)(l:fs.lookup f=Z v)(h:∀u d,Inv X pins M H d->RelV v u->Q u d):Pi (KF X.prog X.w) A (getAttr (.ref a) f b) Q E s:=by
 obtain⟨m,j,r,_,_,_⟩:=ka I.JZ e;obtain⟨u,i,g⟩:=jV.some_of (v:=v) (by rw[← l];exact r f);exact get_map I.Ly j (c.get f) c.hd n i (zq g) (h u _ (I.tok _) g)
def oE(I:Inv X pins M H s)(e:H a=Z (.ins C dx fs))(c:LV X.K C)(k:Meth X.K C m g)(l:fs.lookup m=L)(h:Q (.ref g,[.ref a]) s):Pi (KF X.prog X.w) A (getMethod (.ref a) m b) Q E s:=by
 obtain⟨i,d,r,_,_,_⟩:=ka I.JZ e;exact BK I.Ly d (c.get m) k.at_ k.fn (jV.none_of (by rw[← l];exact r m)) h
def wj(I:Inv X pins M H s)(e:H a=Z (.ins C dx fs))(c:LV X.K C)(n:dz X.K C f)(G:fs.length<1000)(t:RelV y u)(h:∀l,Inv X pins M (upd H a (.ins C dx (jA f y fs))) l->Q () l):Pi (KF X.prog X.w) A (setAttr (.ref a) f u) Q E s:=by
 obtain⟨D,i,r,j,_,m⟩:=ka I.JZ e;refine CU I.Ly i c.sa c.po n.R9 c.hd j (by rw[Zt,XX];lia) λN d p=>h _ ?_;refine I.write (x:=a) (e:=dx) (by rw[e];exact True.intro) (.inr m) (λb q hb z=>(p.2 b hb).trans z) (let ⟨o,_,_,F,_⟩:=d.ns;⟨o,F⟩) ?_;refine⟨by rw[aw i.ne];exact m,?_,i.ne,d.obj,_,d.ns,λg=>?_,λg hg=>?_⟩
 ·have:=ng f y fs;lia
 ·rw[nh];by_cases q:g=f
  ·rw[Zp q,Zp q];exact t
  ·rw[Zn q,Zn q];exact r g
 ·by_cases q:g=f
  ·rw[q];exact(mP f y fs).1
  ·refine(mP f y fs).2 g (j g λz=>hg ?_);show (if g=f then Z u else D g)=L;rw[Zn q];exact z
def Inv.made(I:Inv X pins M H s):Inv X pins M (upd (upd H s.heap.objs.size (.own (s.heap.objs.size+1))) (s.heap.objs.size+1) (.ins C s.heap.objs.size []))
  { s with heap:=(s.heap.push PySem.W.emptyDict).push (PySem.W.instObj C s.heap.objs.size) }:=by
 have e1:(s.heap.push PySem.W.emptyDict).get? s.heap.objs.size=Z PySem.W.emptyDict:=Zc s.heap Y;have g:=I.laid (o:=.own (s.heap.objs.size+1)) (t':=s.toks) (λb u q=>Zm _ q) (Zk _) ⟨_,e1⟩;refine g.laid (λb u q=>Zm _ q) (XH (Ya _ _)) ?_;have ne:s.heap.objs.size≠s.heap.objs.size+1:=Zf (Z3 _);refine⟨by rw[aw ne,aq],Yk _,ne,(by
  have:=Zc (s.heap.push PySem.W.emptyDict) (o:=PySem.W.instObj C s.heap.objs.size) Y
  rwa [Ya]at this),λ_=>L,(Heap.Ns1.of_empty (⟨PySem.W.emptyDict,#[],_,e1,rfl,(λe he=>absurd he (by simp)),λ_=>rfl⟩)).at λo q=>Zm _ q,λ_=>True.intro,λy d=>absurd Y d⟩
def Cr{f:Str}{s:KB}(j:XAA e f d (eval e d)=eval e d)(h:Pi (KF b w) A (eval e d) (λo i=>Pi (KF b w) A (getAttr o f J) Q E i) E s):Pi (KF b w) A (eval (.Attribute e f g) d) Q E s :=
 Attribute_any_ h (by rw[arm_eval_Attribute,j])
end
def JI(K:X3)(ta:TE)(f:Str):TE:=λM H Q=>ta M H λx b=>∃a C d fs v,x=.ref a/\b a=Z (.ins C d fs)/\LV K C/\dz K C f/\fs.lookup f=Z v/\Q v b
def JP(K:X3)(ta e:TE)(f:Str):TS:=λD M H=>e M H λy g=>ta M g λx d=>∃a C b fs,x=.ref a/\d a=Z (.ins C b fs)/\LV K C/\dz K C f/\fs.length<1000 ∧
 D.nx M (upd d a (.ins C b (jA f y fs)))
section
def A4(he:PE X e ta)(i:XAA e f X.env (eval e X.env)=eval e X.env):PE X (.Attribute e f pos) (JI X.K ta f):=by
 intro b s M H Q I h;refine Cr i (thn (he b s M H _ I h) λu s1 ⟨x,r,p,d,a,C,y,fs,v,ex,j,c,n,l,q⟩=>?_);subst ex;obtain rfl:u=Value.ref a:=d;exact wc p j c n l λt w m g=>⟨v,r,m,g,q⟩
def GT{pos:Pos}(r:PE X o ta)(m:PE X value tv)(p:swapsWith value (Z (.Attribute o f pos')) pos.line X.env=pure B):PS X (.Assign [.Attribute o f pos'] value pos) (JP X.K ta tv f):=by
 intro b s M H D I h;refine plainObj_wpAny_Assign_Attribute (thn (m b s M H _ I h) λu s1 ⟨y,A,z,d,q⟩=>thn (r b s1 M A _ z q) λj F ⟨x,N,w,g,a,C,G,fs,ex,t,c,n,l,i⟩=>?_) p;subst ex;obtain rfl:j=Value.ref a:=g;exact wj w t c n l d λE v=>⟨M,_,v,i⟩
end
section
variable{H:Hp}
inductive Lo(K:X3)(H:Hp):V->PP->Prop where
 |non:Lo K H .non (.type "NoneType")
 |bl (x:Bool):Lo K H (.bl x) (.type "bool")
 |int (i:Int):Lo K H (.int i) (.type "int")
 |str (x:Str):Lo K H (.str x) (.type "str")
 |flt (x:UInt64):Lo K H (.flt x) (.type "float")
 |lst {a:On} {xs:List V} (e:H a=some (.lst xs)):Lo K H (.ref a) (.type "list")
 |frz {a:On} {o:Obj} {xs:List V} (e:H a=some (.frz o (.lst xs))):Lo K H (.ref a) (.type "list")
 |tup {a:On} {xs:List V} (e:H a=some (.tup xs)):Lo K H (.ref a) (.type "tuple")
 |dK {a:On} {jj:List (Key×V)} (e:H a=some (.dK jj)):Lo K H (.ref a) (.type "dict")
 |dT {a:On} {jj:List (List Key×V)} (e:H a=some (.dT jj)):Lo K H (.ref a) (.type "dict")
 |ins {a C dx:On} {fs:List (Str×V)} (e:H a=some (.ins C dx fs)) (cl:LV K C) (ha:PySem.W.findIn K (.ref C) "__class__" = some (some (.builtin "object.__class__")))
   (hn:PySem.W.specialIn K (.builtin "object.__class__") "__get__" = some (some (.builtin "getset_descriptor.__get__"))) (htk:PySem.W.takesIn K (.builtin "object.__class__")=some true)
   (hm:PySem.W.mroIn K C (.type "object")=some true):Lo K H (.ref a) (.ref C)
def yz(I:Inv X pins M H s)(d:RelV x u)(r:Lo X.K H x t)(e:PySem.W.kitOne X.K t c=Z b)(h:∀v,Q (.bool b) { s with toks:=v }) :
  Pi (KF X.prog X.w) A (call (.builtin "isinstance") [u,c]) Q E s:=by
 cases r with
 |non=>cases (d);exact YN PySem.W.kitx_none I.Ly True.intro e (λz=>nomatch z) h
 |bl y=>cases (d);exact YN PySem.W.kitx_bool I.Ly True.intro e (λz=>nomatch z) h
 |int i=>obtain⟨t,q⟩:=(d);cases q;exact YN PySem.W.kitx_int I.Ly True.intro e (λz=>nomatch z) h
 |str y=>obtain⟨t,q⟩:=(d);cases q;exact YN PySem.W.kitx_str I.Ly True.intro e (λz=>nomatch z) h
 |flt y=>obtain⟨t,q⟩:=(d);cases q;exact YN PySem.W.kitx_float I.Ly True.intro e (λz=>nomatch z) h
 |@lst a l f =>
  cases (d);obtain⟨_,_,n,_,g⟩:=(I.JZ a _ f)
  exact YN PySem.W.kitx_list I.Ly ⟨_,g,rfl⟩ e (λz=>nomatch z) h
 |@frz a Y l f =>
  cases (d);obtain⟨_,_,_,n,_,g⟩:=(I.JZ a _ f)
  exact YN PySem.W.kitx_list I.Ly ⟨_,g,rfl⟩ e (λz=>nomatch z) h
 |@tup a l f =>
  cases (d);obtain⟨_,_,_,_,p⟩:=(I.JZ a _ f)
  obtain⟨o,g,j,_⟩:=p;exact YN PySem.W.kitx_tuple I.Ly ⟨o,g,j⟩ e (λz=>nomatch z) h
 |@dK a D f =>
  cases (d);obtain⟨_,_,S,_,p⟩:=(I.JZ a _ f)
  obtain⟨o,O,P,g,j,_⟩:=p;exact YN PySem.W.kitx_dict I.Ly ⟨o,g,j.1⟩ e (λz=>nomatch z) h
 |@dT a D f =>
  cases (d);obtain⟨_,_,l,_,o,O,P,g,j,_⟩:=(I.JZ a _ f)
  exact YN PySem.W.kitx_dict I.Ly ⟨o,g,j.1⟩ e (λz=>nomatch z) h
 |@ins a C dx fs f cl N F m G =>
  cases (d);obtain⟨mA,R,_⟩:=ka I.JZ f;obtain⟨U,J,_⟩:=R.look;exact YN (PySem.W.kitx_own (cl.get _) cl.hd N F m G) I.Ly J e (λz=>nomatch z) h
end
structure JY(k:Nat)(A:SC):Prop where
 hd:A.handled=none
 dp:A.depth+3*k+5<recursionLimit
 un:A.units+16*k+200<cLine
def JY.mono{k:Nat}(r:JY k A)(h:j<=k):JY j A:=⟨r.hd,by have:=r.dp;lia,by have:=r.un;lia⟩
theorem JY.deeper(r:JY (k+1) A)(a:Env):JY k (A.deeper a) :=
 ⟨r.hd,by have:=r.dp;show A.depth+1+3*k+5<_;lia,by have:=r.un;show A.units+3+16*k+200<_;lia⟩
theorem JY.in1(r:JY (k+1) A):JY k A.in1 :=
 ⟨r.hd,by have:=r.dp;lia,by have:=r.un;lia⟩
def vD{A:SC}:(A.under (.builtin "type.__call__" ⟨.ref C :: a,b⟩)).depth=A.depth+1:=by
 first | rfl | simp[Around.under,Code.weight,Code.isCreation,Code.isGuard,Code.isCaller,Code.frames,Code.isFrame,guardIds]
def vi{A:SC}:(A.under (.builtin "type.__call__" ⟨.ref C :: a,b⟩)).units=A.units+1:=by
 first | rfl | simp[Around.under,Code.cUnits,Code.frames,Code.isFrame]
def JY.make(r:JY (k+1) A)(C:On)(a:Wa)(b:List (Str×PP)):JY k (A.under (.builtin "type.__call__" ⟨.ref C :: a,b⟩)) :=
 ⟨r.hd,by have:=r.dp;rw[vD];lia,by have:=r.un;rw[vi];lia⟩
theorem JY.depth(r:JY k A):A.depth<recursionLimit:=by have:=r.dp;lia
theorem JY.units(r:JY k A):A.units+64<cLine:=by have:=r.un;lia
noncomputable def AG:TA:=λ_ H Q=>Q [] H
noncomputable def BV(ta:TE)(b:TA):TA:=λM H Q=>ta M H λx e=>b M e λa d=>Q (x :: a) d
section
def dP:PA X [] AG:=λ_ _ _ _ H Q I h=>Calls.spliced_nil ⟨[],H,I,.nil,h⟩
def bW(j:PE X e te)(i:PA X es t)(g:{`q2,K1 e es X}):PA X (e :: es) (BV te t):=by
 intro pos a s M H Q I h;rw[g];refine Calls.spliced_cons (thn (j a s M H _ I h) λu s1 ⟨x,o,m,r1,f⟩=>?_);exact thn (i pos a s1 M o _ m f) λp q ⟨b,n,l,r2,d⟩=>⟨x :: b,n,l,.cons r1 r2,d⟩
def JQ(t:TA):TE:=λM H Q=>t M H λa b=>a.length<=KM/\∀p,b p=L->Q (.ref p) (upd b p (.tup a))
def JK(t:TA):TE:=λM H Q=>t M H λa b=>a.length<=KM/\∀p,b p=L->Q (.ref p) (upd b p (.lst a))
def FR{x1}(h:PA X es t):PE X (.Tuple es x1 pos) (JQ t):=by
 intro a s M H Q I i;refine wpAny_Tuple_spliced (thn (h pos a s M H _ I i) λg s1 ⟨f,j,d,r,z,q⟩=>⟨by rw[← r.length];exact z,?_⟩);refine⟨.ref s1.heap.objs.size,upd j s1.heap.objs.size (.tup f),d.laid (λb u e=>Zm _ e) (Zk _) ?_,rfl,q _ (d.JZ.fresh (Zk _))⟩;exact⟨z,g,r,Pj.of (Zc _ Y) Y,⟨_,Zc _ Y,rfl,_,rfl⟩⟩
def rA(h:PA X es t):PE X (.List es pos) (JK t):=by
 intro a s M H Q I i;refine wpAny_List_spliced (thn (h pos a s M H _ I i) λg s1 ⟨f,j,d,r,z,q⟩=>⟨by rw[← r.length];exact z,?_⟩);refine⟨.ref s1.heap.objs.size,upd j s1.heap.objs.size (.lst f),d.laid (λb u e=>Zm _ e) (Zk _) ?_,rfl,q _ (d.JZ.fresh (Zk _))⟩;exact⟨z,g,0,r,Zc _ Y⟩
end
abbrev Sp:=List V->Hp->VK->XK->Prop
abbrev Ov:=List Env->Hp->KB->XK->Z0
structure Env0(P:SB)(w:UV)(K:X3)(mg:Wi)(base:UF)(A:SC)(outer:List Env)(s:KB)(H:Hp):Prop where
 frames:A.frames=some outer
 mod:Mod K mg base
 tb:∀b q,Tb base b q->H b=some (.tbl q)
 bs:∀b o,base.get? b=some o->s.heap.get? b=some o/\H b=none
 OH:base.objs.size<=s.heap.objs.size
 LF:s.heap.FunFrames base outer
 Rl:∀b∈Lv outer,H b=none
 JZ:Lj P w H s.heap
 bare:AllBare s.gens
def CE(a:List Env)(P:SB)(w:UV)(H:Hp)(s:KB)(Q:VK)(u:PP)(b:KB):Prop :=
 ∃v d,b.os=s.os/\AllBare b.gens/\Un (Lv a) [] H d s.heap b.heap/\Lj P w d b.heap/\RelV v u/\Q v d
def CR(d:Ov)(a:List Env)(P:SB)(w:UV)(H:Hp)(s:KB)(Q:VK)(E:XK)(r:Result)(b:KB):Prop :=
 match r with
 |.ok (.ret u)=>CE a P w H s Q u b
 |.ok _=>False
 |.error e=>d a H s E e b
structure FnOk(P:SB)(w:UV)(K:X3)(mg:Wi)(base:UF)(CX:Ov)(k:Nat)(f:On)(fd:Re)(ps:List Str)(sp:Sp):Prop where
 len:∀vs H Q E,sp vs H Q E->vs.length=ps.length
 run:∀(A:SC)(outer:List Env)(s:KB)(H:Hp)(args:Args)(us:Wa)(vs:List V)(Q:VK)(E:XK),JY k A->Env0 P w K mg base A outer s H->BindsTo s fd args (ps.zip us)->aQ vs us->sp vs H Q E →
  codeAny (KF P w) A (.call (.ref f) args) (CR CX outer P w H s Q E) s
def FnOk.imp{K:X3}(F:FnOk P w K i a l k f j g e)(h:∀b H Q E,d b H Q E->e b H Q E):FnOk P w K i a l k f j g d :=
 ⟨λb H Q E q=>F.len b H Q E (h _ _ _ _ q),λA outer s H args m b Q E p he hb n o=>F.run A outer s H args m b Q E p he hb n (h _ _ _ _ o)⟩
def Env0.make{K:X3}(e:Env0 P w K d b A a s H)(C:On)(f:Wa)(g:List (Str×PP)) :
  Env0 P w K d b (A.under (.builtin "type.__call__" ⟨.ref C :: f,g⟩)) a s H:=⟨by first | exact e.frames | (simpa[Around.under,Code.envs,Code.isFrame,pushEnvs] using e.frames),e.mod,e.tb,e.bs,e.OH,e.LF,e.Rl,e.JZ,e.bare⟩
section
variable{H:Hp}
def Inv.Tu(I:Inv X pins M H s):Env0 X.prog X.w X.K X.mg X.base X.A X.stack s H :=
 ⟨I.ok.frames,I.ok.mod,I.tb,I.bs,ZJ I.ok.OH I.sz,I.stack,I.Mg,I.JZ,I.bare⟩
def Inv.after{Q:VK}(I:Inv X pins M H s)(h:CE X.stack X.prog X.w H s Q u s'):EP X pins M Q u s':=by
 obtain⟨v,f,os,bare,un,JZ,r,q⟩:=h;obtain⟨a,g,d,t,e⟩:=s';obtain rfl:e=s.os:=os;exact⟨v,f,I.call (h':=a) (g':=g) (d':=d) (t':=t) (ch:=[]) un JZ bare (λb z=>absurd z (by simp)),r,q⟩
end
noncomputable def Er(b:Sp)(d:List V)(E:XK)(t:TA):TE:=λM H Q=>t M H λa e=>b (a++d) e Q E
def yi(C:On)(m:Str)(e:Sp)(g:List V)(E:XK)(ta:TE)(t:TA):TE:=λM H Q=>ta M H λx b=>∃a f fs,x=.ref a/\b a=Z (.ins C f fs)/\fs.lookup m=L ∧
 t M b λd h=>e (x :: (d++g)) h Q E
def Ew(C:On)(e:Sp)(f:List V)(E:XK)(t:TA):TE:=λM H Q=>t M H λd b=>∀x a,b x=L->b a=L->a≠x →
 e (.ref x :: (d++f)) (upd (upd b a (.own x)) x (.ins C a [])) (λv g=>v=.non/\Q (.ref x) g) E
noncomputable def Binds(K:X3)(d:Re)(b:List Str)(ds:Wa):Prop :=
 ∀(s:KB)(a:Wa),K.In s.heap->(a++ds).length=b.length->BindsTo s d ⟨a,[]⟩ (b.zip (a++ds))
def Binds.all{K:X3}{b:List Str}(h:∀a:Wa,a.length=b.length->bindArgs e ⟨a,[]⟩=pure (b.zip a)):Binds K e b []:=λs a _ d=>by
 rw[ZS]at d ⊢;exact .of_eq (h a d)
def kU(d:Ov)(X:Cx)(E:XK):Prop:=∀(a:Z2)(M:St)(H:Hp)(s:KB)(e:PP)(b:KB),Inv X a M H s->d X.stack H s E e b->X.xe e b
section
def v7{X:Cx}{vs:List V}(F:FnOk X.prog X.w X.K X.mg X.base CX k f fd ps sp)(j:JY k X.A)(n:Binds X.K fd ps ds)(l:aQ Mb ds)(i:kU CX X E)(I:Inv X a M H s)(r:aQ vs b)(h:sp (vs++Mb) H Q E):Pi (KF X.prog X.w) X.A (call (.ref f) b) (EP X a M Q) X.xe s:=by
 have r2:=r.append l;refine wpAny_call (XA (F.run X.A X.stack s H ⟨b,[]⟩ (b++ds) (vs++Mb) Q E j I.Tu (n s b I.Ly (by rw[← r2.length];exact F.len _ _ _ _ h)) r2 h) λr g d=>?_);cases r with
 |error e=>exact i a M H s e g I d
 |ok q =>
  cases q with
  |ret u=>exact I.after d
  |next=>exact False.elim d
  |brk=>exact False.elim d
  |cont=>exact False.elim d
def wt{X:Cx}(F:FnOk X.prog X.w X.K X.mg X.base CX k f fd ps sp)(g:JY k X.A)(l:Gl X x)(i:X.mg x=Z (.ref f))(j:PySem.W.keepIn X.K (.ref f)=J)(u:Binds X.K fd ps ds)(n:aQ Mb ds)(d:kU CX X E)(v:PA X (e :: es) t)(y:{`q1,K3 x})(he:{`q2,K1 e es X})(z:{`q2,K2 pos es X}) :
  PE X (.Call (.Name x p) (e :: es) [] pos) (Er sp Mb E t):=by
 intro a s M H Q I h;refine Wv (xF I l i ?_ y);refine PySem.W.callWith_K I.ok.mod.Su j (thn (v pos a s M H _ I h) λG s1 ⟨D,N,b,r,q⟩=>⟨b.Ly,?_⟩) he z;exact v7 F g u n d b r q
def yc(he:PE X o ta)(c:LV X.K C)(g:Meth X.K C m f)(F:FnOk X.prog X.w X.K X.mg X.base CX k f fd ps sp)(D:JY k X.A)(N:Binds X.K fd ps ds)(G:aQ Mb ds)(y:kU CX X E)(O:PA X (e :: es) t)(R:{`q2,K1 e es X})(S:{`q2,K2 pos es X})(z:{`q2,eval (.Call (.Attribute o m apos) (e :: es) [] pos) X.env=(do
   let d ← eval o X.env
   standAt apos.atName
   let (f,first) ← holding [d] (getMethod d m pl)
   callWith pos f first (backTo pos (P3 (e :: es) X.env)) (backToKw pos (SL [] X.env)))}) :
  PE X (.Call (.Attribute o m apos) (e :: es) [] pos) (yi C m sp Mb E ta t):=by
 intro b s M H Q I h;refine PySem.W.methodCall_KW (pl:=pl) (thn (he b s M H _ I h) λu s1 ⟨x,U,j,n,a,dx,fs,ex,P,l,q⟩=>?_) z;subst ex;obtain rfl:u=Value.ref a:=n;refine oE j P c g l ?_;refine PySem.W.callWith_K I.ok.mod.Su g.kp (thn (O pos b s1 M U _ j q) λus s2 ⟨vs,H2,i,r,v⟩=>⟨i.Ly,?_⟩) R S;exact v7 (vs:=.ref a :: vs) F D N G y i (.cons Y r) v
def BW(he:PE X o ta)(c:LV X.K C)(i:Meth X.K C m f)(F:FnOk X.prog X.w X.K X.mg X.base CX k f fd ps sp)(v:JY k X.A)(z:Binds X.K fd ps ds)(y:aQ Mb ds)(n:kU CX X E)(r:{`q2,eval (.Call (.Attribute o m apos) [] [] pos) X.env=(do
   let g ← eval o X.env
   standAt apos.atName
   let (f,first) ← holding [g] (getMethod g m pl)
   callWith pos f first (backTo pos (P3 [] X.env)) (backToKw pos (SL [] X.env)))}) :
  PE X (.Call (.Attribute o m apos) [] [] pos) (yi C m sp Mb E ta AG):=by
 intro b s M H Q I h;refine PySem.W.methodCall_KW (pl:=pl) (thn (he b s M H _ I h) λu s1 ⟨x,N,d,j,a,G,fs,ex,D,l,q⟩=>?_) r;subst ex;obtain rfl:u=Value.ref a:=j;refine oE d D c i l ?_;exact PySem.W.callWith_K0 d.Ly i.kp (v7 (vs:=[.ref a]) F v z y n d (.cons Y .nil) q)
structure Mk(K:X3)(C f:On):Prop where
 makes:PySem.W.makesIn K C=true
 init:PySem.W.findIn K (.ref C) "__init__" = some (some (.ref f))
 fn:PySem.W.isFn K (.ref f)=true
 kp:PySem.W.keepIn K (.ref C)=true
def AO{X:Cx}{us:Wa}(j:Mk X.K C f)(F:FnOk X.prog X.w X.K X.mg X.base CX k f fd ps sp)(D:JY (k+1) X.A)(N:Binds X.K fd ps ds)(G:aQ Mb ds)(z:kU CX X E)(I:Inv X a M H s)(r:aQ i us)(h:∀x d,H x=L->H d=L->d≠x->sp (.ref x :: (i++Mb)) (upd (upd H d (.own x)) x (.ins C d [])) (λv R=>v=.non/\Q (.ref x) R) E) :
  Pi (KF X.prog X.w) X.A (call (.ref C) us) (EP X a M Q) X.xe s:=by
 have l:=h (s.heap.objs.size+1) s.heap.objs.size (I.JZ.fresh (Y6 _)) (I.JZ.fresh (Zk _)) (Zf (Z3 _));have g:=Inv.made (C:=C) I;have r2:aQ (V.ref (s.heap.objs.size+1) :: (i++Mb)) (Value.ref (s.heap.objs.size+1) :: (us++ds)):=.cons Y (r.append G);refine wpAny_call (BS (f:=f) I.Ly j.makes j.init (beq_iff_eq.mp j.fn) (XA (F.run _ X.stack _ _ ⟨Value.ref (s.heap.objs.size+1) :: us,[]⟩ (Value.ref (s.heap.objs.size+1) :: (us++ds)) _ _ E (D.make C us [])
  (g.Tu.make C us []) (N _ (Value.ref (s.heap.objs.size+1) :: us) g.Ly (by
  have e:=r2.length;rw[F.len _ _ _ _ l]at e;exact e.symm)) r2 l) λr n b=>?_))
 cases r with
 |error e=>exact z a M _ _ e n g b
 |ok O =>
  cases O with
  |ret u =>
   obtain⟨v,S,P,q,ev,y⟩:=g.after b;subst ev;exact⟨q,⟨V.ref (s.heap.objs.size+1),S,P,rfl,y⟩⟩
  |next=>exact False.elim b
  |brk=>exact False.elim b
  |cont=>exact False.elim b
def Am{X:Cx}(b:Mk X.K C f)(F:FnOk X.prog X.w X.K X.mg X.base CX k f fd ps sp)(g:JY (k+1) X.A)(j:Gl X x)(i:X.mg x=Z (.ref C))(n:Binds X.K fd ps ds)(l:aQ Mb ds)(d:kU CX X E)(q:{`q1,K3 x}):PE X (.Call (.Name x p) [] [] pos) (Ew C sp Mb E AG):=by
 intro a s M H Q I h;refine Wv (xF I j i ?_ q);exact PySem.W.callWith_K0 I.Ly b.kp (AO (us:=[]) b F g n l d I .nil h)
end
def PK(X:Cx)(b:List Keyword)(t:TA):Prop :=
 ∀(pos:Pos)(a:Z2)(s:KB)(M:St)(H:Hp)(Q:List V->Hp->Prop),Inv X a M H s->t M H Q->Pi (KF X.prog X.w) X.A (evalAll ((backToKw pos (SL b X.env)).map (·.2))) (AP X a M Q) X.xe s
section
def Hi:PK X [] AG:=λ_ _ _ _ H Q I h=>wpAny_evalAll_nil ⟨[],H,I,.nil,h⟩
def DI(j:PE X e te)(i:PK X Uy t):PK X (⟨nm,e,V2⟩ :: Uy) (BV te t):=by
 intro pos a s M H Q I h;refine wpAny_evalAll_cons (Zv (thn (j a s M H _ I h) λu s1 ⟨x,r,n,r1,g⟩=>Zv (wpAny_standAt (Zl ?_))));exact thn (i pos a s1 M r _ n g) λv w ⟨b,q,l,r2,d⟩=>⟨x :: b,q,l,.cons r1 r2,d⟩
end
structure oe(N P:List Str)(sc:Scope):Prop where
 kind:sc.kind=.function
 co:sc.isCoroutine=false
 gen:sc.isGenerator=false
 nd:N.Nodup
 pre:N.take P.length=P
 par:∀x∈P,sc.names.lookup x=some .local\/sc.names.lookup x=some .cell
 QG:∀y∈sc.names,y.2 ≠ .free
theorem qI:∀{binds:List (Str×PP)}{m:Wi},(∀v,(x,v)∉binds)->bindL a binds m x=m x
 |[],_,_=>rfl
 | (n,v) :: r,m,h=>by
  unfold bindL;rw[qI λw hw=>h w (Zy _ hw)];split
  ·have:x≠n:=by rintro rfl;exact h v Zx
   simp[this]
  ·rfl
theorem qU:∀{binds:List (Str×PP)}{m:Wi},(∀v,(x,v)∉binds)->bindC a binds m x=m x
 |[],_,_=>rfl
 | (n,v) :: r,m,h=>by
  unfold bindC;rw[qU λw hw=>h w (Zy _ hw)];split
  ·rfl
  ·have:x≠n:=by rintro rfl;exact h v Zx
   simp[this]
theorem qK:∀{P:List Str}{b:Wa}{i:Nat}{m:Wi},P.Nodup->P[i]?=Z x->b[i]?=Z v->a x=Z .local →
  bindL a (P.zip b) m x=Z v
 |[],_,_,_,_,h,_,_=>by simp at h
 |_ :: _,[],_,_,_,_,h,_=>by simp at h
 |p :: P,w :: b,0,m,nd,e,d,f=>by
  simp at e d;subst e;subst d;show bindL a ((p,w) :: P.zip b) m p=_;unfold bindL;rw[qI λv g=>(Zb.mp nd).1 (WE g).1,Zp f];simp
 |p :: P,w :: b,i+1,m,nd,e,d,f=>by
  unfold bindL;exact qK (i:=i) (Zb.mp nd).2 (by simpa using e) (by simpa using d) f
theorem qz:∀{P:List Str}{b:Wa}{i:Nat}{m:Wi},P.Nodup->P[i]?=Z x->b[i]?=Z v->a x≠Z .local →
  bindC a (P.zip b) m x=Z v
 |[],_,_,_,_,h,_,_=>by simp at h
 |_ :: _,[],_,_,_,_,h,_=>by simp at h
 |p :: P,w :: b,0,m,nd,e,d,f=>by
  simp at e d;subst e;subst d;show bindC a ((p,w) :: P.zip b) m p=_;unfold bindC;rw[qU λv g=>(Zb.mp nd).1 (WE g).1,Zn f];simp
 |p :: P,w :: b,i+1,m,nd,e,d,f=>by
  unfold bindC;exact qz (i:=i) (Zb.mp nd).2 (by simpa using e) (by simpa using d) f
noncomputable def start(N:List Str)(a:List V):St:=a.map Z++List.replicate (N.length-a.length) L
def jC(j:Ov)(P:SB)(w:UV)(K:X3)(m:Wi)(h:UF)(N:List Str)(d:Str)(a:Scope)(f:On)(g:PP)(A:SC)(b:List Env)(s:KB)(H:Hp)(E:XK):Cx where
 prog:=P
 w:=w
 K:=K
 mg:=m
 base:=h
 A:=A.deeper (envOfC d a s.heap.objs.size f g)
 N:=N
 s₀:=s
 H₀:=H
 env:=envOfC d a s.heap.objs.size f g
 outer:=b
 stack:=envOfC d a s.heap.objs.size f g :: b
 ex:=[]
 calm:=J
 fn:=λ_=>J
 pn:=[]
 xe:=λe l=>Pi (KF P w) (A.deeper (envOfC d a s.heap.objs.size f g)) (leaving (envOfC d a s.heap.objs.size f g) e) (λ_ i=>j b H s E e i) (λn i=>j b H s E n i) l
def tW{a:Scope}(h:a.names.lookup x=Z .cell):∃c,(cellsFrom n a.names []).lookup x=Z c:=by
 exact Yi.mp (PySem.W.cellsFrom_some a.names n [] (.inl h))
def zc{K:X3}{A:SC}{C:List V}(S:oe N o d)(hd:A.handled=L)(m:Env0 P w K R n A g s H)(hl:C.length=o.length)(r:aQ C Q)(x:InCallC s s.heap.objs.size (bindL (envOfC j d s.heap.objs.size f O).kindOf (o.zip Q) λ_=>L) (cellsFrom (s.heap.objs.size+1) d.names []) (bindC (envOfC j d s.heap.objs.size f O).kindOf (o.zip Q) λ_=>L) X) :
  Inv (jC CX P w K R n N j d f O A g s H E) [] (start N C) H X:=by
 have K9:o.length<=N.length:=by have:=congrArg List.length S.pre;rw[Y1]at this;lia
 obtain⟨M,tk,rfl,hk⟩:=x.done;have U:∀b:On,b∉(jC CX P w K R n N j d f O A g s H E).ex:=λb z=>absurd (show b∈([]) from z) (by simp);refine⟨⟨m.mod,S.kind,rfl,rfl,Zk _,λy z c M l=>?_,λy t=>?_,λy c _ h=>?_,λ_=>hd,Around.frames_deeper m.frames,.inr ⟨rfl,rfl⟩,λb z=>absurd z (U b),m.tb,m.bs,m.OH,λb _ _=>U b,λb z=>absurd z (U b),m.LF,m.Rl⟩,
  rfl,m.bare,Un.kept hk,⟨_,x.toInCall.ns,λi y v M l h3=>?_⟩,λy c h=>⟨_,x.cell y c h⟩,m.JZ.fresh (Zk _),λy c h=>?_,λp F=>absurd (show p∈([]) from F) (by simp),m.JZ.kept hk,?_⟩
 ·exact name_of_addr x.apart (XF M) (XF l)
 ·have t:=t;rcases t with t | t
  ·exact tW t
  ·exact absurd Y (S.QG _ (XF t))
 ·exact Y5 (x.above y c (XF h))
 ·have G:i<C.length:=by
   unfold start at l;by_cases G:i<C.length
   ·exact G
   ·rw[Yf (by simpa using G)]at l;rw[YY]at l;split at l<;>cases l
  obtain⟨u,hu,rv⟩:=r.get (by
   unfold start at l;rw[Yu (by simpa using G),Zd]at l;cases e:C[i]? with
   |none=>rw[e]at l;cases l
   |some a=>rw[e]at l;cases l;rfl)
  have F:o[i]?=Z y:=by
   rw[← S.pre,List.getElem?_take_of_lt (by lia)];exact M
  have D:o.Nodup:=by rw[← S.pre];exact S.nd.sublist (List.take_sublist _ _)
  refine⟨u,rv,?_⟩;rcases S.par y (Z5 F) with k | k
  ·exact .inl ⟨k,qK D F hu k⟩
  ·obtain⟨c,e⟩:=tW k;refine .inr ⟨.inl k,c,e,?_⟩;have q:=x.cell y c e;rw[qz D F hu (by show d.names.lookup y≠_;rw[k];decide)]at q;exact q
 ·exact m.JZ.fresh (Y5 (x.above y c (XF h)))
 ·unfold start;show _=N.length;rw[Zq,Zt,YQ];lia
def EU{CX:Ov}{P:SB}{w:UV}{K:X3}{U:Wi}{i:UF}{k:Nat}{f:On}{l d:Str}{g:Arguments}{h:List Stmt}{a:Scope}{dV kV D pm y ct oc:PP}{an od:Option On}{Nu:Array (Vt)}{N R:List Str}{G:Sp}(lk:K.lookup f=Z ⟨oc,od,.func (PySem.W.fnOf l d g h a dV kV D pm an y ct),Nu⟩)(Ks:PySem.W.codeIn K y d=true)(S:oe N R a)(z:∀j H Q E,G j H Q E->j.length=R.length)(LQ:∀(A:SC)(outer:List Env)(s:KB)(H:Hp)(j:List V)(Q:VK)(E:XK),JY k (A.deeper (envOfC d a s.heap.objs.size f y))->G j H Q E →
   ∃t,LZ (jC CX P w K U i N d a f y A outer s H E) h t/\t { nx:=λ_ m=>Q .non m,rt:=Q } (start N j) H) :
  FnOk P w K U i CX (k+1) f (PySem.W.fnOf l d g h a dV kV D pm an y ct) R G:=by
 refine⟨z,λA outer s H args us j Q E X C hb r PH=>?_⟩;have hl:=z _ _ _ _ PH;have KX:=C.mod.Su.keeps λb o e=>(C.bs b o e).1;refine codeAny_call_function X.depth (KX _ _ lk) Y S.co S.gen Y (PySem.W.codeRec_of KX Ks) (hb _ _ _ _ ?_);refine wpAny_newFunctionEnv_cells S.kind (λ⟨n,v⟩ hy=>by
  rcases S.par n (WE hy).1 with q | q
  ·exact .inl q
  ·exact .inr ⟨q,PySem.W.cellsFrom_some _ _ _ (.inl q)⟩) λenv he s1 x=>?_
 subst he;refine⟨(C.mod.nolimit.keeps λb o e=>(C.bs b o e).1).keeps x.toInCall.keep,codeAny_func ?_⟩;obtain⟨t,ht,hq⟩:=LQ A outer s H j Q E (X.deeper _) PH;refine YX (ht [] s1 (start N j) H _ (zc S X.hd C hl r x) hq) (λfl M p=>?_) λe M p=>p;have fin:∀{F:St}{m:Hp}{v:V}{u:PP},Inv (jC CX P w K U i N d a f y A outer s H E) [] F m M->RelV v u->Q v m->CE outer P w H s Q u M :=
  λ{F m v u} J O q=>⟨v,m,J.os,J.bare,J.base,J.JZ,O,q⟩
 cases fl with
 |ret u =>
  obtain⟨v,F,m,J,O,q⟩:=p;exact fin J O q
 |next =>
  obtain⟨F,m,J,q⟩:=p;exact fin (v:=V.non) J Y q
 |brk =>
  obtain⟨_,_,_,q⟩:=p;exact False.elim q
 |cont =>
  obtain⟨_,_,_,q⟩:=p;exact False.elim q
section
noncomputable def tCB(r:List V->Hp->VK->Prop)(t:TA):TE:=λM H Q=>t M H λa b=>r a b Q
def pI{X:Cx}{x:Str}{p pos:Pos}{es:List Expr}{t:TA}{id:String}{r:List V->Hp->VK->Prop}(m:dA X (.builtin id) r)(l:Gl X x)(j:X.mg x=L)(g:bootBuiltins x=Z (.builtin id))(n:PA X (e :: es) t)(i:{`q1,x ≠ "__name__"})(o:{`q1,K3 x})(he:{`q2,K1 e es X})(q:{`q2,K2 pos es X}):PE X (.Call (.Name x p) (e :: es) [] pos) (tCB r t):=by
 intro a s M H Q I h;refine Wv (lh I l j g ?_ i o);exact PyProof.Rows.callWith_builtin1 (thn (n pos a s M H _ I h) λd s1 ⟨b,v,u,r1,f⟩=>m a s1 M v b d Q u r1 f) he q
def qh(m:dA X (.type T) r)(l:Gl X x)(j:X.mg x=L)(g:bootBuiltins x=Z (.type T))(n:PA X (e :: es) t)(i:{`q1,x ≠ "__name__"})(o:{`q1,K3 x})(he:{`q2,K1 e es X})(q:{`q2,K2 pos es X}):PE X (.Call (.Name x p) (e :: es) [] pos) (tCB r t):=by
 intro a s M H Q I h;refine Wv (lh I l j g ?_ i o);exact XU (thn (n pos a s M H _ I h) λd s1 ⟨b,v,u,r1,f⟩=>m a s1 M v b d Q u r1 f) he q
end
end L2
namespace HT
open PySem PyProof.Rows
section
noncomputable def KQ(n d:Nat):Option Int->Nat
 |none=>d
 |some v=>if v<0 then (v+(n:Int)).toNat else min v.toNat n
end
end HT
namespace L2
open PySem PySem.Spec PyProof.Rows
abbrev TO:=St->Hp->(Option Int->Hp->Prop)->Prop
def PO(X:Cx)(e:Option Expr)(t:TO):Prop :=
 ∀(a:Z2)(s:KB)(M:St)(H:Hp)(Q:Option Int->Hp->Prop),Inv X a M H s->t M H Q →
  Pi (KF X.prog X.w) X.A (evalPart e X.env) (λu d=>∃o b,Inv X a M b d/\IsPart u o/\Q o b) X.xe s
noncomputable def Dh:TO:=λ_ H Q=>Q L H
noncomputable def Ja(t:TE):TO:=λM H Q=>t M H λx a=>∃i,x=.int i/\Q (Z i) a
section
variable{lo:Option Expr}
def DU:PO X L Dh:=by
 intro a s M H Q I h;rw[evalPart_none];exact Zl ⟨L,H,I,.none,h⟩
def xn(h:PE X e te):PO X (Z e) (Ja te):=by
 intro a s M H Q I hw;rw[evalPart_some];refine thn (h a s M H _ I hw) λu s1 ⟨x,f,d,r1,b⟩=>?_;obtain⟨i,rfl,q⟩:=b;obtain⟨t,rfl⟩:=r1;exact⟨Z i,f,d,.int i t,q⟩
def P1(X:Cx)(r:V->Option Int->Option Int->Hp->VK->Prop):Prop :=
 ∀(a:Z2)(s:KB)(M:St)(H:Hp)(x:V)(v d b:PP)(lo hi:Option Int)(f:On)(Q:VK),Inv X a M H s->RelV x v->s.heap.IsSliceOf f d b .none->IsPart d lo->IsPart b hi->r x lo hi H Q →
  ∃T id,typeLookup (.type T) "__getitem__" = pure (Z (.builtin id))/\s.TypeIs v T/\Pi (KF X.prog X.w) X.A (getItem v (.ref f)) (EP X a M Q) X.xe s
def P1.or(h:P1 X r)(m:P1 X i):P1 X (λx lo hi H Q=>r x lo hi H Q\/i x lo hi H Q):=by
 intro a s M H x v d b lo hi f Q I g l j pu q;rcases q with q | q
 ·exact h a s M H x v d b lo hi f Q I g l j pu q
 ·exact m a s M H x v d b lo hi f Q I g l j pu q
noncomputable def tSl(r:V->Option Int->Option Int->Hp->VK->Prop)(d:TE)(a b:TO):TE:=λM H Q=>d M H λx h=>a M h λl g=>b M g λu f=>r x l u f Q
def u4(w:P1 X r)(he:PE X e te)(y:PO X lo tl)(p:PO X hi th):PE X (.Subscript e (.Slice lo hi L p2) pos) (tSl r te tl th):=by
 intro a s M H Q I h;refine Subscript_ (thn (he a s M H _ I h) λv s1 ⟨x,G,D,r1,n⟩=>?_);refine wpAny_Slice (thn (y a s1 M G _ D n) λg i ⟨l,F,C,o,m⟩=>thn (p a i M F _ C m) λf d ⟨u,E,A,pu,j⟩=>?_);rw[evalPart_none];refine Zl ?_;obtain⟨T,id,z,t,hg⟩:=w a { d with heap:=d.heap.push { cls:=.type "slice",data:=.fields #[g,f,.none] } } M E x v g f l u d.heap.objs.size Q (A.kept (t':=d.toks) λb N q=>Zm _ q) r1 (Heap.IsSliceOf.new ..) o pu j;exact tail_any t z hg (by with_unfolding_all rfl)
def Ae(a:List V)(b d:Option Int):List V:=(a.drop (HT.KQ a.length 0 b)).take (HT.KQ a.length a.length d-HT.KQ a.length 0 b)
def uK(a:List V)(b d:Option Int):(Ae a b d).length<=a.length:=by
 unfold Ae;rw[Y1,Ym];lia
end
noncomputable def QM(n:Nat)(i:Int):Option Nat:=if 0<=i then (if i<n then Z i.toNat else L) else if -(n:Int)<=i then Z (i+n).toNat else L
def Ru{α:Type}(a:List α)(i:Int):Option α:=(QM a.length i).bind λj=>a[j]?
def wD{i:Int}(h:QM n i=Z j):seqIndex? i n=Z j/\j<n/\-(n:Int)<=i/\i<n:=by
 unfold QM at h;by_cases b:0<=i
 ·rw[Zp b]at h;by_cases a:i<n
  ·rw[Zp a]at h;exact⟨by rw[seqIndex_of b a,(Zh h)],by lia,by lia,a⟩
  ·rw[Zn a]at h;cases h
 ·rw[Zn b]at h;by_cases a:-(n:Int)<=i
  ·rw[Zp a]at h;exact⟨by rw[seqIndex_neg (by lia) a,(Zh h)],by lia,a,by lia⟩
  ·rw[Zn a]at h;cases h
def rq{α:Type}{a:List α}{i:Int}{v:α}(h:Ru a i=Z v):∃j,seqIndex? i a.length=Z j/\a[j]?=Z v/\j<a.length/\-(a.length:Int)<=i/\i<a.length:=by
 unfold Ru at h;cases e:QM a.length i with
 |none=>rw[e]at h;cases h
 |some j =>
  rw[e]at h;obtain⟨g,f,d,b⟩:=wD e;exact⟨j,g,h,f,d,b⟩
noncomputable def fH(b:Expr):Prop:=∀o i,subscripted b B o i=operate [o,i] (getItem o i)
def LI(X:Cx)(r:R2):Prop :=
 ∀(value slice:Expr)(a:Z2)(s:KB)(M:St)(H:Hp)(x y:V)(v u:PP)(Q:VK),Inv X a M H s->RelV x v->RelV y u->r x y H Q →
  subscripted slice B v u=operate [v,u] (getItem v u)->Pi (KF X.prog X.w) X.A (subscriptTail value slice v u) (EP X a M Q) X.xe s
def Rv(X:Cx)(e:String)(r:V->List V->Hp->VK->Prop):Prop :=
 ∀(a:Z2)(s:KB)(M:St)(H:Hp)(x:V)(b:List V)(v:PP)(d:Wa)(Q:VK),Inv X a M H s->RelV x v->aQ b d->r x b H Q →
  Pi (KF X.prog X.w) X.A (call (.builtin e) (v :: d)) (EP X a M Q) X.xe s
section
def LI.or(h:LI X r)(j:LI X g):LI X (λx y H Q=>r x y H Q\/g x y H Q):=by
 intro value slice d s M H x y v u Q I f e q i;rcases q with q | q
 ·exact h value slice d s M H x y v u Q I f e q i
 ·exact j value slice d s M H x y v u Q I f e q i
def lM(j:LI X r)(m:PE X a ta)(l:PE X b tb)(i:fH b):PE X (.Subscript a b pos) (Rz r ta tb):=by
 intro d s M H Q I h;exact Subscript_ (E7 m l I h λv u e x y o n g f q=>j a b d e M o x y v u Q n g f q (i _ _))
def IK(K:X3):R2:=λx y H Q=>∃p d i v,x=.ref p/\y=.int i/\Kb K H p d/\Ru d i=Z v/\Q v H
def HU(K:X3):R2:=λx y H Q=>∃p d i v,x=.ref p/\y=.int i/\Li K H p d/\Ru d i=Z v/\Q v H
def HJ:R2:=λx y H Q=>∃z i c,x=.str z/\y=.int i/\z.length<=KM/\Ru z.cps.toList i=Z c/\Q (.str ⟨#[c]⟩) H
def x8:LI X (IK X.K):=by
 intro value slice d s M H x y v u Q I A o h l;obtain⟨p,P,i,z,rfl,rfl,D,he,q⟩:=h;cases A;obtain⟨t,rfl⟩:=o;obtain⟨C,r,f,R⟩:=I.list D;obtain⟨j,e,N,U,G,F⟩:=rq he;obtain⟨w,n,O⟩:=r.get N;have E:=r.length;have S:=rC;have fin:EP X d M Q w s:=⟨z,H,I,O,q⟩
 by_cases m:0<=i
 ·have g:i.toNat=j:=by
   rw[seqIndex_of m F]at e;exact Zh e
  exact item_listR f.isList m (by lia) (by rw[g];simpa using n) fin l
 ·have g:(i+(C.toArray.size:Int)).toNat=j:=by
   rw[seqIndex_neg (by lia) G]at e;rw[ZM,← E];exact Zh e
  exact subscriptTail_builtinR (x:=w) f.isList.typeIs slot_list_getitem.lookup
   (wpAny_getItem_list_neg f.isList (by lia) (by rw[ZM]<;>lia) (by lia) (by rw[g];simpa using n) ⟨rfl,fin⟩) l
def Bg:LI X (HU X.K):=by
 intro value slice e s M H x y v u Q I g f h l;obtain⟨p,D,i,z,rfl,rfl,m,he,q⟩:=h;cases g;obtain⟨t,rfl⟩:=f;obtain⟨E,r,d,F⟩:=I.tuple m;obtain⟨j,o,n,P,O,N⟩:=rq he;obtain⟨w,A,C⟩:=r.get n;have G:=rC;exact subscriptTail_builtinR (x:=w) d.typeIs slot_tuple_getitem.lookup
  (getItem_tuple (j:=j) d (by lia) (by lia) (by rw[ZM,← r.length];exact o) (by simpa using A) ⟨rfl,(⟨z,H,I,C,q⟩)⟩) l
def G0:LI X HJ:=by
 intro value slice d s M H x y v u Q I g f h l;obtain⟨z,i,c,rfl,rfl,w,he,q⟩:=h;obtain⟨t,rfl⟩:=g;obtain⟨r,rfl⟩:=f;obtain⟨j,e,p,C,o,n⟩:=rq he;have m:z.cps.toList.length=z.length:=by simp[Str.length]
 rw[m]at e o n;have A:=rC;exact tail_any (W5 s z t) slot_str_getitem.lookup (getItem_str (c:=c) (by
  rw[(ZN (by lia)),(ZN (by lia)),Bool.or_false]) (by rw[e];simpa using p) ⟨.str ⟨#[c]⟩,H,I.tok _,⟨_,rfl⟩,q⟩) l
def VA(K:X3):R2:=λx y H Q=>IK K x y H Q\/HU K x y H Q\/HJ x y H Q
def kB:LI X (VA X.K):=x8.or (Bg.or G0)
def vC(d:Wa)(n j:Nat)(u:PP):Obj.mapSeq (·.setIfInBounds j u) { cls:=.type "list",data:=.seq d.toArray n }={ cls:=.type "list",data:=.seq (d.set j u).toArray n }:=by
 simp[Obj.mapSeq]
theorem Inv.lst{H:Hp}(I:Inv X d M H s)(h:H p=Z (.lst g)) :
  ∃(f:Wa)(n:Nat),aQ g f/\s.heap.get? p=Z { cls:=.type "list",data:=.seq f.toArray n }/\g.length<=sizeLine:=by
 obtain⟨z,f,n,r,e⟩:=I.JZ p _ h;exact⟨f,n,r,e,z⟩
def Inv.QI{l g:Wa}(I:Inv X d M H s)(h:H p=Z (.lst o))(w:s.heap.get? p=Z { cls:=.type "list",data:=.seq l.toArray n })(m:f { cls:=.type "list",data:=.seq l.toArray n }={ cls:=.type "list",data:=.seq g.toArray j })(r:aQ i g)(v:i.length<=KM)(t:Nat) :
  Inv X d M (upd H p (.lst i)) { s with heap:=s.heap.update p f,toks:=t }:=by
 have e:(s.heap.update p f).get? p=Z { cls:=.type "list",data:=.seq g.toArray j }:=by
  rw[Ys f w (by rw[m]<;>rfl),m]
 refine I.write (x:=p) (e:=p) (by rw[h];trivial) (.inl Y) (λb u hb q=>(Yz _ _ (Yy hb)).trans q) ⟨_,e⟩ ?_;exact⟨v,g,j,r,e⟩
def Eo:V->V->V->Hp->(Hp->Prop)->Prop:=λo i v H Q=>∃p d k j,o=.ref p/\i=.int k/\H p=Z (.lst d)/\QM d.length k=Z j/\Q (upd H p (.lst (d.set j v)))
def set_list:GV X Eo:=by
 intro l s M H o i v O iv u Q I D E C h;obtain⟨p,N,k,j,rfl,rfl,w,G,q⟩:=h;cases D;obtain⟨t,rfl⟩:=E;obtain⟨m,n,r,e,F⟩:=I.lst w;obtain⟨d,R,y,x⟩:=wD G;have f:=r.length;have P:=rC;have A :=
  I.QI w e (vC m n j u) (r.set C j) (by rw[Yo];exact F) s.toks
 by_cases z:0<=k
 ·have g:k.toNat=j:=by
   rw[seqIndex_of z x]at d;exact Zh d
  exact PySem.W.ki_setAt e z (by lia) (by rw[ZM,← f];exact x) (by rw[g];exact⟨_,A,q⟩)
 ·have g:(k+(m.toArray.size:Int)).toNat=j:=by
   rw[seqIndex_neg (by lia) y]at d;rw[ZM,← f];exact Zh d
  exact PySem.W.ki_setBack e (by lia) (by rw[ZM,← f];exact y) (by lia) (by rw[g];exact⟨_,A,q⟩)
def N5(a:Int)(n:Nat):max 0 (min a (n:Int))=((min a.toNat n:Nat):Int):=by
 cases a with
 |ofNat k =>
  show max 0 (min (k:Int) (n:Int))=((min k n:Nat):Int);rcases Nat.le_total k n with h | h
  ·rw[Int.min_eq_left (Int.ofNat_le.mpr h),YM h];exact Int.max_eq_right (WX _)
  ·rw[Int.min_eq_right (Int.ofNat_le.mpr h),Wp h];exact Int.max_eq_right (WX _)
 |negSucc k =>
  rw[Int.min_eq_left (Int.le_trans (Int.le_of_lt (Int.negSucc_lt_zero k)) (WX n)),Int.max_eq_left (Int.le_of_lt (Int.negSucc_lt_zero k))];show (0:Int)=((min 0 n:Nat):Int);rw[Nat.zero_min];rfl
def rV(d e:Option Int)(n:Nat):(sliceBounds d e L n).1=((HT.KQ n 0 d:Nat):Int)/\(sliceBounds d e L n).2.1=((HT.KQ n n e:Nat):Int)/\(sliceBounds d e L n).2.2=1:=by
 refine⟨?_,?_,rfl⟩
 ·cases d with
  |none=>simp[sliceBounds,HT.KQ]
  |some i =>
   simp only[sliceBounds,HT.KQ,Option.getD_none,show (1:Int) > 0 by decide,if_true];by_cases h:i<0
   ·simp only[h,if_true];rw[N5,YM (by omega)]
   ·simp only[h,if_false];exact N5 i n
 ·cases e with
  |none=>simp[sliceBounds,HT.KQ]
  |some i =>
   simp only[sliceBounds,HT.KQ,Option.getD_none,show (1:Int) > 0 by decide,if_true];by_cases h:i<0
   ·simp only[h,if_true];rw[N5,YM (by omega)]
   ·simp only[h,if_false];exact N5 i n
def pX(d:Wa)(e f:Option Int):slicePick d.toArray e f L=((d.drop (HT.KQ d.length 0 e)).take (HT.KQ d.length d.length f-HT.KQ d.length 0 e)).toArray:=by
 obtain⟨i,h,g⟩:=rV e f d.toArray.size;unfold slicePick;rw[i,h,g];simp only[sliceRange_one,pick_run,ZM]<;>rfl
def IC(K:X3):V->Option Int->Option Int->Hp->VK->Prop:=λx lo e H Q=>∃a d,x=.ref a/\Kb K H a d/\∀p,H p=L->Q (.ref p) (upd H p (.lst (Ae d lo e)))
def C4:P1 X (IC X.K):=by
 intro e s M H x v p o lo g t Q I i n j pu h;obtain⟨a,d,rfl,m,q⟩:=h;cases i;obtain⟨u,r,f,l⟩:=I.list m;have hlen:=r.length;refine⟨"list",_,slot_list_getitem.lookup,f.isList.typeIs,?_⟩;refine wpAny_getItem_list_slice f.isList n j pu .none (by simp) ?_ (by rw[ZM]<;>lia);rw[pX,← hlen];refine⟨.ref s.heap.objs.size,_,I.laid (λb w q=>Zm _ q) (Zk _) ?_,rfl,q _ (I.JZ.fresh (Zk _))⟩;exact⟨ZJ (uK d lo g) l,_,0,(r.drop (HT.KQ d.length 0 lo)).take (HT.KQ d.length d.length g-HT.KQ d.length 0 lo),Zc _ Y⟩
noncomputable def ip:V->Bool
 |.non=>J
 |.bl _=>J
 |.int _=>J
 |.str _=>J
 |_=>B
noncomputable def OD:V->V->Bool
 |.non,.non=>J
 |.bl a,.bl b=>a==b
 |.bl a,.int b=>(if a then 1 else 0)==b
 |.int a,.bl b=>a==(if b then 1 else 0)
 |.int a,.int b=>a==b
 |.str a,.str b=>a==b
 |_,_=>B
def GC(f:RelV y u)(d:RelV x v)(h:ip y=J)(g:ip x=J):SeqAt.EqAt A s u v (OD y x):=by
 cases y with
 |non =>
  cases f;cases x with
  |non=>cases d;exact SeqAt.EqAt.same _
  |bl b=>cases d;exact SeqAt.EqAt.none_bool b
  |int b=>obtain⟨t,rfl⟩:=d;exact SeqAt.EqAt.none_int b t
  |str b=>obtain⟨t,rfl⟩:=d;exact SeqAt.EqAt.none_str b t
  |_=>exact absurd (g) ZX
 |bl a =>
  cases f;cases x with
  |non=>cases d;exact SeqAt.EqAt.bool_none a
  |bl b=>cases d;exact SeqAt.EqAt.bool_bool a b
  |int b=>obtain⟨t,rfl⟩:=d;exact SeqAt.EqAt.bool_int a b t
  |str b=>obtain⟨t,rfl⟩:=d;exact SeqAt.EqAt.bool_str a b t
  |_=>exact absurd (g) ZX
 |int a =>
  obtain⟨e,rfl⟩:=f;cases x with
  |non=>cases d;exact SeqAt.EqAt.int_none a e
  |bl b=>cases d;exact SeqAt.EqAt.int_bool a e b
  |int b=>obtain⟨t,rfl⟩:=d;exact SeqAt.EqAt.int_int a e b t
  |str b=>obtain⟨t,rfl⟩:=d;exact SeqAt.EqAt.int_str a e b t
  |_=>exact absurd (g) ZX
 |str a =>
  obtain⟨e,rfl⟩:=f;cases x with
  |non=>cases d;exact SeqAt.EqAt.str_none a e
  |bl b=>cases d;exact SeqAt.EqAt.str_bool a e b
  |int b=>obtain⟨t,rfl⟩:=d;exact SeqAt.EqAt.str_int a e b t
  |str b=>obtain⟨t,rfl⟩:=d;exact SeqAt.EqAt.str_str a e b t
  |_=>exact absurd (g) ZX
 |_=>exact absurd (h) ZX
def M5(x:V)(u:PP):Bool:=match u with
 |.none=>OD .non x
 |.bool b=>OD (.bl b) x
 |.int i _=>OD (.int i) x
 |.str z _=>OD (.str z) x
 |_=>B
def AM(r:RelV y u)(f:ip y=J):M5 x u=OD y x:=by
 cases y with
 |non=>cases r;rfl
 |bl b=>cases r;rfl
 |int i=>obtain⟨t,rfl⟩:=r;rfl
 |str z=>obtain⟨t,rfl⟩:=r;rfl
 |_=>exact absurd (f) ZX
theorem l8:∀{d:List V}{e:Wa},aQ d e->d.all ip=J->e.any (M5 x)=d.any λy=>OD y x
 |_,_,.nil,_=>rfl
 |y :: d,u :: e,.cons r t,f=>by
  rw[Xz,Z1]at f;rw[YH,YH,AM r f.1,l8 t f.2]
theorem jI(h:RelV x v)(i:ip x=J):∀{e:List V}{g:Wa},aQ e g->e.all ip=J->∀u∈g,SeqAt.EqAt A s u v (M5 x u)
 |_,_,.nil,_=>λu d=>by cases d
 |y :: e,u :: g,.cons r t,f=>λj d=>by
  rw[Xz,Z1]at f;rcases Zo.mp d with rfl | d
  ·rw[AM r f.1];exact GC r h f.1 i
  ·exact jI h i t f.2 j d
def SF(x:V)(d:List V):Bool:=d.any λy=>OD y x
def Uk(K:X3)(e:Bool):R2:=λx y H Q=>∃p d,y=.ref p/\(Kb K H p d\/Li K H p d)/\ip x=J/\d.all ip=J/\Q (.bl (if e then !SF x d else SF x d)) H
def qF:OpR X (SZ .In) (Uk X.K B):=by
 intro i s M H x y v u Q I g l h;obtain⟨p,n,rfl,e,j,fs,q⟩:=h;cases l;rcases e with e | e
 ·obtain⟨d,r,f,m⟩:=I.list e;refine SeqAt.in_listAt (M5 x) f.isList (λw hw=>jI g j r fs w (by simpa using hw)) ⟨.bl _,H,I,rfl,?_⟩;rw[show d.toArray.any (M5 x)=d.any (M5 x) by simp,l8 r fs];exact q
 ·obtain⟨d,r,f,m⟩:=I.tuple e;refine SeqAt.in_tupleAt (M5 x) f (λw hw=>jI g j r fs w (by simpa using hw)) ⟨.bl _,H,I,rfl,?_⟩;rw[show d.toArray.any (M5 x)=d.any (M5 x) by simp,l8 r fs];exact q
def sT:OpR X (SZ .NotIn) (Uk X.K J):=by
 intro i s M H x y v u Q I g l h;obtain⟨p,n,rfl,e,j,fs,q⟩:=h;cases l;rcases e with e | e
 ·obtain⟨d,r,f,m⟩:=I.list e;refine SeqAt.notIn_listAt (M5 x) f.isList (λw hw=>jI g j r fs w (by simpa using hw)) ⟨.bl _,H,I,rfl,?_⟩;rw[show d.toArray.any (M5 x)=d.any (M5 x) by simp,l8 r fs];exact q
 ·obtain⟨d,r,f,m⟩:=I.tuple e;refine SeqAt.notIn_tupleAt (M5 x) f (λw hw=>jI g j r fs w (by simpa using hw)) ⟨.bl _,H,I,rfl,?_⟩;rw[show d.toArray.any (M5 x)=d.any (M5 x) by simp,l8 r fs];exact q
def dA.or(h:dA X f r)(l:dA X f j):dA X f (λe H Q=>r e H Q\/j e H Q):=by
 intro d s M H e g Q I i q;rcases q with q | q
 ·exact h d s M H e g Q I i q
 ·exact l d s M H e g Q I i q
def se:dA X (.type "list") (λA H Q=>∃p g,A=[.ref p]/\(Kb X.K H p g\/Li X.K H p g)/\∀l,H l=L->Q (.ref l) (upd H l (.lst g))):=by
 intro m s M H A E Q I r h;obtain⟨p,g,rfl,v,q⟩:=h;obtain⟨u,rfl,D⟩:=vals1 r;cases D;have fin:∀(f:Wa),aQ g f->g.length<=KM->∀(d:UF)(j:Nat),(∀b C,s.heap.get? b=Z C->d.get? b=Z C) →
   d.get? s.heap.objs.size=Z { cls:=.type "list",dict:=L,data:=.seq f.toArray j,slots:=#[] }->EP X m M Q (.ref s.heap.objs.size) { s with heap:=d }:=λf i t d j kp e =>
  ⟨.ref s.heap.objs.size,_,I.laid kp (Zk _) (show da X.prog X.w _ d _ (.lst g) from⟨t,f,j,i,e⟩),rfl,q _ (I.JZ.fresh (Zk _))⟩
 rcases v with v | v
 ·obtain⟨f,i,x,t⟩:=I.list v;have hlen:=i.length;obtain⟨o,y,z,n,hd⟩:=x.isList;exact call_list_seq p (.inl Y) y z hd (λd j kp e=>fin f i t d j kp e) (by simp only[ZM]<;>lia)
 ·obtain⟨f,i,x,t⟩:=I.tuple v;have hlen:=i.length;obtain⟨o,y,z,n,hd⟩:=x;exact call_list_seq p (.inr Y) y z hd (λd j kp e=>fin f i t d j kp e) (by simp only[ZM]<;>lia)
def p5:dA X (.type "tuple") (λj H Q=>∃p d,j=[.ref p]/\((Kb X.K H p d/\∀l,H l=L->Q (.ref l) (upd H l (.tup d)))\/(Li X.K H p d/\Q (.ref p) H))):=by
 intro m s M H j z Q I r h;obtain⟨p,d,rfl,h⟩:=h;obtain⟨u,rfl,x⟩:=vals1 r;cases x;rcases h with⟨i,q⟩ | ⟨i,q⟩
 ·obtain⟨n,f,g,t⟩:=I.list i;have hlen:=f.length;refine call_tuple_list g.isList (λy kp=>?_) (by simp only[ZM]<;>lia);have v:=I.kept (t':=s.toks) kp;exact⟨.ref y.objs.size,_,(v.laid (t':=s.toks) (λb o e=>Zm _ e) (Zk _) (show da X.prog X.w _ _ _ (.tup d) from⟨t,n,f,Pj.new _ _,IsTup.new _ _⟩)),rfl,q _ (v.JZ.fresh (Zk _))⟩
 ·obtain⟨n,f,g,t⟩:=I.tuple i;exact call_tuple_same g ⟨.ref p,H,I,rfl,q⟩
def tyV(K:X3)(T:String)(x:V)(H:Hp):Prop:=match x with
 |.str _=>T = "str"
 |.int _=>T = "int"
 |.ref p=>(T = "list" ∧ ∃e,Kb K H p e)\/(T = "tuple" ∧ ∃o,K.lookup p=Z o/\o.cls=.type "tuple" ∧ o.dict=L) ∨
   (T = "dict" ∧ ((∃d,H p=Z (.dK d))\/∃d,H p=Z (.dT d)))\/(T = "set" ∧ ∃S n,H p=Z (.set S n))
 |_=>False
def He(I:Inv X f M H s)(r:RelV x v)(g:tyV X.K T x H) :
  s.TypeIs v T/\∀a,v=.ref a->∃j,s.heap.get? a=Z j/\j.dict=L:=by
 cases x with
 |str z =>
  obtain⟨t,rfl⟩:=r;cases (g);exact⟨W5 s z t,λ_ e=>nomatch e⟩
 |int i =>
  obtain⟨t,rfl⟩:=r;cases (g);exact⟨typeIs_int s i t,λ_ e=>nomatch e⟩
 |ref p =>
  cases r;rcases g with⟨rfl,u,m⟩ | ⟨rfl,o,d,q,hd⟩ | ⟨rfl,d⟩ | ⟨rfl,S,n,d⟩
  ·obtain⟨w,_,h,_⟩:=I.list m;refine⟨h.isList.typeIs,λa e=>?_⟩;cases e;obtain⟨o,n,e,c,hd,_⟩:=h;exact⟨o,e,hd⟩
  ·refine⟨⟨o,I.Ly p o d,q⟩,λa e=>?_⟩;cases e;exact⟨o,I.Ly _ o d,hd⟩
  ·have z:∃o,s.heap.get? p=Z o/\o.ExactDict:=by
    rcases d with⟨l,d⟩ | ⟨l,d⟩
    ·obtain⟨_,_,_,_,o,_,_,e,ex,_⟩:=I.JZ p _ d;exact⟨o,e,ex⟩
    ·obtain⟨_,_,_,_,o,_,_,e,ex,_⟩:=I.JZ p _ d;exact⟨o,e,ex⟩
   obtain⟨o,e,ex⟩:=z;refine⟨⟨o,e,ex.1⟩,λa e2=>?_⟩;cases e2;exact⟨o,e,ex.2.1⟩
  ·obtain⟨o,_,_,_,e,ex,_⟩:=I.JZ p _ d;refine⟨⟨o,e,ex.1⟩,λa e2=>?_⟩;cases e2;exact⟨o,e,ex.2.1⟩
 |_=>exact False.elim g
def tBM(K:X3)(T:String)(r:V->List V->Hp->VK->Prop)(f:TE)(t:TA):TE:=λM H Q=>f M H λx d=>tyV K T x d/\t M d λe g=>r x e g Q
def lI{X:Cx}{o:Expr}{es:List Expr}{to:TE}{t:TA}{name:Str}{apos pe:Pos}{T id:String}{r:V->List V->Hp->VK->Prop}(q:PlainAttrs T)(f:Slot T name id)(D:typeOf (.builtin id)=pure (.type "method_descriptor"))(y:Rv X id r)(w:PE X o to)(z:PA X (e :: es) t)(F:{`q2,XAA o name X.env (eval o X.env)=eval o X.env})(E:{`q2,((backTo pe (P3 (e :: es) X.env)).all (λx=>!x.1)&&(backToKw pe (SL [] X.env)).all (λx=>x.1.isSome)
   && decide ((e :: es).length+([]:List Keyword).length+(if ([]:List Keyword).isEmpty then 0 else 1)<30))=J})(G:{`q2,(apos.endLine==pe.line)=J})(u:{`q2,K1 e es X})(N:{`q2,K2 pe es X}) :
  PE X (.Call (.Attribute o name apos) (e :: es) [] pe) (tBM X.K T r to t):=by
 intro d s M H Q I h;refine wpAny_Call_method_late F E G Y (thn (w d s M H _ I h) λv s1 ⟨x,R,i,r1,ty,p⟩=>?_);obtain⟨C,A⟩:=He i r1 ty;refine⟨T,id,q,f,D,C,A,?_⟩;have g:=z pe d s1 M R _ i p;rw[u]at g ⊢;refine Calls.callWith_builtin (by show (B||(backTo pe (P3 es X.env)).any (·.1))=B;rw[N]<;>rfl) (Calls.evalArgs_plain ?_);exact thn g λl m ⟨j,P,O,r2,n⟩=>y d m M P x j v l Q O r1 r2 n
end
def MtM(X:Cx)(e:String)(r:V->List V->Hp->VK->Prop):Prop :=
 ∀(a:Z2)(s:KB)(M:St)(H:Hp)(x:V)(b:List V)(v:PP)(d:Wa)(Q:VK),Inv X a M H s->RelV x v->aQ b d->r x b H Q →
  Pi (KF X.prog X.w) X.A (call (.builtin e) (v :: d)) (EP X a M Q) X.xe s
def aQ.nil_inv(h:aQ [] a):a=[]:=by
 cases h;rfl
def aQ.cons_inv(h:aQ (x :: a) d):∃u b,d=u :: b/\RelV x u/\aQ a b:=by
 cases h with
 |cons r t=>exact⟨_,_,rfl,r,t⟩
def aQ.one(h:aQ [x] a):∃u,a=[u]/\RelV x u:=by
 obtain⟨u,b,rfl,r,t⟩:=h.cons_inv;rw[t.nil_inv];exact⟨_,rfl,r⟩
def aQ.two(h:aQ [x,y] a):∃u v,a=[u,v]/\RelV x u/\RelV y v:=by
 obtain⟨u,b,rfl,r,t⟩:=h.cons_inv;obtain⟨v,rfl,q⟩:=t.one;exact⟨_,_,rfl,r,q⟩
section
variable{H:Hp}
def Inv.VZ{d a:Wa}(I:Inv X pins M H s)(o:H l=Z (.lst xs))(e:s.heap.get? l=Z { cls:=.type "list",data:=.seq d.toArray n })(m:f d.toArray=a.toArray)(i:aQ ys a)(h:ys.length<=KM) :
  Inv X pins M (upd H l (.lst ys)) { s with heap:=s.heap.update l (Obj.mapSeq f),toks:=g }:=by
 have q:=PySem.IsL.update e f;rw[m]at q;refine I.write (x:=l) (e:=l) (by rw[o];exact trivial) (.inl Y) (λp u hb j=>(Yz s.heap (Obj.mapSeq f) (Yy hb)).trans j) ⟨_,q⟩ ?_;exact⟨h,a,_,i,q⟩
def Inv.V0(I:Inv X pins M H s)(f:aQ ys a)(e:ys.length<=KM) :
  Inv X pins M (upd H s.heap.objs.size (.lst ys)) { s with heap:=s.heap.push { cls:=.type "list",data:=.seq a.toArray },toks:=d } :=
 I.laid (λ_ _ q=>Zm _ q) (Zk _) ⟨e,a,0,f,Zc _ Y⟩
theorem Inv.fresh(I:Inv X pins M H s):H s.heap.objs.size=L:=I.JZ.fresh (Zk _)
def Inv.QJ(I:Inv X pins M H s)(d:H l=Z (.lst xs)):xs.length<=KM/\∃(a:Wa)(n:Nat),aQ xs a/\xs.length=a.length/\s.heap.get? l=Z { cls:=.type "list",data:=.seq a.toArray n }:=by
 obtain⟨z,a,n,r,e⟩:=I.JZ l _ d;exact⟨z,a,n,r,r.length,e⟩
end
section
def si:V->List V->Hp->VK->Prop:=λx b H Q=>∃l a y,x=.ref l/\b=[y]/\H l=Z (.lst a)/\a.length<KM/\Q .non (upd H l (.lst (a++[y])))
def fC:MtM X "list.append" si:=by
 intro a s M H x o v p Q I d f h;obtain⟨l,m,y,rfl,rfl,b,j,q⟩:=h;cases d;obtain⟨u,rfl,g⟩:=f.one;obtain⟨z,i,n,r,t,e⟩:=I.QJ b;refine call_meets F.slot_list_append ⟨_,e,rfl⟩ F.entry_list_append (F.args_list_append_2 _ _) (PySem.list_append l i.toArray n u (by rw[ZM];lia)) ⟨e,?_⟩;refine⟨.non,_,I.VZ b e (by simp) (r.append (.cons g .nil)) ?_,rfl,q⟩;rw[Zq,ZG];exact Nat.succ_le_of_lt j
def Jj:R2:=λx y H Q=>∃l b d a,x=.ref l/\y=.ref b/\H l=Z (.lst d)/\H b=Z (.lst a)/\d.length+a.length<=KM/\∀p,H p=L->Q (.ref p) (upd H p (.lst (d++a)))
def GM:OpR X (binaryOp .Add) Jj:=by
 intro a s M H x y v u Q I i g h;obtain⟨l,b,w,p,rfl,rfl,j,m,C,q⟩:=h;cases i;cases g;obtain⟨z,d,n,r,D,e⟩:=I.QJ j;obtain⟨t,f,A,r2,E,e2⟩:=I.QJ m;refine PySem.P.add_list e e2 ?_ (by rw[ZM,ZM];lia);have o:d.toArray++f.toArray=(d++f).toArray:=by simp
 rw[o];exact⟨.ref _,_,I.V0 (r.append r2) (by rw[Zq];omega),rfl,q _ I.fresh⟩
def len_rep{α:Type}(a:List α)(k:Nat):(List.replicate k a).flatten.length=k*a.length:=by
 induction k with
 |zero=>simp
 |succ k b=>rw[XE,ZK,Zq,b,Nat.succ_mul,Vp]
end
section
set_option maxRecDepth 100000 in
end
section
variable{κ:Type}[DecidableEq κ]
noncomputable def cX(b:List (κ×V))(k:κ):Option V:=(b.find? λa=>decide (a.1=k)).map (·.2)
noncomputable def putK(b:List (κ×V))(k:κ)(v:V):List (κ×V) :=
 if (b.any λa=>decide (a.1=k))=J then b.map (λa=>if a.1=k then (a.1,v) else a) else b++[(k,v)]
def cJ{p:κ×V}(e:p.1=k):cX (p :: r) k=Z p.2:=by simp[cX,Z6,e]
def du{p:κ×V}(e:¬p.1=k):cX (p :: r) k=cX r k:=by simp[cX,Z6,e]
theorem jN(k:κ):∀a:List (κ×V),(a.any λb=>decide (b.1=k))=(cX a k).isSome
 |[]=>rfl
 |p :: r=>by
  rw[YH];by_cases e:p.1=k
  ·simp only[cJ e,ZR e,Bool.true_or,Option.isSome_some]
  ·rw[du e,ZN e,Bool.false_or];exact jN k r
theorem uM(k j:κ)(y:V):∀b:List (κ×V),cX (b.map λa=>if a.1=k then (a.1,y) else a) j=(cX b j).map λx=>if j=k then y else x
 |[]=>rfl
 |p :: r=>by
  have d:=uM k j y r;rw[Zg];by_cases h:p.1=k
  ·rw[Zp h];by_cases e:p.1=j
   ·rw[cJ (p:=(p.1,y)) e,cJ e,YE,Zp (e.symm.trans h)]
   ·rw[du (p:=(p.1,y)) e,du e,d]
  ·rw[Zn h];by_cases e:p.1=j
   ·rw[cJ (p:=p) e,cJ e,YE,Zn (λz=>h (e.trans z))]
   ·rw[du (p:=p) e,du e,d]
theorem qO(k j:κ)(y:V):∀b:List (κ×V),cX b k=L->cX (b++[(k,y)]) j=if j=k then Z y else cX b j
 |[],_=>by
  by_cases e:k=j
  ·rw[Zp e.symm];exact cJ e
  ·rw[Zn (λz=>e z.symm)];exact du e
 |p :: r,a=>by
  rw[Xh];have d:¬p.1=k:=λz=>by rw[cJ z]at a;cases a
  rw[du d]at a;by_cases e:p.1=j
  ·rw[cJ e,cJ e,Zn (λz=>d (e.trans z))]
  ·rw[du e,du e,(qO k j y r a)]
def zA(b:List (κ×V))(k j:κ)(y:V):cX (putK b k y) j=if j=k then Z y else cX b j:=by
 unfold putK;by_cases a:(b.any λd=>decide (d.1=k))=J
 ·rw[Zp a,uM];rw[jN]at a;by_cases e:j=k
  ·obtain⟨x,f⟩:=Yi.mp a;rw[Zp e,e,f,YE,Zp Y]
  ·rw[Zn e];cases cX b j with
   |none=>rfl
   |some x=>rw[YE,Zn e]
 ·rw[Zn a];refine qO k j y b ?_;rw[jN]at a;cases q:cX b k with
  |none=>rfl
  |some x=>rw[q]at a;exact(a Y).elim
def fX(a:List (κ×V))(k:κ)(v:V):(putK a k v).length<=a.length+1:=by
 unfold putK;split
 ·rw[Zt];exact YU _ _
 ·rw[Zq,Zi,List.length_nil];exact Zk _
def jV.KH(r:jV o u):o.isSome=u.isSome:=by
 cases o with
 |none=>cases u with
  |none=>rfl
  |some _=>exact(r).elim
 |some _=>cases u with
  |none=>exact(r).elim
  |some _=>rfl
theorem jV.getD{o:Option V}(r:jV o u)(b:RelV d a):RelV (o.getD d) (u.getD a):=by
 cases o with
 |none=>cases u with
  |none=>exact b
  |some _=>exact(r).elim
 |some _=>cases u with
  |none=>exact(r).elim
  |some _=>exact r
def KV.val(r:KV f d)(k:κ):jV (cX f k) (valueAt d k):=by
 induction r with
 |nil=>exact True.intro
 |@cons p q ps a h t i =>
  obtain⟨g,j⟩:=h;by_cases e:p.1=k
  ·have b:valueAt (q :: a) k=Z q.2:=by simp[valueAt,Z6,(g.symm.trans e)]
   rw[cJ e,b];exact j
  ·have l:¬q.1=k:=λz=>e (g.trans z);have b:valueAt (q :: a) k=valueAt a k:=by simp[valueAt,Z6,l]
   rw[du e,b];exact i
theorem KV.any(r:KV d b)(k:κ):(d.any λa=>decide (a.1=k))=b.any λa=>decide (a.1=k):=by
 induction r with
 |nil=>rfl
 |cons h t e=>rw[YH,YH,e,h.1]
def KV.QD(r:KV f d)(k:κ)(g:RelV y u) :
  KV (f.map λa=>if a.1=k then (a.1,y) else a) (d.map λa=>if a.1=k then (a.1,u) else a):=by
 induction r with
 |nil=>exact .nil
 |@cons p q ps l h t i =>
  rw[Zg,Zg];refine .cons ?_ i;obtain⟨b,j⟩:=h;by_cases e:p.1=k
  ·rw[Zp e,Zp (b.symm.trans e)];exact⟨b,g⟩
  ·rw[Zn e,Zn (λz=>e (b.trans z))];exact⟨b,j⟩
def KV.put(r:KV d a)(k:κ)(b:RelV y u):KV (putK d k y) (stored a k u):=by
 unfold putK stored;rw[r.any k];by_cases e:(a.any λf=>decide (f.1=k))=J
 ·rw[Zp e,Zp e];exact r.QD k b
 ·rw[Zn e,Zn e];exact Paired.snoc r ⟨rfl,b⟩
def KV.keys{b:List (κ×V)}{a:List (κ×PP)}(r:KV b a):b.map (·.1)=a.map (·.1):=by
 induction r with
 |nil=>rfl
 |cons h t d=>rw[Zg,Zg,d,h.1]
theorem KV.length{b:List (κ×V)}(r:KV b a):b.length=a.length:=X6 r
end
def lU(r:RelV (kV k) u):(aU P w).is k u=J:=by
 cases k with
 |inl i=>obtain⟨t,e⟩:=(r);subst e;exact uH P w i t
 |inr x=>obtain⟨t,e⟩:=(r);subst e;exact uF P w x t
theorem qy:∀{ks:List Key}{a:Wa},aQ (ks.map kV) a->ItemsAre (aU P w) ks a
 |[],_,r=>by rw[List.map_nil]at r;cases r;exact .nil
 |k :: ks,_,r=>by
  rw[Zg]at r;cases r with
  |cons h t=>exact .cons (lU h) (qy t)
abbrev KT(H:Hp):List (List Key×V)->List (List Key×On×PP)->Prop:=Paired λp q=>p.1=q.1/\H q.2.1=Z (.tup (p.1.map kV))/\RelV p.2 q.2.2
def KT.val(r:KT H f d)(k:List Key):jV (cX f k) ((atKey d k).map (·.2)):=by
 induction r with
 |nil=>exact True.intro
 |@cons p q ps a h t i =>
  obtain⟨g,_,j⟩:=h;by_cases e:p.1=k
  ·have b:atKey (q :: a) k=Z q.2:=by simp[atKey,Z6,(g.symm.trans e)]
   rw[cJ e,b];exact j
  ·have l:¬q.1=k:=λz=>e (g.trans z);have b:atKey (q :: a) k=atKey a k:=by simp[atKey,Z6,l]
   rw[du e,b];exact i
def KT.QD(r:KT H f d)(k:List Key)(i:RelV y u) :
  KT H (f.map λb=>if b.1=k then (b.1,y) else b) (d.map (putAt k u)):=by
 induction r with
 |nil=>exact .nil
 |@cons p q ps m h t j =>
  rw[Zg,Zg];refine .cons ?_ j;obtain⟨a,g,l⟩:=h;unfold putAt;by_cases e:p.1=k
  ·rw[Zp e,Zp (a.symm.trans e)];exact⟨a,g,i⟩
  ·rw[Zn e,Zn (λz=>e (a.trans z))];exact⟨a,g,l⟩
def KT.put(r:KT H d a)(k:List Key)(h:H b=Z (.tup (k.map kV)))(f:RelV y u) :
  KT H (putK d k y) (storedH a k b u):=by
 have e:(d.any λg=>decide (g.1=k))=(atKey a k).isSome:=by
  rw[jN,(r.val k).KH,Xp]
 unfold putK storedH;rw[e];by_cases q:(atKey a k).isSome=J
 ·rw[Zp q,Zp q];exact r.QD k f
 ·rw[Zn q,Zn q];exact Paired.snoc r ⟨rfl,h,f⟩
def KT.keeps(r:KT H e d)(g:∀b a,H b=Z (.tup a)->f b=Z (.tup a)):KT f e d :=
 Paired.OX r λ_ _ z=>⟨z.1,g _ _ z.2.1,z.2.2⟩
section
variable{H:Hp}
def ET(b:Lj P w H h)(e:Rd H a u):da P w H h a u:=e.ok b
def ny(f:Lj P w H h)(e:Rd H a (.dK b)):b.length<=KM/\(a==sysModules)=B/\∃d,KV b d/\h.DictOf (aU P w) a d :=
 ET f e
def qg(f:Lj P w H h)(e:H a=Z (.dK b)):b.length<=KM/\(a==sysModules)=B/\∃d,KV b d/\h.DictOf (aU P w) a d:=ny f (.inl e)
def dB{b:List Key}(f:Lj P w H h)(e:H a=Z (.tup (b.map kV))):(tupleKind (aU P w)).is h b a:=by
 obtain⟨_,d,r,_,o,j,i,n,g⟩:=(f a _ e)
 exact⟨o,d.toArray,n,j,i,g,by simpa using qy r⟩
def pB(g:Lj P w H h)(e:Rd H a (.dT f)):f.length<=KM/\(a==sysModules)=B ∧
  ∃d,KT H f d/\h.DictOfH (tupleKind (aU P w)) a d:=by
 obtain⟨z,y,d,r,o,C,D,A,v,u,s,n⟩:=(ET g e)
 refine⟨z,y,d,r,o,C,D,A,v,u,s,λx b=>?_,n⟩;have all:∀{l:List (List Key×V)}{m:List (List Key×On×PP)},KT H l m->∀x∈m,(tupleKind (aU P w)).is h x.1 x.2.1:=by
  intro l m q
  induction q with
  |nil=>intro x b;exact nomatch b
  |@cons p q ps E i t j =>
   intro x b;rcases Zo.mp b with e | b
   ·subst e;exact dB g (by rw[← i.1];exact i.2.1)
   ·exact j x b
 exact all r x b
def HN(f:Lj P w H h)(e:H a=Z (.dT b)):b.length<=KM/\(a==sysModules)=B ∧
  ∃d,KT H b d/\h.DictOfH (tupleKind (aU P w)) a d:=pB f (.inl e)
end
def iN(H:Hp)(a:On)(y:V)(r:Option V):Prop :=
 (∃d k,Rd H a (.dK d)/\y=kV k/\r=cX d k)\/∃d k b,Rd H a (.dT d)/\y=.ref b/\H b=Z (.tup (k.map kV))/\r=cX d k
def uk(H:Hp)(a:On)(y v:V)(e:Hp):Prop :=
 (∃d k,H a=Z (.dK d)/\y=kV k/\d.length<KM/\e=upd H a (.dK (putK d k v))) ∨
 ∃d k b,H a=Z (.dT d)/\y=.ref b/\H b=Z (.tup (k.map kV))/\d.length<KM/\e=upd H a (.dT (putK d k v))
theorem iN.k{a:On}{b:List (Key×V)}{k:Key}(e:H a=Z (.dK b)):iN H a (kV k) (cX b k):=.inl ⟨b,k,.inl e,rfl,rfl⟩
theorem uk.k{a:On}{b:List (Key×V)}{k:Key}{v:V}(e:H a=Z (.dK b))(d:b.length<KM):uk H a (kV k) v (upd H a (.dK (putK b k v))):=.inl ⟨b,k,e,rfl,d,rfl⟩
section
variable{H:Hp}
def Inv.big(I:Inv X pins M H s):sysModules<s.heap.objs.size:=by
 exact X7 (by decide) ((I.mod.glob.keeps I.bk).lt)
def yy{A:SC}(t:A.units+1<cLine)(I:Inv X pins M H s)(g:iN H a y (Z v))(n:RelV y u)(h:∀d m,Inv X pins M H m->RelV v d->Q d m) :
  Pi (KF X.prog X.w) A (getItem (.ref a) u) Q E s:=by
 rcases g with⟨q,k,e,f,l⟩ | ⟨q,k,b,e,f,C,l⟩
 ·subst f;obtain⟨z,hd,G,rel,i⟩:=ny I.JZ e;obtain⟨d,hw,j⟩:=jV.some_of (v:=v) (by rw[l];exact rel.val k);exact wpAny_getItem_of (lU n) i.mapOf hw (h d _ (I.tok _) j)
 ·subst f;cases (n);obtain⟨z,hd,F,rel,i⟩:=pB I.JZ e;obtain⟨d,hw,j⟩:=jV.some_of (v:=v) (by rw[l];exact rel.val k);obtain⟨p,x,D⟩:=Zw.mp hw;refine wpAny_getItem_heap (Wu t) (dB I.JZ C) i x ?_;rw[D];exact h d _ (I.tok _) j
def JS{A:SC}(n:A.units+1<cLine)(I:Inv X pins M H s)(g:iN H a y o)(j:RelV y u)(h:∀i,Inv X pins M H i->Q (.bool o.isSome) i) :
  Pi (KF X.prog X.w) A (SZ .In u (.ref a)) Q E s:=by
 rcases g with⟨m,k,e,d,l⟩ | ⟨m,k,b,e,d,p,l⟩
 ·subst d;obtain⟨z,hd,x,rel,f⟩:=ny I.JZ e;refine wpAny_in_of (lU j) hd f.mapOf ?_;rw[← (rel.val k).KH,← l];exact h _ (I.tok _)
 ·subst d;cases (j);obtain⟨z,hd,t,rel,f⟩:=pB I.JZ e;refine wpAny_in_heap (Wu n) (dB I.JZ p) hd f ?_;have q:=(rel.val k).KH;rw[Xp]at q;rw[← q,← l];exact h _ (I.tok _)
def Ea{A:SC}(n:A.units+1<cLine)(I:Inv X pins M H s)(g:iN H a y o)(j:RelV y u)(h:∀i,Inv X pins M H i->Q (.bool (!o.isSome)) i) :
  Pi (KF X.prog X.w) A (SZ .NotIn u (.ref a)) Q E s:=by
 rcases g with⟨m,k,e,d,l⟩ | ⟨m,k,b,e,d,p,l⟩
 ·subst d;obtain⟨z,hd,x,rel,f⟩:=ny I.JZ e;refine wpAny_notIn_of (lU j) hd f.mapOf ?_;rw[← (rel.val k).KH,← l];exact h _ (I.tok _)
 ·subst d;cases (j);obtain⟨z,hd,t,rel,f⟩:=pB I.JZ e;refine wpAny_notIn_heap (Wu n) (dB I.JZ p) hd f ?_;have q:=(rel.val k).KH;rw[Xp]at q;rw[← q,← l];exact h _ (I.tok _)
def lD(I:Inv X pins M H s)(i:J8 (H a))(j:Heap.SameBut a s.heap d)(he:∃q,d.get? a=Z q)(g:da X.prog X.w (upd H a f) d a f) :
  Inv X pins M (upd H a f) { s with heap:=d,toks:=h } :=
 I.write (x:=a) (e:=a) i (.inl Y) (λb q hb z=>(j.2 b hb).trans z) he g
def pD{f:UF}{e:List (Key×V)}(z:e.length<=KM)(g:(a==sysModules)=B)(d:KV e b)(h:f.DictOf (aU P w) a b) :
  da P w i f a (.dK e):=⟨z,g,b,d,h⟩
def yB{A:SC}(N:A.units+1<cLine)(I:Inv X pins M H s)(g:uk H a y v G)(x:RelV y u)(C:RelV v r)(h:∀t,Inv X pins M G t->Q () t) :
  Pi (KF X.prog X.w) A (setItem (.ref a) u r) Q E s:=by
 rcases g with⟨i,k,e,m,l,n⟩ | ⟨i,k,b,e,m,F,l,n⟩
 ·subst m n;obtain⟨z,hd,vs,rel,p⟩:=qg I.JZ e;refine wpAny_setItem_pairs (hsz:=(by rw[← rel.length];exact z)) (lU x) p λU f j=>h _ ?_;exact lD I (by rw[e];exact True.intro) j (let ⟨q,_,_,d,_⟩:=f;⟨q,d⟩) (pD (by have:=fX i k v;lia) hd (rel.put k C) f)
 ·subst m n;cases (x);obtain⟨z,hd,xs,rel,p⟩:=HN I.JZ e;refine wpAny_setItem_heap (hsz:=(by rw[← X6 rel];exact z)) (Wu N) (dB I.JZ F) p λU f j=>h _ ?_;obtain⟨q,Y,ep,d,S,R,P,_,O⟩:=f;refine lD I (by rw[e];exact True.intro) j ⟨q,d⟩ ⟨(by have:=fX i k v;lia),hd,_,(rel.put k F C).keeps λc ys D=>?_,q,Y,ep,d,S,R,P,O⟩;rw[aw (Jk D e (λz=>nomatch z))];exact D
end
section
variable{H:Hp}
def HZ(I:Inv X pins M H s)(e:Rd H a (.dK jj))(h:∀t b,Inv X pins M H b->Q (.int jj.length t) b):Pi (KF X.prog X.w) A (call (.builtin "len") [.ref a]) Q E s:=by
 obtain⟨z,hd,f,rel,d⟩:=ny I.JZ e;refine call_len_dict hd d (by rw[← rel.length];rw[XX]at z;lia) ?_;rw[← rel.length];exact h _ _ (I.tok _)
end
def tV(I:Inv X d M H s)(g:iN H a y o):s.TypeIs (.ref a) "dict" := by
 rcases g with⟨h,k,e,_,_⟩ | ⟨h,k,b,e,_,_,_⟩
 ·obtain⟨_,_,j,_,f⟩:=ny I.JZ e;exact f.typeIs
 ·obtain⟨_,_,i,_,f⟩:=pB I.JZ e;exact f.typeIs
def uC{w:UV}(h:UF)(a:sysModules<h.objs.size):da P w H (h.push { cls:=.type "dict",data:=.dict #[] }) h.objs.size (.dK []) :=
 ⟨Yk _,beq_eq_false_iff_ne.mpr (Yy (Zf a)),[],.nil,Heap.DictOf.new h⟩
def FD:TE:=λ_ H Q=>∀p,H p=L->Q (.ref p) (upd H p (.dK []))
section
def BQ:PE X (.Dict [] [] pos) FD:=λa s M H Q I h =>
 wpAny_Dict_empty ⟨.ref s.heap.objs.size,_,I.laid (λ_ _ q=>Zm _ q) (Zk _) (uC s.heap I.big),rfl,h _ (I.JZ.fresh (Zk _))⟩
end
noncomputable def we:List (TE×TE)->St->Hp->(List (V×V)->Hp->Prop)->Prop
 |[],_,H,Q=>Q [] H
 | (b,a) :: r,M,H,Q=>b M H λx f=>a M f λy e=>we r M e λps d=>Q ((x,y) :: ps) d
abbrev VV:List (V×V)->List (PP×PP)->Prop:=Paired λp q=>RelV p.1 q.1/\RelV p.2 q.2
def PPs(X:Cx)(e:Pos)(d:List (Option Expr))(a:List Expr)(i:List (TE×TE)):Prop :=
 ∀(b:Z2)(s:KB)(M:St)(H:Hp)(Q:List (V×V)->Hp->Prop),Inv X b M H s->we i M H Q →
  Pi (KF X.prog X.w) X.A (evalPairs (pairTrees d a X.env e)) (λg h=>∃ps f,Inv X b M f h/\VV ps g/\Q ps f) X.xe s
def xA:PPs X a [] [] []:=λb s M H Q I h=>pairTrees_nil_walk ⟨[],H,I,.nil,h⟩
def uG(t:PE X k f)(q:PE X v e)(r:PPs X b g d i) :
  PPs X b (Z k :: g) (v :: d) ((f,e) :: i):=λa s M H Q I h =>
 pairTrees_cons_walk (thn (t a s M H _ I h) λu s1 ⟨x,E,A,m,p⟩=>thn (q a s1 M E _ A p) λG j ⟨y,D,z,l,o⟩ =>
  thn (r a j M D _ z o) λF N ⟨ps,C,w,rel,n⟩=>⟨(x,y) :: ps,C,w,.cons ⟨m,l⟩ rel,n⟩)
def rJ(d a:List (Key×V)):List (Key×V):=a.foldl (λacc b=>putK acc b.1 b.2) d
def KV.merge:∀{more:List (Key×V)}{d:List (Key×PP)}{b:List (Key×V)}{a:List (Key×PP)},KV more d->KV b a->KV (rJ b more) (merged a d):=by
 intro more d b a r
 induction r generalizing b a with
 |nil=>intro q;exact q
 |@cons p q ps i h t g =>
  intro f;have e:KV (putK b p.1 p.2) (stored a q.1 q.2):=by
   have:=f.put p.1 h.2;rw[← h.1];exact this
  exact g e
theorem ko:∀(more a:List (Key×V)),(rJ a more).length<=a.length+more.length
 |[],a=>by exact YU _ _
 |p :: r,a=>by
  have d:=ko r (putK a p.1 p.2);have b:=fX a p.1 p.2;show (rJ (putK a p.1 p.2) r).length<=_;rw[Zi];lia
theorem ou{P:SB}{w:UV}:∀{e:List (Key×V)}{f:List (PP×PP)},VV (e.map λg=>(kV g.1,g.2)) f->∃d,Carries (aU P w) f d/\KV e d
 |[],_,r=>by rw[List.map_nil]at r;cases r;exact⟨[],True.intro,.nil⟩
 |p :: e,_,r=>by
  rw[Zg]at r;cases r with
  |@cons a b l bs h t =>
   obtain⟨d,c,q⟩:=ou (P:=P) (w:=w) t;obtain⟨j,i⟩:=b;exact⟨(p.1,i) :: d,⟨lU h.1,rfl,c⟩,.cons ⟨rfl,h.2⟩ q⟩
def Iq(e:List (TE×TE)):TE:=λM H Q=>∀p,H p=L->we e M (upd H p (.dK [])) λps d=>d p=Z (.dK [])/\∃a:List (Key×V),ps=a.map (λb=>(kV b.1,b.2))/\a.length<=15/\Q (.ref p) (upd d p (.dK (rJ [] a)))
def yd(h:PPs X d a b i)(E:a.all (·.isSome)=J)(x:a.length=b.length)(A:a≠[])(g:a.length<=15):PE X (.Dict a b d) (Iq i):=by
 intro f s M H Q I q;have F:=I.laid (t':=s.toks) (λ_ _ q=>Zm _ q) (Zk _) (uC s.heap I.big);refine wpAny_Dict_walk (knd:=aU X.prog X.w) E x A g (thn (h f _ M _ _ F (q _ (I.JZ.fresh (Zk s.heap.objs.size)))) λG N ⟨ps,P,l,rel,e,t,C,lk,r⟩=>?_);subst C;obtain⟨n,c,o⟩:=ou (w:=X.w) rel;obtain⟨z,hd,m,p,D⟩:=qg l.JZ e;cases p;refine⟨n,c,D,λO j u=>⟨.ref s.heap.objs.size,_,?_,rfl,r⟩⟩;exact lD l (by rw[e];exact True.intro) u (let ⟨q,_,_,v,_⟩:=j;⟨q,v⟩) (pD (by
  have y:=ko t [];rw[List.length_nil]at y;rw[XX];lia) hd (o.merge .nil) j)
structure Mq1(X:Cx)(o:Expr)(m:Str)(apos:Pos)(e:Expr)(pe:Pos):Prop where
 base:XAA o m X.env (eval o X.env)=eval o X.env
 Lq:((backTo pe (P3 [e] X.env)).all (λx=>!x.1)&&(backToKw pe (SL [] X.env)).all (λx=>x.1.isSome)
  && decide (([e]:List Expr).length+([]:List Keyword).length+(if ([]:List Keyword).isEmpty then 0 else 1)<30))=true
 line:(apos.endLine==pe.line)=true
 trees:backTo pe (P3 [e] X.env)=[(false,eval e X.env)]
structure Mq2(X:Cx)(o:Expr)(m:Str)(apos:Pos)(e f:Expr)(pe:Pos):Prop where
 base:XAA o m X.env (eval o X.env)=eval o X.env
 Lq:((backTo pe (P3 [e,f] X.env)).all (λx=>!x.1)&&(backToKw pe (SL [] X.env)).all (λx=>x.1.isSome)
  && decide (([e,f]:List Expr).length+([]:List Keyword).length+(if ([]:List Keyword).isEmpty then 0 else 1)<30))=true
 line:(apos.endLine==pe.line)=true
 trees:backTo pe (P3 [e,f] X.env)=[(false,eval e X.env),(false,eval f X.env)]
def IsD(H:Hp)(a:On):Prop:=(∃b,Rd H a (.dK b))\/∃b,Rd H a (.dT b)
def FY(I:Inv X g M H s)(d:IsD H a) :
  s.TypeIs (.ref a) "dict" ∧ (∀b,Value.ref a=.ref b->∃f,s.heap.get? b=Z f/\f.dict=L)/\(a==sysModules)=B:=by
 rcases d with⟨l,e⟩ | ⟨l,e⟩
 ·obtain⟨_,hd,n,_,h⟩:=ny I.JZ e;refine⟨h.typeIs,λb q=>?_,hd⟩;cases q;obtain⟨f,_,_,j,i,_⟩:=h;exact⟨f,j,i.2.1⟩
 ·obtain⟨_,hd,m,_,h⟩:=pB I.JZ e;refine⟨h.typeIs,λb q=>?_,hd⟩;cases q;obtain⟨f,_,_,j,i,_⟩:=h;exact⟨f,j,i.2.1⟩
section
variable{H:Hp}
def E2{A:SC}(t:A.units+1<cLine)(I:Inv X pins M H s)(g:iN H a y o)(n:RelV y u)(h:∀j m,Inv X pins M H m->RelV (o.getD .non) j->Q j m) :
  Pi (KF X.prog X.w) A (call (.builtin "dict.get") [.ref a,u]) Q E s:=by
 rcases g with⟨q,k,e,i,l⟩ | ⟨q,k,b,e,i,v,l⟩
 ·subst i;obtain⟨z,hd,x,rel,f⟩:=ny I.JZ e;refine call_meetsIn WC f.typeIs PySem.F.entry_dict_get (PySem.F.args_dict_get_2 _ _) (meets_dict_get (aU X.prog X.w) a (lU n) hd) ⟨_,f.mapOf,h _ _ (I.tok _) ?_⟩;rw[l];exact(rel.val k).getD Y
 ·subst i;cases (n);obtain⟨z,hd,p,rel,f⟩:=pB I.JZ e;refine call_meetsIn WC f.typeIs PySem.F.entry_dict_get (PySem.F.args_dict_get_2 _ _) (meetsH_dict_get (tupleKind (aU X.prog X.w)) a b hd) ⟨Wu t,k,p,dB I.JZ v,f,h _ _ (I.tok _) ?_⟩;rw[l];exact(rel.val k).getD Y
end
def GW(f e:TE):TE:=λM H Q=>f M H λx d=>∃a,x=.ref a/\IsD d a/\e M d λy b=>∃o,iN b a y o/\Q (o.getD .non) b
section
def zL{X:Cx}(r:X.A.units+1<cLine)(t:PE X o td)(he:PE X e ty)(m:Mq1 X o "get" apos e pe):PE X (.Call (.Attribute o "get" apos) [e] [] pe) (GW td ty):=by
 intro b s M H Q I h;refine wpAny_Call_method m.base m.Lq m.line PySem.F.plainAttrs_dict WC PySem.F.type_dict_get (thn (t b s M H _ I h) λu s1 ⟨x,D,i,n,a,ex,d,q⟩=>?_);subst ex;obtain rfl:u=Value.ref a:=n;obtain⟨j,t2,_⟩:=FY i d;refine⟨j,t2,?_⟩;rw[m.trees];refine Calls.callWith_builtin Y (Calls.evalArgs_plain (Calls.spliced_cons (thn (he b s1 M D _ i q) λiv N ⟨y,C,z,l,O,g,p⟩=>Calls.spliced_nil ?_)));exact E2 r z g l λE G w v=>⟨_,C,w,v,p⟩
end
end L2
namespace Att
open PySem PySem.W PySem.Calls PyProof.Rows
def nL:∀(ns:Vg)(d:Wa),WellAll P h d (ns.map WData.int)->IntsAre d ns:=by
 intro ns
 induction ns with
 |nil =>
  intro d w;rw[List.map_nil]at w;cases w;exact .nil
 |cons n ns e =>
  intro d w;rw[Zg]at w;cases w with
  |cons a b =>
   cases a;exact .cons _ _ (e _ b)
def ze{l:OpenLaw}(s:l.most=Z n)(j:l.row.toRowW.claim.pre b=J)(x:WellAll P h e b) :
  ∃a g ns,e=[Value.ref a]/\b=[WData.list (ns.map WData.int)]/\h.get? a=Z { cls:=.type "list",data:=.seq g.toArray }/\IntsAre g ns/\ns.length<=n:=by
 have t:l.pre.holds [] { args:=b }=J:=(pre_splitW j).2;obtain⟨d,r,rfl,w,v⟩:=hasAllW_cons ((pre_splitW j).1);obtain rfl:=hasAllW_nil v;obtain⟨z,rfl,u⟩:=hasW_list w;obtain⟨ns,rfl⟩:=items_int u;have hlen:ns.length<=n:=by
  have f:=condW_of (by
   have i:=(holds_andW t).1;rw[s]at i;exact i) (w_not (w_lt w_lit (w_len_list (w_arg Y))))
  rw[Zt]at f;refine ZO λq=>?_
  first
   | (rw[ZR (by omega)]at f;exact absurd f (by decide))
   | (omega)
 cases x with
 |cons o m =>
  cases m;cases o with
  |list p y=>exact⟨_,_,ns,rfl,rfl,p,nL ns _ y,hlen⟩
def zp(l:OpenLaw)(a:List WData):l.row.toRowW.claim.post a (.bool J) a=J :=
 postW_of
  (by first | rfl | decide | simp[WShape.has,WShape.arms,WShape.armsAll])
  (w_eq_bool (w_res Y) w_lit) Y
def uQ{l:OpenLaw}{d:DefRec}(A:l.most=Z n)(P:d.params.defaults=[])(i:∀(w:UV)(m b:KB)(mg p:Wi)(h:On)(o:Obj)(pm cd doc:PP)(a:On)(g:Wa)(ns:Vg),
   Ground q e [] x w m mg p b.heap->v w b.heap →
   b.heap.get? h=Z o->o.data=.func (docDef d.name d.params d.body d.scope pm cd doc)->b.heap.CodeRec cd d.name->mg d.name=Z (.ref h) →
   b.heap.get? a=Z { cls:=.type "list",data:=.seq g.toArray }->IntsAre g ns->ns.length<=n->b.gens=#[] →
   codeAny (KF l.prog w) callerA (.call (.ref h) ⟨[.ref a],[]⟩) (λr j=>r=.ok (.ret (.bool J))/\OldK b.heap j.heap/\j.os=b.os/\AllBare j.gens) b) :
  WalkO q e x v l.row.toRowW d [] (λf g=>PySem.call f g):=by
 intro w m b mg p G Y h o pm cd doc H kV z hd Q u s hg args vals R O t S M U;obtain rfl:H=.none:=Dflts.none u P;obtain rfl:kV=.none:=Dflts.noKw u;obtain⟨a,g,ns,rfl,rfl,N,hints,hlen⟩:=ze A O M;refine enter_call (XA (i w m b mg p h o pm cd doc a g ns G Y z (fd_plain hd) Q s N hints hlen hg) λr j y=>?_);obtain⟨rfl,F,E,D⟩:=y;exact⟨.inl ⟨.bool J,.bool J,[],rfl,λ_=>rfl,.bool J,zp l _,λ_=>⟨List.Pairwise.nil,λ_ C=>(nomatch C)⟩⟩,F,E,D⟩
end Att
namespace L2
open PySem PySem.Spec PyProof.Rows
theorem mK:∀{a:Wa}{ns:Vg},IntsAre a ns->aQ (ns.map V.int) a
 |_,_,.nil=>.nil
 |_,_,.cons n t h=>.cons ⟨t,rfl⟩ (mK h)
noncomputable def inClass(s:Stmt)(j:Nat):Stmt:=match s with
 |.ClassDef _ _ _ body _ _ _ _ _ _ _=>body.getD j (.Pass ⟨0,0,0,0⟩)
 |_=>.Pass ⟨0,0,0,0⟩
noncomputable def d5(s:Stmt):Arguments:=match s with
 |.FunctionDef _ a _ _ _ _ _ _ _ _=>a
 |_=>{ posonlyargs:=[],args:=[],vararg:=L,kwonlyargs:=[],kw_defaults:=[],kwarg:=L,defaults:=[] }
noncomputable def bg(s:Stmt):List Stmt:=match s with
 |.FunctionDef _ _ b _ _ _ _ _ _ _=>b
 |_=>[]
def ah(s:Stmt):Scope:=match s with
 |.FunctionDef _ _ _ _ _ _ sc _ _ _=>sc
 |_=>{ kind:=.function,names:=[],isGenerator:=B,isCoroutine:=B }
noncomputable abbrev KL:Ov:=λ_ _ _ _ _ _=>False
noncomputable abbrev E0:XK:=λ_ _ _=>False
def qr{X:Cx}:kU KL X E0:=λ_ _ _ _ _ _ _ h=>h.elim
structure J4(K:X3)(x qual:Str)(st:Stmt)(f:On)(fd:Re):Prop where
 ex:∃(oc:PP)(od:Option On)(kV doc pm:PP)(an:Option On)(J9 ct:PP)(Nu:Array (Vt)),
  fd=PySem.W.fnOf x qual (d5 st) (bg st) (ah st) .none kV doc pm an J9 ct/\K.lookup f=some ⟨oc,od,.func fd,Nu⟩/\PySem.W.codeIn K J9 qual=true
 kp:PySem.W.keepIn K (.ref f)=true
section
variable{K:X3}
def J4.ok(F:J4 K x a d f l)(S:oe N i (ah d))(j:∀b H Q E,g b H Q E->b.length=i.length)(o:∀(e:PP)(A:SC)(outer:List Env)(s:KB)(H:Hp)(b:List V)(Q:VK)(E:XK),JY k (A.deeper (envOfC a (ah d) s.heap.objs.size f e))->g b H Q E →
   ∃t,LZ (jC KL P w K mg base N a (ah d) f e A outer s H E).My (bg d) t/\t { nx:=λ_ r=>Q .non r,rt:=Q } (start N b) H):FnOk P w K mg base KL (k+1) f l i g:=by
 obtain⟨oc,u,kV,doc,pm,an,e,ct,v,rfl,lk,p⟩:=F.ex;refine EU lk p S j λA outer s H b Q E m n=>?_;obtain⟨t,h,q⟩:=o e A outer s H b Q E m n;exact⟨t,h.My,q⟩
def J4.binds{e:List Str}(F:J4 K x a b f i)(h:∀(kV doc pm:PP)(an:Option On)(g ct:PP)(d:Wa),d.length=e.length->bindArgs (PySem.W.fnOf x a (d5 b) (bg b) (ah b) .none kV doc pm an g ct) ⟨d,[]⟩=pure (e.zip d)):Binds K i e []:=by
 obtain⟨oc,j,kV,doc,pm,an,g,ct,l,rfl,lk,m⟩:=F.ex;exact .all (h kV doc pm an g ct)
def AD{st:Stmt}(l:K.lookup f=Z ⟨m,j,.func (PySem.W.fnOf x a (d5 st) (bg st) (ah st) .none g b e i d h),n⟩)(c:PySem.W.codeIn K d a=J)(k:PySem.W.keepIn K (.ref f)=J):J4 K x a st f (PySem.W.fnOf x a (d5 st) (bg st) (ah st) .none g b e i d h):=⟨⟨m,j,g,b,e,i,d,h,n,rfl,l,c⟩,k⟩
end
def j3(a:JY k A):A.units+1<cLine:=WZ (Nat.add_le_add_left (by decide:1<=64) _) a.units
section
def pv{X:Cx}(i:Nat)(e:{`q2,X.N[i]?=Z x})(b:{`q5,L6 X.env.scope x})(d:{`q1,K3 x})(f:{`q1,K4 x}):PE X (.Name x a) (Ir i):=dS e b d f
end
def yw{A B:Prop}(h:B):if false=J then A else B:=by
 rw[Zn ZX];exact h
def zo{A B:Prop}(h:A):if J=J then A else B:=by
 rw[Zp Y];exact h
noncomputable def aI(H a:Hp):Prop:=∀b o,H b=Z o->a b=Z o
def aI.refl(H:Hp):aI H H:=λ_ _ h=>h
def aI.trans{e:Hp}(a:aI H e)(b:aI e d):aI H d:=λc o h=>b c o (a c o h)
def aI.free(e:aI H a)(h:a l=L):H l=L:=by
 cases q:H l with
 |none=>rfl
 |some o =>
  rw[e l o q]at h;cases h
def aI.seq{K:X3}(e:aI H d)(h:Kb K H a b):Kb K d a b:=by
 rcases h with (h | ⟨o,h⟩) | h
 ·exact .inl (.inl (e _ _ h))
 ·exact .inl (.inr ⟨o,e _ _ h⟩)
 ·exact .inr h
end L2
end
section
namespace L2
open PySem PySem.Spec PyProof.Rows
abbrev pU:=List (List Key)
def hN(w:UV)(k:pU):Int:=reduceHash (Builtin.Tuple.tupleHashOf (k.map λx=>reduceHash (Builtin.Tuple.tupleHashOf (x.map (Jl w)))))
def Jq(w:UV)(x:pU×On×PP):DictEntry:=⟨hN w x.1,.ref x.2.1,x.2.2⟩
abbrev KN:List (pU×On×V)->List (pU×On×PP)->Prop:=Paired λp q=>p.1=q.1/\p.2.1=q.2.1/\RelV p.2.2 q.2.2
def DN(a:On)(d:List (pU×On×V)):HO:=.ext λw h=>d.length<=KM/\(a==sysModules)=B/\∃b:List (pU×On×PP),KN d b ∧
 ∃o e f,h.get? a=Z o/\o.ExactDict/\o.data=.dict e f/\e.toList=b.map (Jq w)/\(b.map (·.1)).Nodup
def UT(H:Hp)(k:pU)(b:On):Prop:=∃a:Wc,H b=Z (.tup (a.map V.ref))/\Paired (λ(x:List Key) (c:On)=>H c=Z (.tup (x.map kV))) k a
def UT.mono{k:pU}(x:UT H k b)(t:∀a d,H a=Z (.tup d)->e a=Z (.tup d)):UT e k b:=by
 obtain⟨f,h,r⟩:=x;exact⟨f,t _ _ h,Paired.OX r λ_ _ z=>t _ _ z⟩
end L2
end
section
namespace VS
open PySem PySem.Spec PyProof.Rows L2
noncomputable def sx(s:Tx):Str:=⟨s.toArray⟩
def pT(s:Tx):Prop:=s.length<=fq/\∀c∈s,c<1114112
noncomputable abbrev Me:=Nat->Option V
structure Gx where
 K:X3
 ct:Nat->On×(Nat->Str)
 me:Me:=λ_=>none
noncomputable def Gx.at(G:Gx)(m:Me):Gx:=⟨G.K,G.ct,m⟩
noncomputable def aD:Key->T
 |.inl i=>.int i
 |.inr x=>.str x.cps.toList
def nkT(k:pU):T:=.tup (k.map λx=>T.tup (x.map aD))
def nk(K:X3)(H:Hp)(a:On)(d:Vg):Prop :=
 (∃o,H a=Z (.frz o (.lst (d.map V.int)))) ∨
  ∃(o:Obj)(b:Array PP)(n:Nat),K.lookup a=Z o/\o.cls=.type "list" ∧ o.dict=L/\o.data=.seq b n/\b.size<=KM/\aQ (d.map V.int) b.toList
mutual
inductive Rp(G:Gx)(H:Hp):V->T->Wc->Prop
 |non:Rp G H .non .non []
 |bl (b:Bool):Rp G H (.bl b) (.bl b) []
 |int (i:Int):Rp G H (.int i) (.int i) []
 |str (s:Tx):pT s->Rp G H (.str (sx s)) (.str s) []
 |scr {a:On} {ns:Vg}:nk G.K H a ns->Rp G H (.ref a) (.scr ns) []
 |tup {a:On} {vs:List V} {ts:Vb} {Fs:Xy}:H a=some (.tup vs)->RpL G H vs ts Fs->Rp G H (.ref a) (.tup ts) Fs.flatten
 |lst {a:On} {vs:List V} {ts:Vb} {Fs:Xy}:H a=some (.lst vs)->RpL G H vs ts Fs->Rp G H (.ref a) (.lst ts) (a :: Fs.flatten)
 |dct {a:On} {ks:List Key} {vs:List V} {ts:Vb} {Fs:Xy}:H a=some (.dK (ks.zip vs))->ks.length=vs.length->RpL G H vs ts Fs->Rp G H (.ref a) (.dct 0 ((ks.map aD).zip ts)) (a :: Fs.flatten)
 |dctT {a:On} {ks:List (List Key)} {vs:List V} {ts:Vb} {Fs:Xy}:H a=some (.dT (ks.zip vs))->ks.length=vs.length->RpL G H vs ts Fs->Rp G H (.ref a) (.dct 1 ((ks.map λk=>T.tup (k.map aD)).zip ts)) (a :: Fs.flatten)
 |dctN {a:On} {ks:List (pU×On)} {vs:List V} {ts:Vb} {Fs:Xy}:H a=some (DN a ((ks.zip vs).map λp=>(p.1.1,p.1.2,p.2)))->ks.length=vs.length->(∀p∈ks,UT H p.1 p.2)->RpL G H vs ts Fs->Rp G H (.ref a) (.dct 2 ((ks.map λp=>nkT p.1).zip ts)) (a :: Fs.flatten)
 |dctZ {a:On} {o:Obj} {ks:List Key} {vs:List V} {ts:Vb} {Fs:Xy}:H a=some (.frz o (.dK (ks.zip vs)))->ks.length=vs.length->RpL G H vs ts Fs->Rp G H (.ref a) (.dct 3 ((ks.map aD).zip ts)) Fs.flatten
 |exc {c:Nat} {a:On} {o:Obj}:H a=some (.frz o (.own a))->(o.cls=.ref (G.ct c).1/\o.dict=none/\∃vs,o.data=.fields vs)->Rp G H (.ref a) (.obj c []) []
 |ins {c:Nat} {a dx:On} {b:Bool} {ks:Vh} {vs:List V} {ts:Vb} {Fs:Xy}:H a=some (.ins (G.ct (c+1)).1 dx ((ks.map (G.ct (c+1)).2).zip vs))->ks.length=vs.length->(b=true->G.me 0=some (.ref a))->RpL G H vs ts Fs->Rp G H (.ref a) (.obj (c+1) ((0,.bl b) :: ks.zip ts)) (a :: Fs.flatten)
 |mk {m:Nat} {a:On} {t:T} {F:Wc}:G.me m=some (.ref a)->Rp G H (.ref a) t F->Rp G H (.ref a) (.obj 0 [(0,.bl true),(m,t)]) F
inductive RpL(G:Gx)(H:Hp):List V->Vb->Xy->Prop
 |nil:RpL G H [] [] []
 |cons {v:V} {t:T} {F:Wc} {vs:List V} {ts:Vb} {Fs:Xy}:Rp G H v t F->RpL G H vs ts Fs->RpL G H (v :: vs) (t :: ts) (F :: Fs)
end
structure Kept(H H':Hp):Prop where
 tup:∀a xs,H a=some (.tup xs)->H' a=some (.tup xs)
 frz:∀a o u,H a=some (.frz o u)->H' a=some (.frz o u)
def Kept.refl(H:Hp):Kept H H:=⟨λ_ _ h=>h,λ_ _ _ h=>h⟩
def Kept.trans{e:Hp}(a:Kept H e)(b:Kept e d):Kept H d:=⟨λc x h=>b.tup c x (a.tup c x h),λc o u h=>b.frz c o u (a.frz c o u h)⟩
def Kept.of(e:aI H b):Kept H b:=⟨λa _ h=>e a _ h,λa _ _ h=>e a _ h⟩
theorem Kept.upd{H:Hp}(d:J8 (H a)\/H a=L):Kept H (upd H a o):=by
 have ne:∀b u,H b=Z u->¬J8 (Z u)->b≠a:=λb u h nm e=>by
  subst e;rcases d with m | m
  ·rw[h]at m;exact nm m
  ·rw[h]at m;cases m
 exact⟨λb f h=>by rw[aw (ne b _ h λz=>z)];exact h,λb o u h=>by rw[aw (ne b _ h λz=>z)];exact h⟩
def nk.kept{K:X3}(h:nk K H a b)(k:Kept H d):nk K d a b:=by
 rcases h with⟨o,e⟩ | h
 ·exact .inl ⟨o,k.frz _ _ _ e⟩
 ·exact .inr h
def nk.seq{K:X3}(h:nk K H a b):Kb K H a (b.map V.int):=by
 rcases h with⟨o,e⟩ | h
 ·exact .inl (.inr ⟨o,e⟩)
 ·exact .inr h
def t7{H d:Hp}{a:On}{F:Wc}(f:∀b∈a :: F,∀o,H b=Z o->d b=Z o):∀b∈F,∀o,H b=Z o->d b=Z o:=λb m=>f b (Zy _ m)
def yj{H a:Hp}{F:Wc}{d:Xy}(f:∀b∈(F :: d).flatten,∀o,H b=Z o->a b=Z o):(∀b∈F,∀o,H b=Z o->a b=Z o)/\∀b∈d.flatten,∀o,H b=Z o->a b=Z o:=by
 rw[ZK]at f;exact⟨λb m=>f b (Ye _ m),λb m=>f b (ZP _ m)⟩
def Rp.keep(k:Kept H e)(r:Rp G H v t F):(∀a∈F,∀o,H a=Z o->e a=Z o)->Rp G e v t F :=
 Rp.rec (motive_2:=λj q g _=>(∀a∈g.flatten,∀o,H a=Z o->e a=Z o)->RpL G e j q g)
  (λ_=>.non) (λb _=>.bl b) (λi _=>.int i) (λs h _=>.str s h) (λh _=>.scr (h.kept k)) (λh _ d f=>.tup (k.tup _ _ h) (d f)) (λh _ d f=>.lst (f _ Zx _ h) (d (t7 f))) (λh l _ d f=>.dct (f _ Zx _ h) l (d (t7 f))) (λh l _ d f=>.dctT (f _ Zx _ h) l (d (t7 f)))
  (λh l n _ d f=>.dctN (f _ Zx _ h) l (λp m=>(n p m).mono k.tup) (d (t7 f))) (λh l _ d f=>.dctZ (k.frz _ _ _ h) l (d f)) (λh x _=>.exc (k.frz _ _ _ h) x) (λh l m _ d f=>.ins (f _ Zx _ h) l m (d (t7 f))) (λh _ d f=>.mk h (d f)) (λ_=>.nil) (λ_ _ w u f=>.cons (w (yj f).1) (u (yj f).2)) r
theorem RpL.keep(k:Kept H g):∀{e:List V}{b:Vb}{d:Xy},RpL G H e b d->(∀a∈d.flatten,∀o,H a=Z o->g a=Z o)->RpL G g e b d:=by
 intro e b
 induction b generalizing e with
 |nil=>intro d r f;cases r;exact .nil
 |cons t b h =>
  intro d r f;cases r with
  |cons r q=>exact .cons (r.keep k (yj f).1) (h q (yj f).2)
def Rp.same{G:Gx}{H:Hp}(e:aI H b)(r:Rp G H v t F):Rp G b v t F:=r.keep (Kept.of e) λa _ o h=>e a o h
def RpL.same{G:Gx}{H:Hp}(e:aI H b)(r:RpL G H v t F):RpL G b v t F:=r.keep (Kept.of e) λa _ o h=>e a o h
def Bc{H:Hp}{a:On}{F:Wc}(h:J8 (H a))(d:∀b∈F,J8 (H b)):∀b∈a :: F,J8 (H b):=λb m=>(Zo.mp m).elim (λe=>e ▸ h) (d b)
def Ar{H:Hp}{a:On}{o:HO}(h:H a=Z o)(m:J8 (Z o)):J8 (H a):=by rw[h];exact m
def HX{H:Hp}{F:Wc}{a:Xy}(e:∀b∈F,J8 (H b))(d:∀b∈a.flatten,J8 (H b)):∀b∈(F :: a).flatten,J8 (H b):=λb m=>by
 rw[ZK]at m;exact(ZW.mp m).elim (e b) (d b)
def Rp.Kd(r:Rp G H v t F):∀a∈F,J8 (H a) :=
 Rp.rec
  (λ_ m=>nomatch m) (λ_ _ m=>nomatch m) (λ_ _ m=>nomatch m) (λ_ _ _ m=>nomatch m) (λ_ _ m=>nomatch m) (λ_ _ b=>b) (λh _ b=>Bc (Ar h True.intro) b) (λh _ _ b=>Bc (Ar h True.intro) b) (λh _ _ b=>Bc (Ar h True.intro) b)
  (λh _ _ _ b=>Bc (Ar h True.intro) b) (λ_ _ _ b=>b) (λ_ _ _ m=>nomatch m) (λh _ _ _ b=>Bc (Ar h True.intro) b) (λ_ _ b=>b) (λ_ m=>nomatch m) (λ_ _ e d=>HX e d) r
theorem RpL.Kd:∀{e:List V}{b:Vb}{d:Xy},RpL G H e b d->∀a∈d.flatten,J8 (H a):=by
 intro e b
 induction b generalizing e with
 |nil=>intro d r;cases r;exact λ_ m=>nomatch m
 |cons t b f =>
  intro d r;cases r with
  |cons r q=>exact HX r.Kd (f q)
def J8.JX(m:J8 o):o≠L:=λe=>by subst e;exact m
def HW{b:Xy}(e:VS.J3 t=J->F=[])(d:VS.fZ a=J->b.flatten=[])(i:VS.fZ (t :: a)=J):(F :: b).flatten=[]:=by
 have i:=ZZ.mp i;rw[ZK,e i.1,d i.2];rfl
theorem Rp.J3(r:Rp G H v t F):VS.J3 t=J->F=[] :=
 Rp.rec
  (λ_=>rfl) (λ_ _=>rfl) (λ_ _=>rfl) (λ_ _ _=>rfl) (λ_ _=>rfl) (λ_ _ a i=>a i) (λ_ _ _ i=>absurd (i) ZX) (λ_ _ _ _ i=>absurd (i) ZX) (λ_ _ _ _ i=>absurd (i) ZX)
  (λ_ _ _ _ _ i=>absurd (i) ZX) (λ_ _ _ _ i=>absurd (i) ZX) (λ_ _ _=>rfl) (λ_ _ _ _ _ i=>absurd (i) ZX) (λ_ _ _ i=>absurd (i) ZX) (λ_=>rfl) (λ_ _ d b i=>HW d b i) r
theorem RpL.J3:∀{d:List V}{a:Vb}{b:Xy},RpL G H d a b->VS.fZ a=J->b.flatten=[]:=by
 intro d a
 induction a generalizing d with
 |nil=>intro b r i;cases r;exact rfl
 |cons t a e =>
  intro b r i;cases r with
  |cons r q=>exact HW r.J3 (e q) i
def RpL.len:∀{b:List V}{a:Vb}{d:Xy},RpL G H b a d->b.length=a.length/\d.length=a.length:=by
 intro b a
 induction a generalizing b with
 |nil=>intro d r;cases r;exact⟨rfl,rfl⟩
 |cons t a e =>
  intro d r;cases r with
  |cons r q=>exact⟨congrArg (·+1) (e q).1,congrArg (·+1) (e q).2⟩
theorem RpL.get{G:Gx}:∀{a:List V}{b:Vb}{d:Xy}(i:Nat){t:T},RpL G H a b d->b[i]?=Z t->∃v F,a[i]?=Z v/\d[i]?=Z F/\Rp G H v t F
 |_,_,_,_,_,.nil,e=>by simp at e
 |_,_,_,0,_,.cons r _,e=>by
  simp at e;subst e;exact⟨_,_,rfl,rfl,r⟩
 |_,_,_,i+1,_,.cons _ q,e=>by
  obtain⟨v,F,h,g,f⟩:=RpL.get i q (by simpa using e);exact⟨v,F,by simpa using h,by simpa using g,f⟩
def RpL.append:∀{b:List V}{a:Vb}{f:Xy}{d:List V}{e:Vb}{Gs:Xy},RpL G H b a f->RpL G H d e Gs->RpL G H (b++d) (a++e) (f++Gs):=by
 intro b a
 induction a generalizing b with
 |nil=>intro f d e Gs r s;cases r;exact s
 |cons t a g =>
  intro f d e Gs r s;cases r with
  |cons r q=>exact .cons r (g q s)
theorem RpL.take:∀{a:List V}{b:Vb}{d:Xy}(n:Nat),RpL G H a b d->RpL G H (a.take n) (b.take n) (d.take n)
 |_,_,_,0,_=>by simpa using RpL.nil
 |_,_,_,n+1,.nil=>.nil
 |_,_,_,n+1,.cons r q=>.cons r (RpL.take n q)
theorem RpL.drop:∀{a:List V}{b:Vb}{d:Xy}(n:Nat),RpL G H a b d->RpL G H (a.drop n) (b.drop n) (d.drop n)
 |_,_,_,0,q=>q
 |_,_,_,n+1,.nil=>.nil
 |_,_,_,n+1,.cons r q=>RpL.drop n q
noncomputable def ku:Cell->T
 |.pu t=>t
 |.ow t=>t
noncomputable abbrev J5:=Nat->Wc
structure SR(G:Gx)(O:J5)(U:VS.Env)(M:L2.St)(H:Hp):Prop where
 len:U.length=M.length
 rp:∀i c,U[i]?=some (some c)->∃v,M[i]?=some (some v)/\Rp G H v (ku c) (O i)
 nd:∀i t,U[i]?=some (some (.ow t))->(O i).Nodup
 sep:∀i j t c,U[i]?=some (some (.ow t))->U[j]?=some (some c)->i≠j->∀a∈O i,a∉O j
noncomputable def df(O:J5)(U:VS.Env)(a:On):Prop:=∃j t,U[j]?=Z (Z (.pu t))/\a∈O j
noncomputable def bL(O:J5)(U:VS.Env)(a:On):Prop:=∃j t,U[j]?=Z (Z (.ow t))/\a∈O j
def Fp(O:J5)(U:VS.Env)(H:Hp):Md->Wc->Prop
 |.fr,F=>F.Nodup/\∀a∈F,H a=L
 |.pu,F=>∀a∈F,H a=L\/df O U a
 |.bo,F=>∀a∈F,H a=L\/df O U a\/bL O U a
theorem SR.same{G:Gx}{H a:Hp}(s:SR G O U M H)(e:aI H a):SR G O U M a :=
 ⟨s.len,λi c h=>let ⟨v,d,b⟩:=s.rp i c h;⟨v,d,b.same e⟩,s.nd,s.sep⟩
def SR.Mi(s:SR G O U M H)(h:df O U a):J8 (H a):=by
 obtain⟨j,t,d,b⟩:=h;obtain⟨v,_,r⟩:=s.rp j _ d;exact r.Kd a b
def SR.KD(s:SR G O U M H)(h:bL O U a):J8 (H a):=by
 obtain⟨j,t,d,b⟩:=h;obtain⟨v,_,r⟩:=s.rp j _ d;exact r.Kd a b
def Fp.nil:Fp O U H m []:=by
 cases m
 ·exact⟨Yt,λa h=>by simp at h⟩
 ·exact λa h=>by simp at h
 ·exact λa h=>by simp at h
theorem Fp.bo{H:Hp}:∀{m:Md},Fp O U H m F->Fp O U H .bo F
 |.fr,h=>λa m=>.inl (h.2 a m)
 |.pu,h=>λa m=>(h a m).elim .inl λz=>.inr (.inl z)
 |.bo,h=>h
theorem Fp.pu{U:VS.Env}{H:Hp}{F:Wc}:∀{m:Md},m ≠ .bo->Fp O U H m F->Fp O U H .pu F
 |.fr,_,h=>λa m=>.inl (h.2 a m)
 |.pu,_,h=>h
 |.bo,n,_=>absurd Y n
theorem Fp.back(e:aI H b):∀{m:Md},Fp O U b m F->Fp O U H m F
 |.fr,h=>⟨h.1,λa m=>e.free (h.2 a m)⟩
 |.pu,h=>λa m=>(h a m).imp e.free id
 |.bo,h=>λa m=>(h a m).imp e.free id
theorem Fp.up{U:VS.Env}{m:Md}(f:Fp O U H m F)(r:Rp G a v t F):Fp O U H (VS.up m t).1 F:=by
 unfold VS.up;by_cases h:VS.J3 t=J
 ·rw[r.J3 h];exact Fp.nil
 ·simp only[h,if_false,Vw];exact f
def tE(G:Gx)(c:Ex):TE:=λM H Q=>∃O U m r,SR G O U M H/\c U=Z (m,r)/\∀v a F,aI H a->Rp G a v r F->Fp O U H m F->Q v a
def PV(G:Gx)(X:Cx)(e:Expr)(c:Ex):Prop:=PE X e (tE G c)
def PE.weak{X:Cx}(h:PE X e t)(w:∀M H Q,b M H Q->t M H Q):PE X e b:=λa s M H Q I q=>h a s M H Q I (w M H Q q)
def PT.weak{X:Cx}(h:PT X e t)(w:∀M H Q,b M H Q->t M H Q):PT X e b:=λa s M H Q I q=>h a s M H Q I (w M H Q q)
def PA.weak{X:Cx}(h:PA X e t)(w:∀M H Q,b M H Q->t M H Q):PA X e b:=λpos a s M H Q I q=>h pos a s M H Q I (w M H Q q)
def tT(G:Gx)(c:Ex):TT:=λM H Q=>∃O U m r b,SR G O U M H/\c U=Z (m,r)/\Ow r=Z b/\∀a,aI H a->Q b a
def LY(G:Gx)(X:Cx)(e:Expr)(c:Ex):Prop:=PT X e (tT G c)
noncomputable def Lv(l:Vd)(a:Xy):Wc:=match l,a with
 |v :: l,F :: a=>match v.1 with
  |.fr=>F++Lv l a
  |_=>Lv l a
 |_,_=>[]
structure P4(O:J5)(U:VS.Env)(H:Hp)(l:Vd)(Fs:Xy):Prop where
 each:∀(i:Nat) v F,l[i]?=some v->Fs[i]?=some F->Fp O U H v.1 F
 nd:(Lv l Fs).Nodup
def Uc(G:Gx)(c:Ko):TA:=λM H Q=>∃O U l,SR G O U M H/\c U=Z l/\∀b a d,aI H a->RpL G a b (trees l) d->P4 O U H l d->Q b a
def Lc(G:Gx)(X:Cx)(a:List Expr)(c:Ko):Prop:=PA X a (Uc G c)
section
def ai{i j pos}:PV G X (.Constant (.int i) j pos) (Q3 i):=PE.weak rD λM H Q d=>by
 obtain⟨O,U,m,r,s,e,k⟩:=d;cases (e);exact k _ _ _ (aI.refl _) (.int i) Fp.nil
def uv{i j pos}:PV G X (.Constant (.bool i) j pos) (eC (.bl i)):=PE.weak IE λM H Q d=>by
 obtain⟨O,U,m,r,s,e,k⟩:=d;cases (e);exact k _ _ _ (aI.refl _) (.bl i) Fp.nil
def z8{j pos}:PV G X (.Constant .none j pos) (eC .non):=PE.weak Fb λM H Q d=>by
 obtain⟨O,U,m,r,s,e,k⟩:=d;cases (e);exact k _ _ _ (aI.refl _) .non Fp.nil
def k9{j pos}(h:x=sx t:=by decide +kernel)(f:{`q1,pT t}):PV G X (.Constant (.str x) j pos) (eC (.str t)):=PE.weak BZ λM H Q d=>by
 obtain⟨O,U,m,r,s,e,k⟩:=d;cases (e);subst h;exact k _ _ _ (aI.refl _) (.str t f) Fp.nil
def ba{X:Cx}(i:Nat)(u:{`q2,X.N[i]?=Z x})(o:{`q5,L6 X.env.scope x})(q:{`q1,K3 x})(y:{`q1,K4 x}):PV G X (.Name x g) (aa i):=PE.weak (dS u o q y) λM H Q p=>by
 obtain⟨O,U,m,r,s,e,k⟩:=p;unfold aa at e;split at e
 ·rename_i t h;obtain⟨v,l,d⟩:=s.rp _ _ h;have n:=Zh e;have w:t=r:=congrArg Prod.snd n;have em:(VS.up .pu t).1=m:=congrArg Prod.fst n;rw[← w,← em]at k;refine⟨v,l,k v H (O i) (aI.refl _) d ?_⟩;have f:Fp O U H .pu (O i):=λa j=>.inr ⟨i,_,h,j⟩;exact f.up d
 ·rename_i t h;obtain⟨v,l,d⟩:=s.rp _ _ h;cases e;exact⟨v,l,k v H (O i) (aI.refl _) d λa j=>.inr (.inr ⟨i,_,h,j⟩)⟩
 ·cases e
structure TR(G:Gx)(O:J5)(U:VS.Env)(H0 H:Hp)(x y:Val)(u w:V)(F1 F2:Wc):Prop where
 same:aI H0 H
 r1:Rp G H u x.2 F1
 r2:Rp G H w y.2 F2
 f1:Fp O U H0 x.1 F1
 f2:Fp O U H0 y.1 F2
 nd:x.1=.fr->y.1=.fr->(F1++F2).Nodup
def fY(G:Gx)(r:R2)(f:Val->Val->Vc):Prop:=∀(O:J5)(U:VS.Env)(e H:Hp)(x y:Val)(u w:V)(h g:Wc)(m:Md)(t:T)(Q:VK),TR G O U e H x y u w h g->f x y=Z (m,t) →
 (∀v d F,aI H d->Rp G d v t F->Fp O U e m F->Q v d)->r u w H Q
def Ac{G:Gx}{ca cb:Ex}{M:L2.St}{H:Hp}{Q:V->V->Hp->Prop}{O:J5}{U:VS.Env}{x y:Val}(s:SR G O U M H)(m:ca U=Z x)(l:cb U=Z y)(k:∀u w d f e,TR G O U H d x y u w f e->Q u w d):tE G ca M H λu g=>tE G cb M g λw d=>Q u w d:=by
 refine⟨O,U,x.1,x.2,s,m,λu g f e1 r1 f1=>⟨O,U,y.1,y.2,s.same e1,l,λw d e e2 r2 f2=>k u w d f e ⟨e1.trans e2,r1.same e2,r2,f1,f2.back e1,λi h=>?_⟩⟩⟩;rw[i]at f1;rw[h]at f2;refine ZL.mpr ⟨f1.1,f2.1,λa j b hb z=>?_⟩;subst z;exact J8.JX (r1.Kd a j) (f2.2 a hb)
def mR(g:fY G r f)(h:tE G (e2 f ca cb) M H Q):Rz r (tE G ca) (tE G cb) M H Q:=by
 obtain⟨O,U,m,t,s,e,k⟩:=h;obtain⟨x,j,e⟩:=Zz.mp e;obtain⟨y,i,e⟩:=Zz.mp e;exact Ac s j i λu w l p o d=>g O U H l x y u w p o m t Q d e λv n F e1 r1 f1=>k v n F (d.same.trans e1) r1 f1
def nA(g:OpR X (binaryOp d) r)(e:fY G r f)(j:PV G X a ca)(i:PV G X b cb):PV G X (.BinOp a d b pos) (e2 f ca cb) :=
 PE.weak (Ek g j i) λM H Q h=>mR e h
def GO(g:OpR X (SZ d) r)(e:fY G r f)(l:PV G X a ca)(j:PV G X b cb)(i:behindInMarks d b=B):PV G X (.Compare a [d] [b] pos) (e2 f ca cb) :=
 PE.weak (D3 g l j i) λM H Q h=>mR e h
noncomputable def Tells(f:Val->Val->Vc):Prop:=∀x y m t,f x y=Z (m,t)->∃b,t=.bl b
def Rp.KJ{b:Bool}(r:Rp G H v (.bl b) F):v=.bl b:=by cases r;rfl
def Rp.int_inv{b:Int}(r:Rp G H v (.int b) F):v=.int b:=by cases r;rfl
def Rp.str_inv{b:Tx}(r:Rp G H v (.str b) F):v=.str (sx b)/\pT b:=by cases r with | str _ h=>exact⟨rfl,h⟩
def oZ{c:Ex}(h:tT G c M H Q)(f:∀U m r,c U=Z (m,r)->∃b,r=.bl b)(w:∀Q,tE G c M H Q->t M H Q):AC t M H Q:=by
 obtain⟨O,U,m,r,b,s,e,d,k⟩:=h;refine w _ ⟨O,U,m,r,s,e,λv i F e1 r1 f1=>?_⟩;obtain⟨j,g⟩:=f U m r e;rw[g]at d r1;cases (d);exact⟨_,r1.KJ,k i e1⟩
def je(j:OpR X (SZ d) r)(g:fY G r f)(i:Tells f)(o:PV G X a ca)(n:PV G X b cb)(l:behindInMarks d b=B):LY G X (.Compare a [d] [b] pos) (e2 f ca cb) :=
 PT.weak (yb j o n l) λM H Q h=>oZ h (λU m r e=>by
  obtain⟨x,_,e⟩:=Zz.mp e;obtain⟨y,_,e⟩:=Zz.mp e;exact i x y m r e) λQ h=>mR g h
def bj{G:Gx}{O:J5}{U:VS.Env}{e H:Hp}{m:Md}{t:T}{v:V}{Q:VK}(k:∀v d F,aI H d->Rp G d v t F->Fp O U e m F->Q v d)(r:Rp G H v t []):Q v H:=k v H [] (aI.refl _) r Fp.nil
def bB(h:H p=L):aI H (upd H p o):=λb d e=>by rw[aw (aY e h)];exact e
theorem Fp.new(d:g p=L)(h:p∉F):∀{m:Md},Fp O U g m F->Fp O U g m (p :: F)
 |.fr,f=>⟨Zb.mpr ⟨h,f.1⟩,λa m=>(Zo.mp m).elim (λe=>by rw[e];exact d) (f.2 a)⟩
 |.pu,f=>λa m=>(Zo.mp m).elim (λe=>by rw[e];exact .inl d) (f a)
 |.bo,f=>λa m=>(Zo.mp m).elim (λe=>by rw[e];exact .inl d) (f a)
def r9(e:ML d l=Z (m,t)):t=.lst l/\l.length<=fq/\m=(if fZ l then .fr else d):=by
 unfold ML at e;split at e
 ·rename_i h;cases e;exact⟨rfl,h,rfl⟩
 ·cases e
def ke{G:Gx}{O:J5}{U:VS.Env}{i H:Hp}{o m:Md}{l:Vb}{t:T}{n:List V}{q:Xy}{Q:VK}(d:aI i H)(e:ML o l=Z (m,t))(r:RpL G H n l q)(f:Fp O U i o q.flatten)(k:∀v j F,aI H j->Rp G j v t F->Fp O U i m F->Q v j):∀p,H p=L->Q (.ref p) (upd H p (.lst n)):=by
 intro p g;obtain⟨rfl,s,rfl⟩:=r9 e;refine k _ _ _ (bB g) (.lst aq (r.same (bB g))) ?_;have np:=λm=>J8.JX (r.Kd p m) g;by_cases h:fZ l=J
 ·rw[h,Zp Y];rw[r.J3 h]at np ⊢;exact Fp.nil.new (d.free g) np
 ·rw[Zn h];exact f.new (d.free g) np
theorem TR.join(i:TR G O U h H x y u w f e){F:Wc}(g:F.Sublist (f++e)):Fp O U h (x.1.join y.1) F:=by
 obtain⟨same,r1,r2,f1,f2,nd⟩:=i;obtain⟨l,x⟩:=x;obtain⟨j,y⟩:=y;have both:∀{P:On->Prop},(∀a∈f,P a)->(∀a∈e,P a)->∀a∈F,P a:=λn m a d=>((λa d=>ZW.mp (g.subset d)) a d).elim (n a) (m a);cases l<;>cases j
 ·exact⟨(nd Y Y).sublist g,both f1.2 f2.2⟩
 ·exact both (λa d=>.inl (f1.2 a d)) f2
 ·exact both (λa d=>.inl (f1.2 a d)) f2
 ·exact both f1 (λa d=>.inl (f2.2 a d))
 ·exact both f1 f2
 ·exact both (f1.bo) f2
 ·exact both f1 (λa d=>.inl (f2.2 a d))
 ·exact both f1 (f2.bo)
 ·exact both f1 f2
def gn:fq=sizeLine:=rfl
def cY(s:Tx):(sx s).length=s.length:=rfl
def Gn(s t:Tx):sx s++sx t=sx (s++t):=by
 show Str.append (sx s) (sx t)=_;simp[sx,Str.append]
def Rp.lst_inv(r:Rp G H v (.lst l) F):∃a d e,v=.ref a/\F=a :: e.flatten/\H a=Z (.lst d)/\RpL G H d l e:=by
 cases r with
 |lst h q=>exact⟨_,_,_,rfl,rfl,h,q⟩
def Rp.KA(r:Rp G H v (.tup l) F):∃a d e,v=.ref a/\F=e.flatten/\H a=Z (.tup d)/\RpL G H d l e:=by
 cases r with
 |tup h q=>exact⟨_,_,_,rfl,rfl,h,q⟩
def Rp.OU(r:Rp G H v (.scr l) F):∃a,v=.ref a/\F=[]/\nk G.K H a l:=by
 cases r with
 |scr h=>exact⟨_,rfl,rfl,h⟩
end
section
def HM:R2:=λx y H Q=>ND (λi j=>.int (i+j)) x y H Q\/(∃i j,x=.str i/\y=.str j/\i.length+j.length<=KM/\Q (.str (i++j)) H)\/Jj x y H Q
def j7:OpR X (binaryOp .Add) HM:=G3.or (vQ.or GM)
def mM:fY G HM bA:=by
 intro O U E H x y u w A z m t Q f e k;have q:=λ{F:Wc} (h:List.Sublist F (A++z))=>f.join h;obtain⟨D,x⟩:=x;obtain⟨C,y⟩:=y;obtain⟨same,r1,r2,f1,f2,nd⟩:=f;unfold bA at e;split at e
 ·rename_i i _ j e1 e2;cases e1;cases e2;cases e;exact .inl ⟨_,_,r1.int_inv,r2.int_inv,bj k (.int _)⟩
 ·rename_i s _ p e1 e2;cases e1;cases e2;split at e
  ·rename_i d;cases e;refine .inr (.inl ⟨_,_,r1.str_inv.1,r2.str_inv.1,by rw[cY,cY,← gn];exact d,?_⟩);rw[Gn];exact bj k (.str _ ⟨by rw[Zq];exact d,λc r=>(ZW.mp r).elim (r1.str_inv.2.2 c) (r2.str_inv.2.2 c)⟩)
  ·cases e
 ·rename_i s _ p e1 e2;cases e1;cases e2;obtain⟨a,n,M,rfl,rfl,v,l⟩:=r1.lst_inv;obtain⟨b,o,Gs,rfl,rfl,hb,g⟩:=r2.lst_inv;obtain⟨_,d,_⟩:=r9 e;refine .inr (.inr ⟨a,b,n,o,rfl,rfl,v,hb,?_,ke same e (l.append g) (q ?_) k⟩)
  ·rw[Zq]at d;rw[l.len.1,g.len.1,← gn];exact d
  ·rw[Yg];exact(Yd _ _).append (Yd _ _)
 ·cases e
def FS:fY G (ND λi j=>.int (i-j)) A7:=by
 intro O U f H x y u w h g m t Q a e k;obtain⟨d,x⟩:=x;obtain⟨b,y⟩:=y;obtain⟨same,r1,r2,f1,f2,nd⟩:=a;unfold A7 at e;split at e
 ·rename_i e1 e2;cases e1;cases e2;cases e;exact⟨_,_,r1.int_inv,r2.int_inv,bj k (.int _)⟩
 ·cases e
def nR:fY G (rI HI λi j=>.int (i/j)) l5:=by
 intro O U f H x y u w l g m t Q a e k;obtain⟨d,x⟩:=x;obtain⟨b,y⟩:=y;obtain⟨same,r1,r2,f1,f2,nd⟩:=a;unfold l5 at e;split at e
 ·rename_i e1 e2;cases e1;cases e2;split at e
  ·rename_i h;cases e;exact⟨_,_,r1.int_inv,r2.int_inv,h,bj k (.int _)⟩
  ·cases e
 ·cases e
def FT:fY G (rI (λ_ j=>0<j) λi j=>.int (i%j)) oMod:=by
 intro O U f H x y u w l g m t Q a e k;obtain⟨d,x⟩:=x;obtain⟨b,y⟩:=y;obtain⟨same,r1,r2,f1,f2,nd⟩:=a;unfold oMod at e;split at e
 ·rename_i e1 e2;cases e1;cases e2;split at e
  ·rename_i h;cases e;exact⟨_,_,r1.int_inv,r2.int_inv,h,bj k (.int _)⟩
  ·cases e
 ·cases e
theorem iB:∀(s t:Tx),LX s t=decide (s<t)
 |[],[]=>by simp[LX]
 |[],_ :: _=>by simp[LX]
 |_ :: _,[]=>by simp[LX]
 |a :: s,b :: t=>by
  unfold LX;rw[iB s t];by_cases e:a<b
  ·simp[e,Wq]
  ·by_cases d:b<a
   ·have:¬a=b:=by exact XO d
    simp[e,d,Wq,this]
   ·have:a=b:=by lia
    subst this;simp[Wq]
def rLt:R2:=λx y H Q=>ND (λi j=>.bl (decide (i<j))) x y H Q\/(∃i j,x=.str i/\y=.str j/\Q (.bl (decide (i.cps.toList<j.cps.toList))) H)
def oQ:OpR X (SZ .Lt) rLt:=Il.or yZ
def t5:fY G rLt oLt:=by
 intro O U g H x y u w i h m t Q b e k;obtain⟨f,x⟩:=x;obtain⟨d,y⟩:=y;obtain⟨same,r1,r2,f1,f2,nd⟩:=b;unfold oLt at e;split at e
 ·rename_i e1 e2;cases e1;cases e2;cases e;exact .inl ⟨_,_,r1.int_inv,r2.int_inv,bj k (.bl _)⟩
 ·rename_i s _ a e1 e2;cases e1;cases e2;cases e;refine .inr ⟨_,_,r1.str_inv.1,r2.str_inv.1,?_⟩;have:decide ((sx s).cps.toList<(sx a).cps.toList)=LX s a:=by rw[iB];exact decide_eq_decide.mpr (by simp[sx])
  rw[this];exact bj k (.bl _)
 ·cases e
def jr:Tells oLt:=by
 intro x y m t e;unfold oLt at e;split at e<;>first | (cases e;exact⟨_,rfl⟩) | cases e
def Hc:T5=2 ^ 64:=rfl
def GI:fY G (rI CZ λi j=>.int (i*j)) iI:=by
 intro O U f H x y u w l g m t Q a e k;obtain⟨d,x⟩:=x;obtain⟨b,y⟩:=y;obtain⟨same,r1,r2,f1,f2,nd⟩:=a;unfold iI at e;split at e
 ·rename_i e1 e2;cases e1;cases e2;split at e
  ·rename_i h;cases e;refine⟨_,_,r1.int_inv,r2.int_inv,?_,bj k (.int _)⟩;rw[Hc]at h;exact h
  ·cases e
 ·cases e
def zf:OpR X (SZ .LtE) (λx y H Q=>∃i j,x=.str i/\y=.str j/\Q (.bl (!decide (j.cps.toList<i.cps.toList))) H):=by
 intro a s M H x y v u Q I d b h;obtain⟨i,j,rfl,rfl,q⟩:=h;obtain⟨t,rfl⟩:=d;obtain⟨e,rfl⟩:=b;exact PySem.P.le_str ⟨.bl _,H,I,rfl,q⟩
def rLe:R2:=λx y H Q=>ND (λi j=>.bl (decide (i<=j))) x y H Q\/(∃i j,x=.str i/\y=.str j/\Q (.bl (!decide (j.cps.toList<i.cps.toList))) H)
def Fh:OpR X (SZ .LtE) rLe:=HB.or zf
def Ic:fY G rLe oLe:=by
 intro O U g H x y u w i h m t Q b e k;obtain⟨f,x⟩:=x;obtain⟨d,y⟩:=y;obtain⟨same,r1,r2,f1,f2,nd⟩:=b;unfold oLe at e;split at e
 ·rename_i e1 e2;cases e1;cases e2;cases e;exact .inl ⟨_,_,r1.int_inv,r2.int_inv,bj k (.bl _)⟩
 ·rename_i s _ a e1 e2;cases e1;cases e2;cases e;refine .inr ⟨_,_,r1.str_inv.1,r2.str_inv.1,?_⟩;have:decide ((sx a).cps.toList<(sx s).cps.toList)=LX a s:=by rw[iB];exact decide_eq_decide.mpr (by simp[sx])
  rw[this];exact bj k (.bl _)
 ·cases e
def vR{i:Int}:KU n i=QM n i:=by
 unfold KU QM;by_cases h:0<=i
 ·rw[Zp h,Zp h]
 ·rw[Zn h,Zn h];by_cases a:0<=i+n
  ·rw[Zp a,Zp (by lia)]
  ·rw[Zn a,Zn (by lia)]
def i5{α:Type}{l:List α}{i:Int}{k:Nat}{x:α}(b:KU l.length i=Z k)(a:l[k]?=Z x):Ru l i=Z x:=by
 unfold Ru;rw[← vR,b];exact a
def bC{a:Xy}{F:Wc}{i:Nat}(h:a[i]?=Z F):F.Sublist a.flatten:=by
 obtain⟨b,rfl⟩:=Ze.mp h;exact List.sublist_flatten_of_mem (ZC b)
theorem Fp.sub{F:Wc}(h:F.Sublist d):∀{m:Md},Fp O U H m d->Fp O U H m F
 |.fr,f=>⟨f.1.sublist h,λa b=>f.2 a (h.subset b)⟩
 |.pu,f=>λa b=>f a (h.subset b)
 |.bo,f=>λa b=>f a (h.subset b)
def vU:fY G (VA G.K) aC:=by
 intro O U P H x y u w S R m t Q C e k;obtain⟨N,x⟩:=x;obtain⟨M,y⟩:=y;obtain⟨same,r1,r2,f1,f2,nd⟩:=C;unfold aC at e;split at e
 ·rename_i p l o i e1 e2;cases e1;cases e2;obtain⟨j,d,e⟩:=Zz.mp e;obtain⟨x,b,e⟩:=Zw.mp e;obtain⟨a,n,E,rfl,rfl,q,h⟩:=r1.lst_inv;obtain⟨v,F,s,r,g⟩:=h.get j b;refine .inl ⟨a,n,i,v,rfl,r2.int_inv,Kb.of q,i5 (by rw[h.len.1];exact d) s,?_⟩;have f:=((f1.sub (Yd _ _)).sub (bC r)).up g;unfold VS.sub at e;rw[e]at f;have z:x=t:=congrArg Prod.snd e;rw[z]at g;exact k v H F (aI.refl _) g f
 ·rename_i p l o i e1 e2;cases e1;cases e2;obtain⟨j,d,e⟩:=Zz.mp e;obtain⟨x,b,e⟩:=Zw.mp e;obtain⟨a,n,E,rfl,rfl,q,h⟩:=r1.KA;obtain⟨v,F,s,r,g⟩:=h.get j b;refine .inr (.inl ⟨a,n,i,v,rfl,r2.int_inv,Li.of q,i5 (by rw[h.len.1];exact d) s,?_⟩);have f:=(f1.sub (bC r)).up g;unfold VS.sub at e;rw[e]at f;have z:x=t:=congrArg Prod.snd e;rw[z]at g;exact k v H F (aI.refl _) g f
 ·rename_i p l o i e1 e2;cases e1;cases e2;obtain⟨j,d,e⟩:=Zz.mp e;obtain⟨x,b,e⟩:=Zw.mp e;cases e;obtain⟨a,rfl,rfl,sa⟩:=r1.OU;refine .inl ⟨a,l.map V.int,i,.int x,rfl,r2.int_inv,sa.seq,i5 (by rw[Zt];exact d) (by rw[Zd,b];rfl),bj k (.int _)⟩
 ·rename_i p l o i e1 e2;cases e1;cases e2;obtain⟨j,d,e⟩:=Zz.mp e;obtain⟨x,b,e⟩:=Zw.mp e;cases e;obtain⟨rfl,A⟩:=r1.str_inv;refine .inr (.inr ⟨sx l,i,x,rfl,r2.int_inv,by rw[cY,← gn];exact A.1,i5 (k:=j) (by simpa[sx] using d) (by simpa[sx] using b),?_⟩);exact bj k (.str [x] ⟨by show 1<=fq;decide,λc D=>by rw[Zj.mp D];exact A.2 x (Z5 b)⟩)
 ·cases e
end
section
theorem xM:∀{l:Vd}{d:Xy},x∈Lv l d->∃(i:Nat)(v:Val)(F:Wc),l[i]?=Z v/\v.1=.fr/\d[i]?=Z F/\x∈F
 |[],_,h=>by simp[Lv]at h
 |_ :: _,[],h=>by simp[Lv]at h
 |v :: l,F :: d,h=>by
  have go:x∈Lv l d->∃(i:Nat)(u:Val)(f:Wc),(v :: l)[i]?=Z u/\u.1=.fr/\(F :: d)[i]?=Z f/\x∈f:=λm=>by
   obtain⟨i,u,f,q,o,n,j⟩:=xM m;exact⟨i+1,u,f,by simpa using q,o,by simpa using n,j⟩
  unfold Lv at h;split at h
  ·rename_i g;rcases ZW.mp h with h | h
   ·exact⟨0,v,F,rfl,g,rfl,h⟩
   ·exact go h
  ·exact go h
def ag:Lc G X [] aj:=PA.weak dP λM H Q d=>by
 obtain⟨O,U,l,s,e,k⟩:=d;cases (e);exact k [] H [] (aI.refl _) .nil ⟨λi v F h=>by simp at h,by simp[Lv]⟩
def ae(C:PV G X e ca)(w:Lc G X es cs)(t:{`q2,K1 e es X}):Lc G X (e :: es) (ab ca cs):=PA.weak (bW C w t) λM H Q A=>by
 obtain⟨O,U,l,s,e,k⟩:=A;obtain⟨x,P,e⟩:=Zz.mp e;obtain⟨j,N,e⟩:=Zz.mp e;cases e;refine⟨O,U,x.1,x.2,s,P,λv Y F e1 r1 f1=>⟨O,U,j,s.same e1,N,λm R S e2 r2 f2=>k (v :: m) R (F :: S) (e1.trans e2) (.cons (r1.same e2) r2) ⟨λi u h g d=>?_,?_⟩⟩⟩
 ·cases i with
  |zero =>
   cases (g);cases (d);exact f1
  |succ i=>exact(f2.each i u h (by simpa using g) (by simpa using d)).back e1
 ·unfold Lv;split
  ·rename_i r;rw[r]at f1;refine ZL.mpr ⟨f1.1,f2.nd,λy o z n q=>?_⟩;subst q;obtain⟨i,u,h,g,d,E,D⟩:=xM n;have f:=f2.each i u h g E;rw[d]at f;exact J8.JX (r1.Kd y o) (f.2 y D)
  ·exact f2.nd
theorem lQ:∀{l:Vd},cL l=.fr->∀v∈l,v.1=.fr
 |[],_,v,h=>by simp at h
 | (m,t) :: r,e,v,h=>by
  have d:m.join (cL r)=.fr:=e;rcases Zo.mp h with rfl | h
  ·exact(by
   revert d;cases m<;>cases cL r<;>simp[Md.join])
  ·exact lQ (by
   revert d;cases m<;>cases cL r<;>simp[Md.join]) v h
theorem lC:∀{l:Vd},cL l ≠ .bo->∀v∈l,v.1 ≠ .bo
 |[],_,v,h=>by simp at h
 | (m,t) :: r,e,v,h=>by
  have d:m.join (cL r) ≠ .bo:=e;rcases Zo.mp h with rfl | h
  ·exact(by
   revert d;cases m<;>cases cL r<;>simp[Md.join])
  ·exact lC (by
   revert d;cases m<;>cases cL r<;>simp[Md.join]) v h
theorem xK:∀{l:Vd}{d:Xy},l.length=d.length->(∀v∈l,v.1=.fr)->Lv l d=d.flatten
 |[],[],_,_=>rfl
 |[],_ :: _,h,_=>by simp at h
 |_ :: _,[],h,_=>by simp at h
 |v :: l,F :: d,h,q=>by
  unfold Lv;rw[q v Zx,xK (by simpa using h) λu f=>q u (Zy _ f)];rfl
def gK{d:Xy}(h:x∈d.flatten):∃(i:Nat)(F:Wc),d[i]?=Z F/\x∈F:=by
 obtain⟨F,j,f⟩:=Vk.mp h;obtain⟨i,g⟩:=List.mem_iff_getElem?.mp j;exact⟨i,F,g,f⟩
def P4.join(f:P4 O U H l j)(n:l.length=j.length):Fp O U H (cL l) j.flatten:=by
 have at':∀x∈j.flatten,∃v F,v∈l/\x∈F/\Fp O U H v.1 F:=λx d=>by
  obtain⟨i,F,m,g⟩:=gK d;have:i<l.length:=by
   have:=(Ze.mp m).1;lia
  exact⟨l[i],F,ZC this,g,f.each i _ F (Zu this) m⟩
 cases e:cL l with
 |fr =>
  have al:=lQ e;refine⟨by rw[← xK n al];exact f.nd,λx d=>?_⟩;obtain⟨v,F,h,g,q⟩:=at' x d;rw[al v h]at q;exact q.2 x g
 |pu =>
  intro x d;obtain⟨v,F,h,g,q⟩:=at' x d;exact Fp.pu ((lC (l:=l) (by rw[e];decide)) v h) q x g
 |bo =>
  intro x d;obtain⟨v,F,h,g,q⟩:=at' x d;exact q.bo x g
structure Args(G:Gx)(O:J5)(U:VS.Env)(H0 H:Hp)(l:Vd)(vs:List V)(Fs:Xy):Prop where
 same:aI H0 H
 rp:RpL G H vs (trees l) Fs
 fp:P4 O U H0 l Fs
theorem Args.len(A:Args G O U g H l f d):l.length=d.length:=by
 have:=A.rp.len.2;simp[trees]at this;exact Eq.symm this
def fz(G:Gx)(r:List V->Hp->VK->Prop)(f:Vd->Vc):Prop:=∀(O:J5)(U:VS.Env)(h H:Hp)(l:Vd)(g:List V)(i:Xy)(m:Md)(t:T)(Q:VK),Args G O U h H l g i->f l=Z (m,t) →
 (∀v d F,aI H d->Rp G d v t F->Fp O U h m F->Q v d)->r g H Q
def Ez(h:fz G r f)(s:SR G O U M H)(i:cs U=Z l)(e:f l=Z (m,t))(k:∀v d F,aI H d->Rp G d v t F->Fp O U H m F->Q v d):Uc G cs M H λg n=>r g n Q :=
 ⟨O,U,l,s,i,λg d o e1 r1 f1=>h O U H d l g o m t Q ⟨e1,r1,f1⟩ e λv j F e2 r2 f2=>k v j F (e1.trans e2) r2 f2⟩
def jG(q:dA X (.builtin d) r)(g:fz G r f)(o:Gl X x)(n:X.mg x=L)(h:bootBuiltins x=Z (.builtin d))(u:Lc G X (e :: es) cs)(j:{`q1,x ≠ "__name__"})(w:{`q1,K3 x})(he:{`q2,K1 e es X})(y:{`q2,K2 pos es X}):PV G X (.Call (.Name x p) (e :: es) [] pos) (eN f cs) :=
 PE.weak (pI q o n h u j w he y) λM H Q i=>by
  obtain⟨O,U,m,t,s,e,k⟩:=i;obtain⟨l,v,e⟩:=Zz.mp e;exact Ez g s v e k
def j9{G:Gx}{X:Cx}{es:List Expr}{cs:Ko}{pos p:Pos}{r:List V->Hp->VK->Prop}{f:Vd->Vc}{Ty:String}{x:Str}(o:dA X (.type Ty) r)(d:fz G r f)(n:Gl X x)(j:X.mg x=L)(g:bootBuiltins x=Z (.type Ty))(q:Lc G X (e :: es) cs)(i:{`q1,x ≠ "__name__"})(v:{`q1,K3 x})(he:{`q2,K1 e es X})(w:{`q2,K2 pos es X}):PV G X (.Call (.Name x p) (e :: es) [] pos) (eN f cs) :=
 PE.weak (qh o n j g q i v he w) λM H Q h=>by
  obtain⟨O,U,m,t,s,e,k⟩:=h;obtain⟨l,u,e⟩:=Zz.mp e;exact Ez d s u e k
def dr(h:Lc G X es cs):PV G X (.List es pos) (fg cs):=PE.weak (rA h) λM H Q f=>by
 obtain⟨O,U,m,t,s,e,k⟩:=f;obtain⟨l,i,e⟩:=Zz.mp e;refine⟨O,U,l,s,i,λd n o e1 r1 f1=>?_⟩;have A:Args G O U H n l d o:=⟨e1,r1,f1⟩
 obtain⟨_,g,_⟩:=r9 e;refine⟨by rw[r1.len.1,← gn];exact g,ke e1 e r1 (f1.join A.len) λv j F e2 r2 f2=>k v j F (e1.trans e2) r2 f2⟩
def gI{x1}(h:Lc G X es cs):PV G X (.Tuple es x1 pos) (gk cs):=PE.weak (FR h) λM H Q d=>by
 obtain⟨O,U,m,t,s,e,k⟩:=d;obtain⟨l,n,e⟩:=Zz.mp e;refine⟨O,U,l,s,n,λf g i e1 r1 f1=>?_⟩;have A:Args G O U H g l f i:=⟨e1,r1,f1⟩
 unfold qm at e;split at e
 ·rename_i j;cases e;refine⟨by rw[r1.len.1,← gn,trees,Zt];exact j,λq d=>?_⟩;have r2:Rp G (upd g q (.tup f)) (.ref q) (.tup (trees l)) i.flatten:=.tup aq (r1.same (bB d));exact k _ _ _ (e1.trans (bB d)) r2 (Fp.up (f1.join A.len) r2)
 ·cases e
def DB(r:Rp G H v t F)(h:Ow t=Z k):Fm G.K v H k:=by
 cases r with
 |non=>cases h;rfl
 |bl b=>cases h;rfl
 |int i=>cases h;rfl
 |str s j =>
  cases h;refine⟨by rw[cY,← gn];exact j.1,?_⟩;rw[cY];cases s with
  |nil=>rfl
  |cons a r =>
   have:((List.length (a :: r):Int) != 0)=J:=by simp;lia
   rw[this];rfl
 |scr d=>cases h
 |tup d q =>
  cases h;refine .inr (.inl ⟨_,Li.of d,?_⟩);have:=q.len.1;rename_i f g _;cases f<;>cases g<;>simp_all
 |lst d q =>
  cases h;refine .inl ⟨_,Kb.of d,?_⟩;have:=q.len.1;rename_i f g _;cases f<;>cases g<;>simp_all
 |dct d j q =>
  cases h;refine .inr (.inr ⟨_,d,?_⟩);have:=q.len.1;rename_i ks f g _;cases ks<;>cases f<;>cases g<;>simp_all
 |dctT d j q=>cases h
 |dctN d j n q=>cases h
 |dctZ _ _ _=>cases h
 |exc _ _=>cases h
 |ins _ _ _ _=>cases h
 |mk _ _=>cases h
def jb(h:PV G X a ca)(d:{`q2,X.K=G.K})(he:{`q3,∀whole,isTrue a X.env whole=(do let v ← whole;standAt a.pos;holding [v] (truthy v))}):LY G X a ca :=
 PT.weak (zX h he) λM H Q ⟨O,U,m,r,b,s,e,f,k⟩=>⟨O,U,m,r,s,e,λv g F e1 r1 f1=>⟨b,by rw[d];exact DB r1 f,k g e1⟩⟩
def Nz(G:Gx)(X:Cx)(e:Expr)(c:Ex):Prop:=PW X e (tT G c)
def PW.weak{X:Cx}{e:Expr}{f:TT}(h:PW X e t)(w:∀M H Q,f M H Q->t M H Q):PW X e f:=λg d s M H Q I q=>h g d s M H Q I (w M H Q q)
def Nz.QE(h:Nz G X e ca):LY G X e ca:=PW.pt h
def uY(e:kJ ca cb U=Z (m,r)):(∃n,ca U=Z (n,.bl J)/\cb U=Z (m,r))\/(∃n,ca U=Z (n,.bl B)/\m=.fr/\r=.bl B):=by
 obtain⟨⟨n,x⟩,d,e⟩:=Zz.mp e;split at e
 ·rename_i h;cases (h);exact .inl ⟨n,d,e⟩
 ·rename_i h;cases (h);cases e;exact .inr ⟨n,d,rfl,rfl⟩
 ·cases e
def Dk(e:Oo ca cb U=Z (m,r)):(∃n,ca U=Z (n,.bl B)/\cb U=Z (m,r))\/(∃n,ca U=Z (n,.bl J)/\m=.fr/\r=.bl J):=by
 obtain⟨⟨n,x⟩,d,e⟩:=Zz.mp e;split at e
 ·rename_i h;cases (h);cases e;exact .inr ⟨n,d,rfl,rfl⟩
 ·rename_i h;cases (h);exact .inl ⟨n,d,e⟩
 ·cases e
def rH{G:Gx}{X:Cx}{a:Expr}{ca cb:Ex}{pos:Pos}{rest:List Expr}(j:LY G X a ca)(i:Nz G X (.BoolOp .And (b :: rest) pos) cb):Nz G X (.BoolOp .And (a :: b :: rest) pos) (kJ ca cb) :=
 PW.weak (BU j i) λM H Q h=>by
  obtain⟨O,U,m,r,k,s,e,f,q⟩:=h;rcases uY e with⟨n,d,e2⟩ | ⟨n,d,rfl,rfl⟩
  ·refine⟨O,U,n,_,J,s,d,rfl,λg e1=>?_⟩;refine zo ?_;exact⟨O,U,m,r,k,s.same e1,e2,f,λl e2=>q l (e1.trans e2)⟩
  ·refine⟨O,U,n,_,B,s,d,rfl,λg e1=>?_⟩;refine yw ?_;cases f;exact q g e1
def mW{G:Gx}{X:Cx}{a:Expr}{ca cb:Ex}{pos:Pos}{rest:List Expr}(j:LY G X a ca)(i:Nz G X (.BoolOp .Or (b :: rest) pos) cb):Nz G X (.BoolOp .Or (a :: b :: rest) pos) (Oo ca cb) :=
 PW.weak (IF j i) λM H Q h=>by
  obtain⟨O,U,m,r,k,s,e,f,q⟩:=h;rcases Dk e with⟨n,d,e2⟩ | ⟨n,d,rfl,rfl⟩
  ·refine⟨O,U,n,_,B,s,d,rfl,λg e1=>?_⟩;refine yw ?_;exact⟨O,U,m,r,k,s.same e1,e2,f,λl e2=>q l (e1.trans e2)⟩
  ·refine⟨O,U,n,_,J,s,d,rfl,λg e1=>?_⟩;refine zo ?_;cases f;exact q g e1
def uX(e:nJ ca U=Z (m,r)):∃n b,ca U=Z (n,.bl b)/\m=.fr/\r=.bl (!b):=by
 obtain⟨⟨n,x⟩,d,e⟩:=Zz.mp e;split at e
 ·rename_i b h;cases (h);cases e;exact⟨n,b,d,rfl,rfl⟩
 ·cases e
def jg(f:LY G X a ca):LY G X (.UnaryOp .Not a pos) (nJ ca):=PT.weak (GS f) λM H Q d=>by
 obtain⟨O,U,m,r,k,s,e,g,q⟩:=d;obtain⟨n,b,h,rfl,rfl⟩:=uX e;cases g;exact⟨O,U,n,_,b,s,h,rfl,λi e1=>q i e1⟩
def GP(f:PV G X a ca):PV G X (.UnaryOp .Not a pos) (nJ ca):=PE.weak (E4 f) λM H Q d=>by
 obtain⟨O,U,m,r,s,e,q⟩:=d;obtain⟨n,b,g,rfl,rfl⟩:=uX e;exact⟨O,U,n,_,s,g,λv h F e1 r1 f1=>⟨b,r1.KJ,q _ h _ e1 (.bl _) Fp.nil⟩⟩
def Gq{op}(h:PV G X a ca):PV G X (.BoolOp op [a] pos) ca:=Hn h
def Gj{G:Gx}{X:Cx}{a:Expr}{ca cb:Ex}{pos:Pos}{rest:List Expr}(i:PV G X a ca)(h:PV G X (.BoolOp .And (b :: rest) pos) cb):PV G X (.BoolOp .And (a :: b :: rest) pos) (kJ ca cb) :=
 PE.weak (Gh i h) λM H Q g=>by
  obtain⟨O,U,m,r,s,e,q⟩:=g;rcases uY e with⟨n,d,e2⟩ | ⟨n,d,rfl,rfl⟩
  ·refine⟨O,U,n,_,s,d,λv f F e1 r1 f1=>⟨J,r1.KJ,?_⟩⟩;refine zo ?_;exact⟨O,U,m,r,s.same e1,e2,λv j F e2 r2 f2=>q v j F (e1.trans e2) r2 (f2.back e1)⟩
  ·refine⟨O,U,n,_,s,d,λv f F e1 r1 f1=>⟨B,r1.KJ,?_⟩⟩;refine yw ?_;exact q _ f _ e1 (.bl _) Fp.nil
def xw(r:Rp G H v t F):decide (v=.non)=RG t:=by
 cases r<;>simp[RG]
def Ey{c:Ex}(h:tT G c M H Q)(f:∀U m r,c U=Z (m,r)->∃b,r=.bl b)(w:∀Q,tE G c M H Q->t M H Q):tB t M H Q:=by
 obtain⟨O,U,m,r,b,s,e,d,k⟩:=h;refine w _ ⟨O,U,m,r,s,e,λv i F e1 r1 f1=>?_⟩;obtain⟨j,g⟩:=f U m r e;rw[g]at d r1;cases (d);exact⟨_,r1.KJ,k i e1⟩
end
section
def RpL.one(r:RpL G H d [t] f):∃v F,d=[v]/\f=[F]/\Rp G H v t F:=by
 cases r with
 |cons r q=>cases q;exact⟨_,_,rfl,rfl,r⟩
def Ij(K:X3):List V->Hp->VK->Prop:=λd H Q=>(∃x n,d=[x]/\Ji K x H n/\Q (.int n) H)\/(∃a f,d=[V.ref a]/\H a=Z (.dK f)/\Q (.int f.length) H)
def wg:dA X (.builtin "len") (λf H Q=>∃a d,f=[V.ref a]/\H a=Z (.dK d)/\Q (.int d.length) H):=by
 intro g s M H f m Q I r h;obtain⟨a,d,rfl,j,q⟩:=h;obtain⟨u,rfl,i⟩:=vals1 r;cases i;exact HZ I (.inl j) λt n l=>⟨.int d.length,H,l,⟨t,rfl⟩,q⟩
def za:dA X (.builtin "len") (Ij X.K):=Bf.or wg
def Fe:fz G (Ij G.K) bO:=by
 intro O U z H l o C m t Q A e k;refine L2.iq λy f=>?_;unfold bO at e;split at e
 ·rename_i x;obtain⟨w,x⟩:=x;obtain⟨n,d,e⟩:=Zw.mp e;cases e;obtain⟨v,F,rfl,rfl,r⟩:=(A.rp).one;have fin:=bj k (.int _);cases r with
  |non=>cases d
  |bl b=>cases d
  |int i=>cases d
  |str s g =>
   cases d;refine f ?_;exact .inl ⟨_,_,rfl,⟨by rw[cY,← gn];exact g.1,rfl⟩,by rw[cY];exact fin⟩
  |scr h =>
   cases d;refine f ?_;refine .inl ⟨_,_,rfl,.inl ⟨_,h.seq,rfl⟩,?_⟩;rw[Zt];exact fin
  |tup h q =>
   cases d;refine f ?_;refine .inl ⟨_,_,rfl,.inr ⟨_,Li.of h,rfl⟩,?_⟩;rw[q.len.1];exact fin
  |lst h q =>
   cases d;refine f ?_;refine .inl ⟨_,_,rfl,.inl ⟨_,Kb.of h,rfl⟩,?_⟩;rw[q.len.1];exact fin
  |dct h g q =>
   cases d;refine f ?_;refine .inr ⟨_,_,rfl,h,?_⟩;rename_i ks j u _;rw[Yv,Zt]at fin;rw[Yv,q.len.1];exact fin
  |dctT h g q=>cases d
  |dctN h g n q=>cases d
  |dctZ _ _ _=>cases d
  |exc _ _=>cases d
  |ins _ _ _ _=>cases d
  |mk _ _=>cases d
 ·cases e
def El(K:X3):List V->Hp->VK->Prop:=λf H Q=>∃p d,f=[.ref p]/\(Kb K H p d\/Li K H p d)/\∀l,H l=L->Q (.ref l) (upd H l (.lst d))
def xi:fz G (El G.K) ES:=by
 intro O U n H l j o m t Q A e k;unfold ES at e;split at e
 ·rename_i i x;obtain⟨v,F,rfl,rfl,f⟩:=(A.rp).one;obtain⟨a,d,Gs,rfl,rfl,h,g⟩:=f.lst_inv;exact⟨a,d,rfl,.inl (Kb.of h),ke A.same e g ((A.fp.each 0 _ _ Y Y).sub (Yd _ _)) k⟩
 ·rename_i i x;obtain⟨v,F,rfl,rfl,f⟩:=(A.rp).one;obtain⟨a,d,Gs,rfl,rfl,h,g⟩:=f.KA;exact⟨a,d,rfl,.inr (Li.of h),ke A.same e g (A.fp.each 0 _ _ Y Y) k⟩
 ·cases e
def tO(G:Gx)(c:Option Ex):TO:=λM H Q=>∃O U o,SR G O U M H/\Bz c U=Z o/\∀d,aI H d->Q o d
def PVO(G:Gx)(X:Cx)(e:Option Expr)(c:Option Ex):Prop:=PO X e (tO G c)
def PO.weak{X:Cx}{e:Option Expr}{f:TO}(h:PO X e t)(w:∀M H Q,f M H Q->t M H Q):PO X e f:=λd s M H Q I q=>h d s M H Q I (w M H Q q)
def uz(h:PV G X a ca):PVO G X (Z a) (Z ca):=PO.weak (xn h) λM H Q f=>by
 obtain⟨O,U,o,s,e,k⟩:=f;obtain⟨⟨m,y⟩,g,e⟩:=Zz.mp (e);obtain⟨i,d,e⟩:=Zw.mp e;cases e;refine⟨O,U,m,y,s,g,λv l F e1 r1 f1=>?_⟩;cases y with
 |int j =>
  cases d;exact⟨_,r1.int_inv,k l e1⟩
 |_=>cases d
def mD{α:Type}(l:List α)(d f:Option Int):cut l d f=(l.drop (HT.KQ l.length 0 d)).take (HT.KQ l.length l.length f-HT.KQ l.length 0 d):=by
 cases d<;>cases f<;>rfl
theorem N5(a:Int)(n:Nat):max 0 (min a (n:Int))=((min a.toNat n:Nat):Int):=L2.N5 a n
def Uw{k:Nat}(h:(k:Nat)<=n):max 0 (min (k:Int) (n:Int))=(k:Int):=by rw[N5,YF,YM h]
def Dl(a:Int)(n:Nat):max 0 (min a (n:Int))=max 0 (min ((min a.toNat n:Nat):Int) (n:Int)):=by
 rw[N5,N5,YF,Nat.min_assoc,XM]
def B1(d f:Option Int)(n:Nat):Builtin.Str.strSliceIndices d f 1 n=Builtin.Str.strSliceIndices (Z ((min (HT.KQ n 0 d) n:Nat):Int)) (Z ((min (HT.KQ n n f) n:Nat):Int)) 1 n:=by
 have nn:∀k:Nat,¬((k:Int)<0):=λk=>by lia
 unfold Builtin.Str.strSliceIndices;simp only[show (1:Int) > 0 by decide,if_true,nn,if_false];congr 1
 ·cases d with
  |none=>simp only[HT.KQ];rw[N5,YF,Nat.zero_min,Nat.zero_min];rfl
  |some i =>
   simp only[HT.KQ];by_cases h:i<0
   ·simp only[h,if_true];exact Dl _ _
   ·simp only[h,if_false];rw[Nat.min_assoc,XM];exact Dl _ _
 ·cases f with
  |none=>simp only[HT.KQ];rw[N5,YF,XM,XM]
  |some i =>
   simp only[HT.KQ];by_cases h:i<0
   ·simp only[h,if_true];exact Dl _ _
   ·simp only[h,if_false];rw[Nat.min_assoc,XM];exact Dl _ _
def ki(s:Tx)(d f:Option Int):PySem.StrLaws.sliceText (sx s) d f=sx (cut s d f):=by
 have key:PySem.StrLaws.sliceText (sx s) d f=PySem.StrLaws.sliceText (sx s) (Z ((min (HT.KQ s.length 0 d) s.length:Nat):Int)) (Z ((min (HT.KQ s.length s.length f) s.length:Nat):Int)):=by
  unfold PySem.StrLaws.sliceText;rw[cY,B1]
 rw[key];have hd:∀a:Nat,s.drop (min a s.length)=s.drop a:=λa=>by
  by_cases h:a<=s.length
  ·rw[YM h]
  ·rw[Wp (by exact XI h),Xc (Zk _),Xc (by exact XI h)]
 by_cases h:min (HT.KQ s.length 0 d) s.length<=min (HT.KQ s.length s.length f) s.length
 ·rw[PySem.StrLaws.sliceText_nat (sx s) h (by rw[cY];exact XJ _ _),mD];show (⟨_⟩:Str)=⟨_⟩;congr 2;have:(sx s).cps.toList=s:=rfl;rw[this,hd];by_cases i:HT.KQ s.length 0 d<=s.length
  ·rw[YM i];by_cases g:HT.KQ s.length s.length f<=s.length
   ·rw[YM g]
   ·rw[Wp (by exact XI g),Y9 (by rw[Ym];exact Zk _),Y9 (by rw[Ym];lia)]
  ·rw[Xc (by exact XI i)];simp
 ·have j:cut s d f=[]:=by
   rw[mD];have:HT.KQ s.length s.length f-HT.KQ s.length 0 d=0:=by omega
   rw[this,List.take_zero]
  rw[j];unfold PySem.StrLaws.sliceText;have e2:Builtin.Str.strSliceIndices (Z ((min (HT.KQ s.length 0 d) s.length:Nat):Int)) (Z ((min (HT.KQ s.length s.length f) s.length:Nat):Int)) 1 (sx s).length=[]:=by
   have e1:∀k:Nat,¬((k:Int)<0):=λk=>by lia
   unfold Builtin.Str.strSliceIndices sliceRange;simp only[show (1:Int) > 0 by decide,if_true,e1,if_false,cY];rw[Uw (XJ _ _),Uw (XJ _ _),Zn λz=>h (Y5 (Int.ofNat_lt.mp z))];rfl
  rw[e2];have:¬((1:Int)==1&&([]:Vh).length==(sx s).length)=J:=by
   rw[cY];simp;lia
  rw[Zn this];rfl
noncomputable def Hz:V->Option Int->Option Int->Hp->VK->Prop:=λx lo d H Q=>∃z,x=.str z/\z.length<=KM/\Q (.str (PySem.StrLaws.sliceText z lo d)) H
def part_of(h:IsPart v o):∃q:Option (Int×Tok),v=partValue q/\o=q.map (·.1):=by
 cases h with
 |none=>exact⟨L,rfl,rfl⟩
 |int i t=>exact⟨Z (i,t),rfl,rfl⟩
def sI{α β:Type}(f:α->Option β)(l:List α):(l.filterMap f).length<=l.length:=List.length_filterMap_le f l
def Ct(d f:Option Int)(n:Nat):(Builtin.Str.strSliceIndices d f 1 n).length<=n:=by
 rw[B1];by_cases h:min (HT.KQ n 0 d) n<=min (HT.KQ n n f) n
 ·rw[PySem.StrLaws.strSliceIndices_plain h (by exact XJ _ _),Zt,ZT];lia
 ·have e1:∀k:Nat,¬((k:Int)<0):=λk=>by lia
  unfold Builtin.Str.strSliceIndices sliceRange;simp only[show (1:Int) > 0 by decide,if_true,e1,if_false];rw[Uw (XJ _ _),Uw (XJ _ _),Zn λz=>h (Y5 (Int.ofNat_lt.mp z))];simp
def zK:P1 X Hz:=by
 intro f s M H x v o n lo w r Q I g m i pu h;obtain⟨z,rfl,j,q⟩:=h;obtain⟨t,rfl⟩:=g;obtain⟨l,rfl,rfl⟩:=part_of i;obtain⟨u,rfl,rfl⟩:=part_of pu;refine⟨"str",_,F.slot_str_getitem.lookup,W5 s z t,wpAny_getItem_str_slice (l:=l) (u:=u) (st:=L) m Y ?_⟩;unfold sliceMade;split
 ·rename_i d;refine⟨.str z,H,I,⟨t,rfl⟩,?_⟩;have e:PySem.StrLaws.sliceText z (l.map (·.1)) (u.map (·.1))=z:=by
   exact Zp d
  rw[e]at q;exact q
 ·rename_i d;refine⟨ZJ ?_ j,.str _,H,I.tok _,⟨_,rfl⟩,?_⟩
  ·show (List.filterMap _ _).toArray.size<=_;rw[ZM];exact ZJ (sI _ _) (Ct _ _ _)
  ·have e:PySem.StrLaws.sliceText z (l.map (·.1)) (u.map (·.1))=⟨((slicePicked z l u L).filterMap (z.cps[·]?)).toArray⟩:=by
    exact Zn d
   rw[e]at q;exact q
def rSl(K:X3):V->Option Int->Option Int->Hp->VK->Prop:=λx lo d H Q=>Hz x lo d H Q\/IC K x lo d H Q
def Jo:P1 X (rSl X.K):=zK.or C4
def xT{α:Type}(l:List α)(d f:Option Int):(cut l d f).length<=l.length:=by
 rw[mD,Y1,Ym];lia
theorem RpL.cut{f:Vb}(r:RpL G H d f g)(lo hi:Option Int):RpL G H (Ae d lo hi) (VS.cut f lo hi) (VS.cut g lo hi):=by
 have h:=r.len;rw[mD,mD,h.2];unfold Ae;rw[h.1];exact(r.drop _).take _
def rE{α:Type}(l:List α)(d f:Option Int):(VS.cut l d f).Sublist l:=by
 rw[mD];exact(List.take_sublist _ _).trans (List.drop_sublist _ _)
def zu{F G:Xy}(h:F.Sublist G):F.flatten.Sublist G.flatten:=by
 induction h with
 |slnil=>exact Ww _
 |cons a _ d=>rw[ZK];exact d.trans (Xr _ _)
 |cons_cons a _ d=>rw[ZK,ZK];exact(Ww _).append d
def Bd(Y:PV G X a ca)(f:PVO G X j r)(R:PVO G X n u)(hK:{`q2,X.K=G.K}):PV G X (.Subscript a (.Slice j n L D) pos) (eSl ca r u) :=
 PE.weak (u4 Jo Y f R) λM H Q P=>by
  obtain⟨O,U,m,t,s,e,k⟩:=P;obtain⟨⟨E,x⟩,ea,o⟩:=Zz.mp e;obtain⟨l,el,w⟩:=Zz.mp o;obtain⟨h,eh,g⟩:=Zz.mp w;clear e o w;refine⟨O,U,E,x,s,ea,λv H1 F e1 r1 f1=>⟨O,U,l,s.same e1,el,λH2 e2=>⟨O,U,h,(s.same e1).same e2,eh,λH3 e3=>?_⟩⟩⟩;have d:=(e1.trans e2).trans e3;have i:=(r1.same e2).same e3;unfold oSl at g;split at g
  ·rename_i N z q;cases q;cases g;obtain⟨rfl,f⟩:=i.str_inv;refine .inl ⟨_,rfl,by rw[cY,← gn];exact f.1,?_⟩;rw[ki];exact k _ H3 _ d (.str _ ⟨ZJ (xT _ _ _) f.1,λc S=>f.2 c ((rE _ _ _).subset S)⟩) Fp.nil
  ·rename_i N z q;cases q;obtain⟨a',y,Fs,rfl,rfl,J7,A⟩:=i.lst_inv;refine .inr ⟨a',y,rfl,by rw[hK];exact Kb.of J7,ke d g (A.cut l h) ((f1.sub (Yd _ _)).sub (zu (rE _ _ _))) λv H4 F e5 C f4=>k v H4 F (d.trans e5) C f4⟩
  ·cases g
noncomputable def NB:Ty->String
 |.int => "int"
 |.str => "str"
 |.bool => "bool"
 |.list => "list"
 |.tuple => "tuple"
 |.dict => "dict"
def rIs(K:X3):List V->Hp->VK->Prop:=λd H Q=>∃x c t b,d=[x,.ty c]/\Lo K H x t/\PySem.W.kitOne K t (.type c)=Z b/\Q (.bl b) H
def CB:dA X (.builtin "isinstance") (rIs X.K):=by
 intro d s M H f i Q I r h;obtain⟨x,c,t,b,rfl,ty,e,q⟩:=h;obtain⟨u,g,rfl,r1,r2⟩:=vals2 r;cases r2;exact yz I r1 ty e λj=>⟨.bl b,H,I.tok _,rfl,q⟩
def CP(K:X3)(d:Ty):(PySem.W.kitOne K (.type "NoneType") (.type (NB d))=Z B)/\(PySem.W.kitOne K (.type "bool") (.type (NB d))=Z (ud d (.bl J)))/\(PySem.W.kitOne K (.type "int") (.type (NB d))=Z (ud d (.int 0))) ∧
  (PySem.W.kitOne K (.type "str") (.type (NB d))=Z (ud d (.str [])))/\(PySem.W.kitOne K (.type "list") (.type (NB d))=Z (ud d (.lst [])))/\(PySem.W.kitOne K (.type "tuple") (.type (NB d))=Z (ud d (.tup [])))/\(PySem.W.kitOne K (.type "dict") (.type (NB d))=Z (ud d (.dct 0 []))):=by
 cases d<;>refine⟨?_,?_,?_,?_,?_,?_,?_⟩<;>kernel_rfl
def Jg(d:Ty)(r:Rp G H v t F)(h:xJ t=J):∃g,Lo G.K H v g/\PySem.W.kitOne G.K g (.type (NB d))=Z (ud d t):=by
 obtain⟨y,x,w,u,o,m,j⟩:=CP G.K d;cases r with
 |non=>exact⟨_,.non,by rw[y];cases d<;>rfl⟩
 |bl b=>exact⟨_,.bl b,by rw[x];cases d<;>rfl⟩
 |int i=>exact⟨_,.int i,by rw[w];cases d<;>rfl⟩
 |str s _=>exact⟨_,.str _,by rw[u];cases d<;>rfl⟩
 |scr _=>cases h
 |tup f q=>exact⟨_,.tup f,by rw[m];cases d<;>rfl⟩
 |lst f q=>exact⟨_,.lst f,by rw[o];cases d<;>rfl⟩
 |dct f l q=>exact⟨_,.dK f,by rw[j];cases d<;>rfl⟩
 |dctT f l q=>exact⟨_,.dT f,by rw[j];cases d<;>rfl⟩
 |dctN f l n q=>simp at h
 |dctZ _ _ _=>cases h
 |exc _ _=>cases h
 |ins _ _ _ _=>cases h
 |mk _ _=>cases h
def IB(f:Ty)(A:PV G X a ca)(z:Gl X "isinstance")(u:X.mg "isinstance" = L)(N:Gl X x)(P:X.mg x=L)(o:bootBuiltins x=Z (.type (NB f)))(i:{`q2,X.K=G.K})(r:{`q1,x ≠ "__name__"})(S:{`q1,K3 x})(h:{`q2,P3 [a,.Name x d] X.env=(B,eval a X.env) :: P3 [.Name x d] X.env})(R:{`q2,P3 [.Name x d] X.env=(B,eval (.Name x d) X.env) :: P3 [] X.env})(K9:{`q2,(backTo pos (P3 [Expr.Name x d] X.env)).any (·.1)=B}) :
  PV G X (.Call (.Name "isinstance" l) [a,.Name x d] [] pos) (PU f ca) :=
 PE.weak (pI CB z u boot_isinstance (bW A (bW (D9 (v:=.ty (NB f)) N P o Y r S) dP R) h) (by decide) Y h K9) λM H Q q=>by
  obtain⟨O,U,m,t,s,e,k⟩:=q;obtain⟨⟨n,y⟩,E,g⟩:=Zz.mp e;split at g
  ·rename_i w;cases g;refine⟨O,U,n,y,s,E,λv H' F e1 r1 f1=>?_⟩;obtain⟨j,D,C⟩:=Jg f r1 w;exact⟨v,NB f,j,_,rfl,by rw[i];exact D,by rw[i];exact C,k _ H' _ e1 (.bl _) Fp.nil⟩
  ·cases g
end
section
def FI(G:Gx)(r:V->List V->Hp->VK->Prop)(f:Val->Vd->Vc):Prop:=∀(O:J5)(U:VS.Env)(d i H:Hp)(x:Val)(v:V)(F:Wc)(l:Vd)(h:List V)(j:Xy)(m:Md)(t:T)(Q:VK),
 aI d i->Rp G H v x.2 F->Fp O U d x.1 F->Args G O U i H l h j->f x l=Z (m,t)->(∀v g F,aI H g->Rp G g v t F->Fp O U d m F->Q v g)->r v h H Q
def Ei{g:Pos}(A:PlainAttrs n)(h:Slot n d j)(QP:typeOf (.builtin j)=pure (.type "method_descriptor"))(P:Rv X j r)(C:FI G r f)(S:∀H v (x:Val) F l z,Rp G H v x.2 F->f x l=Z z->tyV G.K n v H)(N:PV G X a ca)(R:Lc G X (e :: es) cs)(Y:{`q2,X.K=G.K})(Ka:{`q2,XAA a d X.env (eval a X.env)=eval a X.env})(Kr:{`q2,((backTo i (P3 (e :: es) X.env)).all (λx=>!x.1)&&(backToKw i (SL [] X.env)).all (λx=>x.1.isSome)
   && decide ((e :: es).length+([]:List Keyword).length+(if ([]:List Keyword).isEmpty then 0 else 1)<30))=J})(J6:{`q2,(g.endLine==i.line)=J})(D:{`q2,K1 e es X})(J2:{`q2,K2 i es X}) :
  PV G X (.Call (.Attribute a d g) (e :: es) [] i) (eM f ca cs) :=
 PE.weak (lI A h QP P N R Ka Kr J6 D J2) λM H Q E=>by
  obtain⟨O,U,m,t,s,e,k⟩:=E;obtain⟨x,ea,e'⟩:=Zz.mp e;obtain⟨l,el,o⟩:=Zz.mp e';refine⟨O,U,x.1,x.2,s,ea,λv q F e1 r1 f1=>⟨by rw[Y];exact S q v x F l _ r1 o,O,U,l,s.same e1,el,λu H2 Fs e2 r2 f2=>?_⟩⟩;exact C O U H q H2 x v F l u Fs m t Q e1 (r1.same e2) f1 ⟨e2,r2,f2⟩ o λw H3 F' e3 y f3=>k w H3 F' ((e1.trans e2).trans e3) y f3
def DZ:∀(sep:Tx)(d:List Tx),Txt.join (sx sep) (d.map sx)=sx (dR sep d):=by
 intro sep d;have fold:∀(l:List Tx)(acc:Tx),(l.map sx).foldl (λacc p=>acc++(sx sep).cps++p.cps) acc.toArray=(l.foldl (λacc p=>acc++sep++p) acc).toArray:=by
  intro l
  induction l with
  |nil=>intro acc;rfl
  |cons x r f =>
   intro acc;rw[Zg,YD,YD,← f];congr 1;simp[sx]
 have g:∀(r:List Tx)(acc:Tx),r.foldl (λacc p=>acc++sep++p) acc=dR sep (acc :: r):=by
  intro r
  induction r with
  |nil=>intro acc;rfl
  |cons x r f =>
   intro acc;rw[YD,f];cases r with
   |nil=>rfl
   |cons y r=>simp[dR]
 cases d with
 |nil=>rfl
 |cons x r =>
  show (⟨_⟩:Str)=⟨_⟩;congr 1;show ((r.map sx).foldl _ x.toArray)=_;rw[fold,g]
theorem sy:∀{d:List V}{l:Vb}{g:Xy}{f:List Tx},RpL G H d l g->strs? l=Z f->d=f.map λs=>V.str (sx s)
 |_,_,_,_,.nil,e=>by cases e;rfl
 |_,_,_,_,.cons (t:=t) r q,e=>by
  cases t with
  |str s =>
   obtain⟨h,e1,e2⟩:=Zw.mp e;subst e2;rw[sy q e1,r.str_inv.1];rfl
  |_=>cases e
theorem pR:∀{d:List Tx}{f:Wa},aQ (d.map λs=>V.str (sx s)) f->StrsAre f (d.map sx)
 |[],_,h=>by cases h;exact .nil
 |s :: d,_,h=>by
  cases h with
  |cons r q =>
   obtain⟨t,rfl⟩:=r;exact .cons _ _ (pR q)
def rJoin(K:X3):V->List V->Hp->VK->Prop:=λx f H Q=>∃sep p d,x=.str (sx sep)/\f=[.ref p]/\Kb K H p (d.map λs=>V.str (sx s))/\total d+d.length*sep.length<=16777216/\Q (.str (sx (dR sep d))) H
theorem wV:∀d:List Tx,((d.map sx).map (·.length)).sum=total d
 |[]=>rfl
 |s :: r=>by
  rw[Zg,Zg,WT,wV r,cY];rfl
def wH:Rv X "str.join" (rJoin X.K):=by
 intro d s M H x n v o Q I f m h;obtain⟨sep,p,y,rfl,rfl,j,l,q⟩:=h;obtain⟨t,rfl⟩:=f;obtain⟨u,rfl,g⟩:=vals1 m;cases g;obtain⟨z,r,i,A⟩:=I.list j;refine join_list i.isList (by simpa using pR r) ?_ λw k=>⟨.str _,H,I.tok _,⟨_,by rw[DZ]⟩,q⟩
 rw[wV,Zt,cY];exact l
theorem kZ(d:Tx):∀f:List Tx,(dR d f).length<=total f+f.length*d.length
 |[]=>by simp[dR,total]
 |[x]=>by simp[dR,total]
 |x :: y :: r=>by
  have:=kZ d (y :: r);simp only[dR,total,Zq,Zi]at this ⊢;lia
theorem kP(d:Tx):∀(f:List Tx)(c:Nat),c∈dR d f->c∈d\/∃s∈f,c∈s
 |[],c,h=>by simp[dR]at h
 |[x],c,h=>.inr ⟨x,Zx,h⟩
 |x :: y :: r,c,h=>by
  simp only[dR,ZW]at h;rcases h with (h | h) | h
  ·exact .inr ⟨x,Zx,h⟩
  ·exact .inl h
  ·exact(kP d (y :: r) c h).imp id λ⟨s,g,i⟩=>⟨s,Zy _ g,i⟩
theorem kE:∀{g:List V}{l:Vb}{h:Xy}{f:List Tx},RpL G H g l h->strs? l=Z f->∀s∈f,∀c∈s,c<1114112
 |_,_,_,_,.nil,e,s,d=>by cases e;simp at d
 |_,_,_,_,.cons (t:=t) r q,e,s,d=>by
  cases t with
  |str x =>
   obtain⟨i,e1,e2⟩:=Zw.mp e;subst e2;rcases Zo.mp d with rfl | d
   ·exact r.str_inv.2.2
   ·exact kE q e1 s d
  |_=>cases e
def Dd:FI G (rJoin G.K) ly:=by
 intro O U S R H x v F l E Y m t Q o r f A e k;unfold ly at e;split at e
 ·rename_i M sep N P;obtain⟨d,n,g⟩:=Zz.mp e;split at g
  ·rename_i i;cases g;obtain⟨D,F',rfl,rfl,s⟩:=(A.rp).one;obtain⟨w,C,Gs,rfl,rfl,j,h⟩:=s.lst_inv;rw[sy h n]at j;refine⟨sep,w,d,r.str_inv.1,rfl,Kb.of j,i,bj k (.str _ ⟨ZJ (kZ sep d) i,λc u=>(kP sep d c u).elim (r.str_inv.2.2 c) λ⟨q,y,z⟩=>kE h n q y c z⟩)⟩
  ·cases g
 ·cases e
def oM(r:Rp G H v t F)(h:∃s,t=.str s):tyV G.K "str" v H:=by
 obtain⟨s,rfl⟩:=h;rw[r.str_inv.1];rfl
def Cn{d:Pos}(i:PV G X a ca)(j:Lc G X [e] cs)(g:{`q2,X.K=G.K})(n:{`q2,XAA a "join" X.env (eval a X.env)=eval a X.env})(m:{`q2,((backTo f (P3 [e] X.env)).all (λx=>!x.1)&&(backToKw f (SL [] X.env)).all (λx=>x.1.isSome)
   && decide ([e].length+([]:List Keyword).length+(if ([]:List Keyword).isEmpty then 0 else 1)<30))=J})(o:{`q2,(d.endLine==f.line)=J})(h:{`q2,K1 e [] X})(q:{`q2,(backTo f (P3 [] X.env)).any (·.1)=B}) :
  PV G X (.Call (.Attribute a "join" d) [e] [] f) (eM ly ca cs) :=
 Ei WM PySem.F.slot_str_join PySem.F.type_str_join (g ▸ wH) Dd (λH v x F l z r e=>oM r (by
  unfold ly at e;split at e
  ·exact⟨_,rfl⟩
  ·cases e)) i j g n m o h q
end
end VS
end
section
namespace VS
@[simp] def LN(x y:Val):Vc:=match x.2 with
 |.dct 0 l=>if fm y.2 then (dn l y.2).map (sub x.1) else L
 |_=>aC x y
noncomputable def flat:T->Bool
 |.non=>J
 |.bl _=>J
 |.int _=>J
 |.str _=>J
 |_=>B
@[simp] def kD(x y:Val):Vc:=match y.2 with
 |.dct 0 l=>if fm x.2 then Z (.fr,.bl (dn l x.2).isSome) else L
 |.lst l=>if flat x.2&&l.all flat then Z (.fr,.bl (l.any λy=>eqT y x.2)) else L
 |.tup l=>if flat x.2&&l.all flat then Z (.fr,.bl (l.any λy=>eqT y x.2)) else L
 |_=>L
@[simp] def bV(x y:Val):Vc:=match kD x y with
 |some (_,.bl b)=>Z (.fr,.bl (!b))
 |_=>L
def pm{α:Type}(f:T->Option (T×α)):List Ky->T->Option (T×α)
 |[],t=>f t
 |.fld k :: r,t=>match t with
  |.obj (c+1) (q :: fs)=>(fs.findIdx? λp=>p.1==k).bind λi=>(fs[i]?).bind λp=>(pm f r p.2).map λz=>(.obj (c+1) (q :: fs.set i (p.1,z.1)),z.2)
  |_=>L
 |.un :: r,t=>match t with
  |.obj 0 [(0,.bl true),(m,x)]=>(pm f r x).map λz=>(.obj 0 [(0,.bl J),(m,z.1)],z.2)
  |_=>L
 |.at k :: r,t=>match t with
  |.lst l=>match k with
   |.int i=>(KU l.length i).bind λj=>(l[j]?).bind λx=>(pm f r x).map λz=>(.lst (l.set j z.1),z.2)
   |_=>L
  |.dct 0 l=>if fm k then (l.findIdx? λp=>eqT p.1 k).bind λi=>(l[i]?).bind λp=>(pm f r p.2).map λz=>(.dct 0 (l.set i (p.1,z.1)),z.2) else L
  |_=>L
end VS
end
section
namespace VS
open PySem PySem.Spec PyProof.Rows L2
section
mutual
def Nd:T->PyData
 |.non=>.none
 |.bl b=>.bool b
 |.int i=>.int i
 |.str s=>.str (sx s)
 |.tup l=>.tuple (p7 l)
 |.lst l=>.list (p7 l)
 |_=>.none
def p7:Vb->List PyData
 |[]=>[]
 |t :: r=>Nd t :: p7 r
end
def HR(h:pT s):PyData.strOk (sx s)=J:=by
 unfold PyData.strOk sx;simp only[Array.all_eq_true,decide_eq_true_eq];intro i a;have:s.toArray[i]∈s:=by simp
 have:=h.2 _ this;simpa using this
def zV:(sx s==sx t)=(s==t):=by
 rw[Xq,beq_iff_eq,beq_iff_eq];constructor
 ·intro h;have:(sx s).cps=(sx t).cps:=by rw[h]
  simpa[sx] using this
 ·intro h;rw[h]
mutual
theorem rY:∀(n k:Nat)(t u:T),KY n t=J->KY k u=J->PyData.eqv (Nd t) (Nd u)=eqT t u
 |n,k,t,u,b,a=>by
  cases t with
  |scr _=>cases n<;>cases b
  |dct _ _=>cases n<;>cases b
  |obj _ _=>cases n<;>cases b
  |tup l =>
   cases n with
   |zero=>cases b
   |succ n =>
    cases u with
    |tup r =>
     cases k with
     |zero=>cases a
     |succ k =>
      exact pJ n k l r (Za.mp b) (Za.mp a)
    |scr _=>cases k<;>cases a
    |dct _ _=>cases k<;>cases a
    |obj _ _=>cases k<;>cases a
    |_=>rfl
  |lst l =>
   cases n with
   |zero=>cases b
   |succ n =>
    cases u with
    |lst r =>
     cases k with
     |zero=>cases a
     |succ k =>
      exact pJ n k l r (Za.mp b) (Za.mp a)
    |scr _=>cases k<;>cases a
    |dct _ _=>cases k<;>cases a
    |obj _ _=>cases k<;>cases a
    |_=>rfl
  |str s =>
   cases u with
   |str r=>exact zV
   |scr _=>cases k<;>cases a
   |dct _ _=>cases k<;>cases a
   |obj _ _=>cases k<;>cases a
   |_=>rfl
  |_ =>
   cases u with
   |scr _=>cases k<;>cases a
   |dct _ _=>cases k<;>cases a
   |obj _ _=>cases k<;>cases a
   |_=>rfl
theorem pJ:∀(n k:Nat)(l r:Vb),(∀t∈l,KY n t=J)->(∀t∈r,KY k t=J)->PyData.eqvAll (p7 l) (p7 r)=yt l r
 |_,_,[],[],_,_=>rfl
 |_,_,[],_ :: _,_,_=>rfl
 |_,_,_ :: _,[],_,_=>rfl
 |n,k,t :: l,u :: r,d,b=>by
  show (PyData.eqv (Nd t) (Nd u)&&PyData.eqvAll (p7 l) (p7 r))=(eqT t u&&yt l r);rw[rY n k t u (d t Zx) (b u Zx),pJ n k l r (λx a=>d x (Zy _ a)) λx a=>b x (Zy _ a)]
end
def Rp.NV(r:Rp G H v (.tup d) F):∃b a e,v=.ref b/\H b=Z (.tup a)/\RpL G H a d e:=by
 cases r with
 |tup h q=>exact⟨_,_,_,rfl,h,q⟩
def Rp.N8(r:Rp G H v (.lst d) F):∃b a e,v=.ref b/\H b=Z (.lst a)/\RpL G H a d e:=by
 cases r with
 |lst h q=>exact⟨_,_,_,rfl,h,q⟩
theorem m6{s:KB}(f:∀{v:V}{t:T}{F:Wc}{u:PP},Rp G H v t F->RelV v u->KY n t=J->∃b,Reads s.heap u (Nd t) b/\(Nd t).canLay0=J/\(Nd t).depth<=n):∀{d:List V}{a:Vb}{x:Xy}{e:Wa},RpL G H d a x->aQ d e->(∀t∈a,KY n t=J) →
  ∃b,ReadsAll s.heap e (p7 a) b/\PyData.canLayAll0 (p7 a)=J/\PyData.depthAll (p7 a)<=n
 |_,_,_,_,.nil,r,_=>by cases r;exact⟨_,.nil,rfl,Yk _⟩
 |_,_,_,_,.cons p q,r,h=>by
  cases r with
  |cons r1 r2 =>
   obtain⟨b,l,j,i⟩:=f p r1 (h _ Zx);obtain⟨bs,w,o,m⟩:=m6 f q r2 λt g=>h t (Zy _ g);exact⟨_,.cons l w,ZZ.mpr ⟨j,o⟩,Nat.max_le.mpr ⟨i,m⟩⟩
def pQ(r:Rp G H v t F)(a:RelV v u)(d:flat t=J):∃e,Reads h u (Nd t) e/\(Nd t).canLay0=J/\(Nd t).depth<=n:=by
 cases r with
 |non=>cases a;exact⟨_,.none,rfl,Yk _⟩
 |bl b=>cases a;exact⟨_,.bool b,rfl,Yk _⟩
 |int i=>obtain⟨t,rfl⟩:=a;exact⟨_,.int i t,rfl,Yk _⟩
 |str s h=>obtain⟨t,rfl⟩:=a;exact⟨_,.str _ t,HR h,Yk _⟩
 |_=>cases d
def lA(I:Inv X d M H s)(n:Nat):∀{v:V}{t:T}{F:Wc}{u:PP},Rp G H v t F->RelV v u->KY n t=J->∃w,Reads s.heap u (Nd t) w/\(Nd t).canLay0=J/\(Nd t).depth<=n:=by
 induction n with
 |zero =>
  intro v t F u r a h;refine pQ r a ?_;cases t<;>first | rfl | exact h
 |succ n x =>
  intro v t F u r a h;cases t with
  |tup l =>
   obtain⟨b,y,N,rfl,e,q⟩:=Rp.NV r;cases a;obtain⟨C,f,z,E⟩:=I.tuple (Li.of e);obtain⟨w,p,m,j⟩:=m6 x q f (Za.mp h);obtain⟨o,g,i,D,hd⟩:=z;exact⟨_,.tuple g i hd (by simpa using p),m,Xj j⟩
  |lst l =>
   obtain⟨b,y,N,rfl,e,q⟩:=Rp.N8 r;cases a;obtain⟨C,f,A,E⟩:=I.list (Kb.of e);obtain⟨w,p,m,j⟩:=m6 x q f (Za.mp h);obtain⟨o,g,i,D,hd⟩:=A.isList;exact⟨_,.list g i hd (by simpa using p),m,Xj j⟩
  |scr _=>cases h
  |dct _ _=>cases h
  |obj _ _=>cases h
  |_=>exact pQ r a Y
def Co(G:Gx)(a:Bool):R2:=λx y H Q=>∃t u F b,Rp G H x t F/\Rp G H y u b/\KY 60 t=J/\KY 60 u=J/\Q (.bl (if a then !eqT t u else eqT t u)) H
def j8{d:PyData}(h:d.canLay0=J)(a:d.depth<=60):SeqAt.shaped d=J:=by
 unfold SeqAt.shaped;rw[h,Bool.true_and];exact ZR (by lia)
def vq(g:X.A.units+64<cLine):OpR X (SZ .Eq) (Co G B):=by
 intro a s M H x y v u Q I f e h;obtain⟨t,w,F,r,r1,r2,d,b,q⟩:=h;obtain⟨p,o,n,m⟩:=lA I 60 r1 f d;obtain⟨bs,l,j,i⟩:=lA I 60 r2 e b;refine eq_dataH o l (j8 n m) (j8 j i) g ⟨.bl _,H,I,rfl,?_⟩;rw[rY 60 60 t w d b];exact q
def Fz(g:X.A.units+64<cLine):OpR X (SZ .NotEq) (Co G J):=by
 intro a s M H x y v u Q I f e h;obtain⟨t,w,F,r,r1,r2,d,b,q⟩:=h;obtain⟨p,o,n,m⟩:=lA I 60 r1 f d;obtain⟨bs,l,j,i⟩:=lA I 60 r2 e b;refine ne_dataH o l (j8 n m) (j8 j i) g ⟨.bl _,H,I,rfl,?_⟩;rw[rY 60 60 t w d b];exact q
def zx:fY G (Co G B) oEq:=by
 intro O U b H x y u w f d m t Q a e k;unfold oEq at e;split at e
 ·rename_i h;cases e;exact⟨_,_,_,_,a.r1,a.r2,h.1,h.2,bj k (.bl _)⟩
 ·cases e
def IM:fY G (Co G J) NF:=by
 intro O U b H x y u w f d m t Q a e k;unfold NF at e;split at e
 ·rename_i h;cases e;exact⟨_,_,_,_,a.r1,a.r2,h.1,h.2,bj k (.bl _)⟩
 ·cases e
def tells_eq:Tells oEq:=by
 intro x y m t e;unfold oEq at e;split at e<;>first | (cases e;exact⟨_,rfl⟩) | cases e
def Bt:Tells NF:=by
 intro x y m t e;unfold NF at e;split at e<;>first | (cases e;exact⟨_,rfl⟩) | cases e
end
structure Kh(O:J5)(U:VS.Env)(H:Hp)(O':J5)(U':VS.Env)(H':Hp):Prop where
 keep:∀a o,H a=some o->¬bL O U a->H' a=some o/\¬bL O' U' a
 Kd:∀a,H a≠none->H' a≠none
 ow:∀a,bL O' U' a->bL O U a\/H a=none
 pu:∀a,df O' U' a->df O U a\/bL O U a\/H a=none
 kept:Kept H H'
theorem Kh.refl(O:J5)(U:VS.Env)(H:Hp):Kh O U H O U H:=⟨λa o h n=>⟨h,n⟩,λ_ h=>h,λ_ h=>.inl h,λ_ h=>.inl h,Kept.refl H⟩
theorem Kh.none(f:Kh O U H g d b)(h:b a=L):H a=L:=by
 cases e:H a with
 |none=>rfl
 |some o=>exact absurd h (f.Kd a (by rw[e];exact λz=>nomatch z))
theorem Kh.trans{e:J5}{U1 b:VS.Env}{j i:Hp}(f:Kh O U H e U1 j)(g:Kh e U1 j d b i):Kh O U H d b i where
 keep:=λa o h n=>let ⟨m,l⟩:=f.keep a o h n;g.keep a o m l
 Kd:=λa h=>g.Kd a (f.Kd a h)
 ow:=λa h=>by
  rcases g.ow a h with h | h
  ·exact f.ow a h
  ·exact .inr (f.none h)
 pu:=λa h=>by
  rcases g.pu a h with h | h | h
  ·exact f.pu a h
  ·rcases f.ow a h with h | h
   ·exact .inr (.inl h)
   ·exact .inr (.inr h)
  ·exact .inr (.inr (f.none h))
 kept:=f.kept.trans g.kept
def Kh.same{H:Hp}(e:aI H b):Kh O U H O U b :=
 ⟨λa o h n=>⟨e a o h,n⟩,λa h z=>h (e.free z),λ_ h=>.inl h,λ_ h=>.inl h,Kept.of e⟩
def ug(O:J5)(U:VS.Env)(H:Hp):Md->Wc->Prop
 |.fr,F=>F.Nodup/\∀a∈F,H a=L\/bL O U a
 |_,F=>∀a∈F,H a=L\/df O U a\/bL O U a
theorem ug.back(f:Kh O U H e d g):∀{m:Md},ug e d g m F->ug O U H m F
 |.fr,h=>⟨h.1,λa b=>(h.2 a b).elim (λz=>.inl (f.none z)) λz=>(f.ow a z).elim .inr .inl⟩
 |.pu,h=>λa b=>by
  rcases h a b with z | z | z
  ·exact .inl (f.none z)
  ·rcases f.pu a z with z | z | z
   ·exact .inr (.inl z)
   ·exact .inr (.inr z)
   ·exact .inl z
  ·exact(f.ow a z).elim (λz=>.inr (.inr z)) .inl
 |.bo,h=>λa b=>by
  rcases h a b with z | z | z
  ·exact .inl (f.none z)
  ·rcases f.pu a z with z | z | z
   ·exact .inr (.inl z)
   ·exact .inr (.inr z)
   ·exact .inl z
  ·exact(f.ow a z).elim (λz=>.inr (.inr z)) .inl
noncomputable def Nx(G:Gx)(O:J5)(U:VS.Env)(H:Hp)(b:VS.Env)(k:L2.St->Hp->Prop):Prop:=∀d e a,SR G d b e a->Kh O U H d b a->k e a
def qf(G:Gx)(O:J5)(U:VS.Env)(H:Hp)(D:Ends):Out->Prop
 |.nx a=>Nx G O U H a D.nx
 |.bk a=>Nx G O U H a D.bk
 |.ct a=>Nx G O U H a D.ct
 |.rt v a=>∀u b F d e,SR G d a e b->Kh O U H d a b->Rp G b u v.2 F->ug O U H v.1 F->D.rt u b
def tS(G:Gx)(c:Sx):TS:=λD M H=>∃O U o,SR G O U M H/\c U=Z o/\qf G O U H D o
def PSV(G:Gx)(X:Cx)(a:Stmt)(c:Sx):Prop:=PS X a (tS G c)
def gq(G:Gx)(X:Cx)(a:List Stmt)(c:Sx):Prop:=LZ X a (tS G c)
def PS.weak{X:Cx}(h:PS X e t)(w:∀D M H,b D M H->t D M H):PS X e b:=λa s M H D I q=>h a s M H D I (w D M H q)
def LZ.weak{X:Cx}(h:LZ X e t)(w:∀D M H,b D M H->t D M H):LZ X e b:=λa s M H D I q=>h a s M H D I (w D M H q)
theorem qf.back(f:Kh O U H j i l):∀{o:Out},qf G O U H D o->qf G j i l D o
 |.nx e,h=>λa b d s g=>h a b d s (f.trans g)
 |.bk e,h=>λa b d s g=>h a b d s (f.trans g)
 |.ct e,h=>λa b d s g=>h a b d s (f.trans g)
 |.rt v e,h=>λu d F a b s g r q=>h u d F a b s (f.trans g) r (q.back f)
section
variable{st:Stmt}
def bG:gq G X [] gf:=LZ.weak D1 λD M H a=>by
 obtain⟨O,U,o,s,e,k⟩:=a;cases (e);exact k O M H s (Kh.refl _ _ _)
def af(i:PSV G X st c1)(h:gq G X Sa c2):gq G X (st :: Sa) (ak c1 c2):=LZ.weak (ua i h) λD M H g=>by
 obtain⟨O,U,o,s,e,k⟩:=g;obtain⟨b,e1,e2⟩:=Zz.mp e;refine⟨O,U,b,s,e1,?_⟩;cases b with
 |nx a=>exact λj l m d f=>⟨j,a,o,d,e2,k.back f⟩
 |rt v a=>cases e2;exact k
 |bk a=>cases e2;exact k
 |ct a=>cases e2;exact k
def dy(h:LY G X t d)(j:gq G X a c1)(i:gq G X b c2):PSV G X (.If t a b pos) (Lw d c1 c2):=PS.weak (EC h j i) λD M H g=>by
 obtain⟨O,U,o,s,e,k⟩:=g;obtain⟨⟨m,x⟩,l,e1⟩:=Zz.mp e;obtain⟨f,n,e2⟩:=Zz.mp e1;refine⟨O,U,m,x,f,s,l,n,λp e3=>?_⟩;cases f with
 |true =>
  rw[Zp Y]at e2;exact zo ⟨O,U,o,s.same e3,e2,k.back (Kh.same e3)⟩
 |false =>
  rw[Zn ZX]at e2;exact yw ⟨O,U,o,s.same e3,e2,k.back (Kh.same e3)⟩
theorem Fp.ret:∀{m:Md},Fp O U H m F->ug O U H (match m with | .bo=>.pu | m=>m) F
 |.fr,f=>⟨f.1,λa b=>.inl (f.2 a b)⟩
 |.pu,f=>λa b=>(f a b).elim .inl λz=>.inr (.inl z)
 |.bo,f=>f
def bu(he:PV G X e ce):PSV G X (.Return (Z e) pos) (fT ce):=PS.weak (r6 he) λD M H a=>by
 obtain⟨O,U,o,s,e,k⟩:=a;obtain⟨⟨m,x⟩,b,e1⟩:=Zz.mp e;cases e1;exact⟨O,U,m,x,s,b,λv d F e1 r1 f1=>k v d F O M (s.same e1) (Kh.same e1) r1 f1.ret⟩
def cU{U:VS.Env}{c:Cell}(h:(U.set i L)[j]?=Z (Z c)):j≠i/\U[j]?=Z (Z c):=by
 rw[Vn]at h;split at h
 ·split at h<;>cases h
 ·rename_i n;exact⟨λz=>n z.symm,h⟩
def SR.drop(s:SR G O U M H)(i:Nat):SR G O (U.set i L) M H :=
 ⟨by rw[Yo];exact s.len,λj c h=>s.rp j c (cU h).2,λj t h=>s.nd j t (cU h).2,λj k t c b a n=>s.sep j k t c (cU b).2 (cU a).2 n⟩
def Kh.drop(i:Nat):Kh O U H O (U.set i L) H :=
 ⟨λa o h n=>⟨h,λ⟨j,t,d,b⟩=>n ⟨j,t,(cU d).2,b⟩⟩,λ_ h=>h,λa ⟨j,t,d,b⟩=>.inl ⟨j,t,(cU d).2,b⟩,λa ⟨j,t,d,b⟩=>.inl ⟨j,t,(cU d).2,b⟩,Kept.refl H⟩
def cf{X:Cx}(i:Nat)(r:{`q2,X.N[i]?=Z x})(j:{`q5,L6 X.env.scope x})(n:{`q1,K3 x})(u:{`q1,K4 x}):PSV G X (.Return (Z (.Name x p)) pos) (eT i):=PS.weak (r6 (dS r j n u)) λD M H l=>by
 obtain⟨O,U,o,s,e,k⟩:=l;unfold eT at e;split at e
 ·rename_i t h;obtain⟨v,g,b⟩:=s.rp _ _ h;cases e;exact⟨v,g,k v H (O i) O M (s.drop i) (Kh.drop i) b ⟨s.nd i t h,λa d=>.inr ⟨i,t,h,d⟩⟩⟩
 ·rename_i t h;obtain⟨v,g,b⟩:=s.rp _ _ h;cases e;refine⟨v,g,k v H (O i) O M s (Kh.refl _ _ _) b ?_⟩;have f:Fp O U H .pu (O i):=λa d=>.inr ⟨i,t,h,d⟩;have f2:=(f.up b).ret;have:(match (VS.up .pu (ku (.pu t))).1 with | .bo=>Md.pu | m=>m)=(VS.up .pu t).1:=by
   show (match (VS.up .pu t).1 with | .bo=>Md.pu | m=>m)=_;unfold VS.up;split<;>(rename_i q;revert q;split<;>simp)
  rw[this]at f2;exact f2
 ·cases e
noncomputable def jv(O:J5)(i:Nat)(F:Wc):J5:=λj=>if j=i then F else O j
def ig:jv O i F i=F:=Zp Y
def d7(h:j≠i):jv O i F j=O j:=Zn h
def iW{U:VS.Env}{c:Cell}(h:(U.set i (Z c))[j]?=Z (Z a)):(j=i/\a=c)\/(j≠i/\U[j]?=Z (Z a)):=by
 rw[Vn]at h;split at h
 ·rename_i e;split at h
  ·exact .inl ⟨e.symm,(Zh (Zh h)).symm⟩
  ·cases h
 ·rename_i n;exact .inr ⟨λz=>n z.symm,h⟩
def SR.put{H':Hp}{v:V}{c:Cell}{F:Wc}(s:SR G O U M H)(x:i<U.length)(r:Rp G H' v (ku c) F)(u:∀j b,j≠i->U[j]?=Z (Z b)->∀w,Rp G H w (ku b) (O j)->Rp G H' w (ku b) (O j))(y:∀t,c=.ow t->F.Nodup)(d:∀t,c=.ow t->∀j b,j≠i->U[j]?=Z (Z b)->∀a∈F,a∉O j)(m:∀j t,j≠i->U[j]?=Z (Z (.ow t))->∀a∈O j,a∉F) :
  SR G (jv O i F) (U.set i (Z c)) (M.set i (Z v)) H' where
 len:=by rw[Yo,Yo];exact s.len
 rp:=λj b h=>by
  rcases iW h with⟨rfl,rfl⟩ | ⟨n,h⟩
  ·exact⟨v,by rw[YG (by rw[← s.len];exact x)],by rw[ig];exact r⟩
  ·obtain⟨w,o,g⟩:=s.rp j b h;exact⟨w,by rw[Yr (Yy n)];exact o,by rw[d7 n];exact u j b n h w g⟩
 nd:=λj t h=>by
  rcases iW h with⟨rfl,e⟩ | ⟨n,h⟩
  ·rw[ig];exact y t e.symm
  ·rw[d7 n];exact s.nd j t h
 sep:=λj k t b o g n=>by
  rcases iW o with⟨rfl,e⟩ | ⟨l,q⟩
  ·rcases iW g with⟨rfl,e2⟩ | ⟨f,p⟩
   ·exact absurd Y n
   ·rw[ig,d7 f];exact d t e.symm k b f p
  ·rcases iW g with⟨rfl,e2⟩ | ⟨f,p⟩
   ·rw[ig,d7 l];exact m j t l q
   ·rw[d7 l,d7 f];exact s.sep j k t b q p n
def lq{U:VS.Env}{c:Cell}(h:bL (jv O i F) (U.set i (Z c)) a):(∃t,c=.ow t/\a∈F)\/bL O U a:=by
 obtain⟨j,t,d,b⟩:=h;rcases iW d with⟨rfl,e⟩ | ⟨n,d⟩
 ·rw[ig]at b;exact .inl ⟨t,e.symm,b⟩
 ·rw[d7 n]at b;exact .inr ⟨j,t,d,b⟩
def rm{U:VS.Env}{c:Cell}(h:df (jv O i F) (U.set i (Z c)) a):(∃t,c=.pu t/\a∈F)\/df O U a:=by
 obtain⟨j,t,d,b⟩:=h;rcases iW d with⟨rfl,e⟩ | ⟨n,d⟩
 ·rw[ig]at b;exact .inl ⟨t,e.symm,b⟩
 ·rw[d7 n]at b;exact .inr ⟨j,t,d,b⟩
def SR.N1(s:SR G O U M H)(h:bL O U a)(g:df O U a):False:=by
 obtain⟨j,t,d,f⟩:=h;obtain⟨k,u,b,i⟩:=g;exact s.sep j k t _ d b (λe=>by subst e;rw[d]at b;cases b) a f i
def SR.val{m:Md}{c:Cell}(s:SR G O U M H)(C:i<U.length)(e:aI H A)(r:Rp G A v t F)(f:Fp O U H m F)(p:(c=.pu t/\m ≠ .bo)\/(c=.ow t/\m=.fr)):SR G (jv O i F) (U.set i (Z c)) (M.set i (Z v)) A/\Kh O U H (jv O i F) (U.set i (Z c)) A:=by
 have Kd:∀{a},H a=L->∀j x,U[j]?=Z (Z x)->a∉O j:=λ{a} h j x g b=>by
  obtain⟨w,_,q⟩:=s.rp j x g;exact J8.JX (q.Kd a b) h
 have ct:ku c=t:=by rcases p with⟨rfl,_⟩ | ⟨rfl,_⟩<;>rfl
 have y:∀a∈F,H a=L\/df O U a:=λa b=>by
  rcases p with⟨_,n⟩ | ⟨_,n⟩
  ·exact f.pu n a b
  ·rw[n]at f;exact .inl (f.2 a b)
 constructor
 ·refine s.put C (by rw[ct];exact r) (λj x n g w q=>q.same e) (λu d=>?_) (λu d j x n g a b=>?_) λj u n g a b D=>?_
  ·rcases p with⟨h,_⟩ | ⟨_,h⟩
   ·rw[h]at d;cases d
   ·rw[h]at f;exact f.1
  ·rcases p with⟨h,_⟩ | ⟨_,h⟩
   ·rw[h]at d;cases d
   ·rw[h]at f;exact Kd (f.2 a b) j x g
  ·rcases y a D with z | z
   ·exact Kd z j _ g b
   ·exact s.N1 ⟨j,u,g,b⟩ z
 ·refine⟨λa o h n=>⟨e a o h,λz=>?_⟩,λa h z=>h (e.free z),λa h=>?_,λa h=>?_,Kept.of e⟩
  ·rcases lq z with⟨u,d,b⟩ | z
   ·rcases p with⟨l,_⟩ | ⟨_,l⟩
    ·rw[l]at d;cases d
    ·rw[l]at f;rw[f.2 a b]at h;cases h
   ·exact n z
  ·rcases lq h with⟨u,d,b⟩ | z
   ·rcases p with⟨l,_⟩ | ⟨_,l⟩
    ·rw[l]at d;cases d
    ·rw[l]at f;exact .inr (f.2 a b)
   ·exact .inl z
  ·rcases rm h with⟨u,d,b⟩ | z
   ·exact(y a b).elim (λz=>.inr (.inr z)) .inl
   ·exact .inl z
def d6{pos:Pos}(he:PV G X e ce)(q:X.N.Nodup)(n:{`q2,X.N[i]?=Z x})(g:{`q6,Loc X.env.scope x})(h:{`q2,swapsWith e (Z (.Name x a)) pos.line X.env=pure B})(p:{`q7,X.fn x=J\/X.env.scope.names.lookup x=Z .local}) :
  PSV G X (.Assign [.Name x a] e pos) (iw i ce):=PS.weak (mS q n g he h p) λD M H j=>by
 obtain⟨O,U,o,s,e,k⟩:=j;obtain⟨⟨m,t⟩,u,e1⟩:=Zz.mp e;obtain⟨c,eC,e2⟩:=Zz.mp e1;split at e2
 ·rename_i l;cases e2;refine⟨O,U,m,t,s,u,λv w F e3 b r=>?_⟩;obtain⟨f,d⟩:=s.val (c:=c) l e3 b r (by
   unfold cellOf at eC;cases m with
   |fr =>
    simp only[Option.some.injEq]at eC;split at eC
    ·exact .inr ⟨eC.symm,rfl⟩
    ·exact .inl ⟨eC.symm,by decide⟩
   |pu=>cases eC;exact .inl ⟨rfl,by decide⟩
   |bo=>cases eC)
  exact k _ _ w f d
 ·cases e2
def aB{pos:Pos}(he:PV G X e ce)(r:X.N.Nodup)(p:{`q2,X.N[i]?=Z x})(g:{`q6,Loc X.env.scope x})(h:{`q2,swapsWith e (Z (.Name x a)) pos.line X.env=pure B})(q:{`q7,X.fn x=J\/X.env.scope.names.lookup x=Z .local}) :
  PSV G X (.Assign [.Name x a] e pos) (aN i ce):=PS.weak (mS r p g he h q) λD M H j=>by
 obtain⟨O,U,o,s,e,k⟩:=j;obtain⟨⟨m,t⟩,w,e1⟩:=Zz.mp e;split at e1
 ·cases e1
 ·rename_i l;split at e1
  ·rename_i n;cases e1;refine⟨O,U,m,t,s,w,λv y F e3 b u=>?_⟩;obtain⟨f,d⟩:=s.val n e3 b u (.inl ⟨rfl,l⟩);exact k _ _ y f d
  ·cases e1
def SR.frz(s:SR G O U M H)(h:U[i]?=Z (Z (.ow t))):SR G O (U.set i (Z (.pu t))) M H/\Kh O U H O (U.set i (Z (.pu t))) H:=by
 have back:∀{j c},(U.set i (Z (.pu t)))[j]?=Z (Z c)->∃l,U[j]?=Z (Z l)/\ku l=ku c/\∀u,c=.ow u->l=.ow u:=λ{j c} g=>by
  rcases iW g with⟨rfl,rfl⟩ | ⟨n,g⟩
  ·exact⟨.ow t,h,rfl,λu p=>nomatch p⟩
  ·exact⟨c,g,rfl,λu p=>p⟩
 refine⟨⟨by rw[Yo];exact s.len,λj c g=>?_,λj u g=>?_,λj k u c b d n=>?_⟩,⟨λa o r n=>⟨r,λ⟨j,u,b,d⟩=>?_⟩,λ_ h=>h,λa ⟨j,u,b,d⟩=>?_,λa ⟨j,u,b,d⟩=>?_,Kept.refl H⟩⟩
 ·obtain⟨l,b,d,_⟩:=back g;obtain⟨v,f,x⟩:=s.rp j l b;exact⟨v,f,by rw[← d];exact x⟩
 ·obtain⟨l,b,_,w⟩:=back g;rw[w u Y]at b;exact s.nd j u b
 ·obtain⟨c1,f,_,m⟩:=back b;obtain⟨c2,q,_,_⟩:=back d;rw[m u Y]at f;exact s.sep j k u c2 f q n
 ·obtain⟨c1,f,_,m⟩:=back b;rw[m u Y]at f;exact n ⟨j,u,f,d⟩
 ·obtain⟨c1,f,_,m⟩:=back b;rw[m u Y]at f;exact .inl ⟨j,u,f,d⟩
 ·rcases iW b with⟨rfl,_⟩ | ⟨n,b⟩
  ·exact .inr (.inl ⟨j,t,h,d⟩)
  ·exact .inl ⟨j,u,b,d⟩
def iY(i:Nat)(h:gq G X Sa c):gq G X Sa (ak (oW i) c):=LZ.weak h λD M H f=>by
 obtain⟨O,U,o,s,e,k⟩:=f;obtain⟨g,e1,e2⟩:=Zz.mp e;unfold oW at e1;split at e1
 ·rename_i t d;cases e1;obtain⟨b,a⟩:=s.frz d;exact⟨O,_,o,b,e2,k.back a⟩
 ·cases e1;exact⟨O,U,o,s,e2,k⟩
 ·cases e1
end
section
variable{st:Stmt}
structure Chg(G:Gx)(H:Hp)(v:V)(F:Wc)(t':T)(H2:Hp)(F':Wc):Prop where
 kept:Kept H H2
 keep:∀b o,b∉F->H b=some o->H2 b=some o
 Kd:∀b,H b≠none->H2 b≠none
 rp:Rp G H2 v t' F'
 nd:F'.Nodup
 sub:∀a∈F',a∈F\/H a=none
def SR.mut(s:SR G O U M H)(m:U[i]?=Z (Z (.ow t)))(A:M[i]?=Z (Z v))(g:Chg G H v (O i) p x r) :
  SR G (jv O i r) (U.set i (Z (.ow p))) M x/\Kh O U H (jv O i r) (U.set i (Z (.ow p))) x:=by
 have off:=λj f n d a b l=>s.sep i j t f m d (Yy n) a l b;have es:M.set i (Z v)=M:=by
  obtain⟨h,e⟩:=Ze.mp A;rw[← e];exact Ws h
 have new:∀a∈r,∀j f,j≠i->U[j]?=Z (Z f)->a∉O j:=λa b j f n d l=>by
  rcases g.sub a b with z | z
  ·exact off j f n d a l z
  ·obtain⟨w,_,q⟩:=s.rp j f d;exact J8.JX (q.Kd a l) z
 constructor
 ·have:=s.put (c:=.ow p) (v:=v) ((Ze.mp m).1) g.rp (λj f n d w q=>q.keep g.kept λa b o C=>g.keep a o (off j f n d a b) C) (λ_ _=>g.nd) (λu y j f n d a b=>new a b j f n d) λj u n d a b l=>new a l j _ n d b;rw[es]at this;exact this
 ·refine⟨λa o h n=>⟨g.keep a o (λz=>n ⟨i,t,m,z⟩) h,λz=>?_⟩,g.Kd,λa h=>?_,λa h=>?_,g.kept⟩
  ·rcases lq z with⟨u,_,b⟩ | z
   ·rcases g.sub a b with z | z
    ·exact n ⟨i,t,m,z⟩
    ·rw[z]at h;cases h
   ·exact n z
  ·rcases lq h with⟨u,_,b⟩ | z
   ·rcases g.sub a b with z | z
    ·exact .inl ⟨i,t,m,z⟩
    ·exact .inr z
   ·exact .inl z
  ·rcases rm h with⟨u,y,b⟩ | z
   ·cases y
   ·exact .inl z
def Aw(G:Gx)(r:V->List V->Hp->VK->Prop)(f:T->Vd->Option (T×Val)):Prop:=∀(O:J5)(U:VS.Env)(H g:Hp)(v:V)(t b:T)(F:Wc)(l:Vd)(a:List V)(h:Xy)(x:Val)(Q:VK),
 Rp G H v t F->F.Nodup->Args G O U H g l a h->f t l=Z (b,x)->(∀u d i,Chg G H v F b d i->Q u d)->r v a g Q
def Ai{pos:Pos}{b:Pos}(i:Nat)(pa:PlainAttrs p)(h:Slot p a m)(QP:typeOf (.builtin m)=pure (.type "method_descriptor"))(hm:Rv X m r)(ok:Aw G r f)(hT:∀H v t F l z,Rp G H v t F->f t l=Z z->tyV G.K p v H)(ha:Lc G X (e :: es) cs)(hK:{`q2,X.K=G.K})(hN:{`q2,X.N[i]?=Z x})(hv:{`q5,L6 X.env.scope x})(hd:{`q1,K3 x})(Ks:{`q1,K4 x})(Ka:{`q2,XAA (.Name x j) a X.env (eval (.Name x j) X.env)=eval (.Name x j) X.env})(Kr:{`q2,((backTo d (P3 (e :: es) X.env)).all (λx=>!x.1)&&(backToKw d (SL [] X.env)).all (λx=>x.1.isSome)
   && decide ((e :: es).length+([]:List Keyword).length+(if ([]:List Keyword).isEmpty then 0 else 1)<30))=J})(J6:{`q2,(b.endLine==d.line)=J})(hs:{`q2,K1 e es X})(J2:{`q2,K2 d es X})(Lm:{`q2,swapsWith (.Call (.Attribute (.Name x j) a b) (e :: es) [] d) L pos.line X.env=pure B}) :
  PSV G X (.Expr (.Call (.Attribute (.Name x j) a b) (e :: es) [] d) pos) (sX (pP i [] f cs)) :=
 PS.weak (hZ (lI pa h QP hm (dS hN hv hd Ks) ha Ka Kr J6 hs J2) Lm) λD M H hq=>by
  obtain⟨O,U,o,s,e,k⟩:=hq;unfold sX pP at e;obtain⟨⟨A,U'⟩,e1,e2⟩:=Zw.mp e;split at e1
  ·rename_i t n;obtain⟨ks,ek,e3⟩:=Zz.mp e1;cases (ek);obtain⟨l,el,e4⟩:=Zz.mp e3;obtain⟨⟨Q,x2⟩,e5,e6⟩:=Zw.mp e4;cases e6;cases e2;obtain⟨v,w,q⟩:=s.rp _ _ n;have y:=e5;refine⟨v,w,by rw[hK];exact hT H v t _ l _ q y,O,U,l,s,el,λP H' Fs q1 S R=>?_⟩;refine ok O U H H' v t Q (O i) l P Fs A _ q (s.nd i t n) ⟨q1,S,R⟩ y λu H2 F' g=>?_;obtain⟨E,C⟩:=s.mut n w g;exact k _ M H2 E C
  ·cases e1
theorem Chg.upd{H:Hp}(e:aI H d)(n:a∈F)(m:J8 (d a))(r:Rp G (upd d a o) v i f)(l:f.Nodup)(g:∀a∈f,a∈F\/H a=L):Chg G H v F i (upd d a o) f :=
 ⟨(Kept.of e).trans (Kept.upd (.inl m)),λb j hb h=>by rw[aw (λz=>hb (by rw[z];exact n))];exact e b j h,
  λb h z=>by
   by_cases q:b=a
   ·subst q;rw[aq]at z;cases z
   ·rw[aw q]at z;exact h (e.free z),r,l,g⟩
def RpL.off(r:RpL G H f g d)(j:J8 (H a))(h:a∉d.flatten):RpL G (upd H a o) f g d :=
 r.keep (Kept.upd (.inl j)) λb hb l i=>by rw[aw (λz=>h (by rw[← z];exact hb))];exact i
def nW(h:fit v=Z t):v=(.fr,t):=by
 obtain⟨m,x⟩:=v;cases m<;>first | (cases h;rfl) | cases h
def iJ:Aw G si aJ:=by
 intro O U H E v t P F l M R x Q r nd A e k;unfold aJ at e;split at e
 ·rename_i N y;obtain⟨z,u,e1⟩:=Zz.mp e;have C:=nW u;subst C;split at e1
  ·rename_i q;cases e1;obtain⟨a,n,Gs,rfl,rfl,h,f⟩:=r.lst_inv;obtain⟨w,j,rfl,rfl,D⟩:=(A.rp).one;have d:=A.fp.each 0 _ _ Y Y;have i:=A.same a _ h;have g:J8 (E a):=by rw[i];exact True.intro
   have na:=(Zb.mp nd).1;have nw:a∉j:=λz=>by rw[d.2 a z]at h;cases h
   refine⟨a,n,w,rfl,rfl,i,by rw[f.len.1];exact q,k _ _ (a :: (Gs++[j]).flatten) ?_⟩;have off:=λb hb hw=>J8.JX (f.Kd b hb) (d.2 b hw);refine Chg.upd A.same Zx g (.lst aq (((f.same A.same).off g na).append (.cons (D.keep (Kept.upd (.inl g)) λb hb o p=>by rw[aw (λz=>nw (by rw[← z];exact hb))];exact p) .nil))) ?_ ?_
   ·rw[Yg];refine Zb.mpr ⟨λm=>?_,ZL.mpr ⟨(Zb.mp nd).2,by simpa using d.1,λb hb c s z=>?_⟩⟩
    ·rcases ZW.mp m with m | m
     ·exact na m
     ·exact nw (by simpa using m)
    ·subst z;exact off b hb (by simpa using s)
   ·intro b hb;rcases Zo.mp hb with rfl | hb
    ·exact .inl Zx
    ·rw[Yg]at hb;rcases ZW.mp hb with hb | hb
     ·exact .inl (Zy _ hb)
     ·exact .inr (d.2 b (by simpa using hb))
  ·cases e1
 ·cases e
def B5(r:Rp G H v (.lst b) F):tyV G.K "list" v H:=by
 obtain⟨a,f,Gs,rfl,rfl,d,g⟩:=r.lst_inv;exact .inl ⟨rfl,_,Kb.of d⟩
def fK(r:Rp G H v t F)(h:aJ t l=Z z):tyV G.K "list" v H:=by
 unfold aJ at h;split at h
 ·exact B5 r
 ·cases h
end
structure NA(G:Gx)(J:It)(l:Vb)(C:Wc)(H:Hp):Prop where
 run:∀H2,Kept H H2->(∀a∈C,∀o,H a=some o->H2 a=some o) →
  (∀(i:Nat)(t:T),l[i]?=some t->J.go i H2/\∀x H3,J.T6 i H2 x H3->aI H2 H3/\∃F,Rp G H3 x t F/\∀a∈F,a∈C\/H2 a=none)/\∀(i:Nat),l.length<=i->J.stop i H2
 Kd:∀a∈C,H a≠none
def FpC(O:J5)(U:VS.Env)(H:Hp)(m:Md)(C:Wc):Prop:=∀a∈C,H a=L\/df O U a\/(m=.bo/\bL O U a)
theorem Fp.c{U:VS.Env}{F:Wc}:∀{m:Md},Fp O U H m F->FpC O U H m F
 |.fr,f=>λa b=>.inl (f.2 a b)
 |.pu,f=>λa b=>(f a b).imp id .inl
 |.bo,f=>λa b=>(f a b).imp id λz=>z.imp id λz=>⟨rfl,z⟩
def tI(G:Gx)(c:Ms):TI:=λM H R=>∃O U m l,SR G O U M H/\c U=Z (m,l)/\∀J a C,aI H a->NA G J l C a->FpC O U H m C->R J a
def PVI(G:Gx)(X:Cx)(b a:Expr)(c:Ms):Prop:=PI X b a (tI G c)
def PI.weak{X:Cx}(h:PI X b e t)(w:∀M H Q,d M H Q->t M H Q):PI X b e d:=λa s M H Q I q=>h a s M H Q I (w M H Q q)
section
def uI(H:Hp)(d:Int)(n:Nat):NA G (TY d n) (rng d n) [] H:=by
 refine⟨λo _ _=>⟨λi t h=>?_,λi h=>(by simpa[rng] using h:n<=i)⟩,λa h=>by simp at h⟩;unfold rng at h;rw[Zd]at h;obtain⟨k,g,e⟩:=Zw.mp h;obtain⟨f,e2⟩:=Ze.mp g;rw[ZT]at f;have j:i=k:=by simpa using e2
 subst j;refine⟨f,λx m ⟨e3,l⟩=>?_⟩;subst e3;subst l;rw[← e];exact⟨aI.refl _,[],.int _,λa h=>by simp at h⟩
def eu(u:PV G X a ca)(t:Gl X "range")(r:X.mg "range" = L)(o:{`q2,K1 a [] X})(y:{`q2,P3 [a] X.env=[(B,eval a X.env)]}):PVI G X tg (.Call (.Name "range" p) [a] [] pos) (cR ca) :=
 PI.weak (mZ t r (bW u dP o) y) λM H R q=>by
  obtain⟨O,U,m,l,s,e,k⟩:=q;obtain⟨⟨n,x⟩,w,e1⟩:=Zz.mp e;obtain⟨j,f,e2⟩:=Zz.mp e1;split at e2
  ·rename_i d;cases e2;refine⟨O,U,n,x,s,w,λv g F e3 i A=>?_⟩;cases x with
   |int z =>
    cases f;refine⟨j,by rw[i.int_inv],?_,?_,k _ g [] e3 (uI g 0 j.toNat) λa h=>by simp at h⟩
    ·have:=d.1;unfold NR at this;lia
    ·have:=d.2;unfold NR at this;lia
   |_=>cases f
  ·cases e2
def vy(E:PV G X a ca)(D:PV G X b cb)(C:Gl X "range")(z:X.mg "range" = L)(t:{`q2,P3 [a,b] X.env=(B,eval a X.env) :: P3 [b] X.env})(Lp:{`q2,P3 [a,b] X.env=[(B,eval a X.env),(B,eval b X.env)]})(S:{`q2,K1 b [] X})(Y:{`q2,P3 [b] X.env=[(B,eval b X.env)]}) :
  PVI G X tg (.Call (.Name "range" p) [a,b] [] pos) (nX ca cb) :=
 PI.weak (yS C z (bW E (bW D dP S) t) Lp Y) λM H R u=>by
  obtain⟨O,U,m,l,s,e,k⟩:=u;obtain⟨⟨r,x⟩,P,e1⟩:=Zz.mp e;obtain⟨⟨q,y⟩,N,e1⟩:=Zz.mp e1;obtain⟨i,f,e2⟩:=Zz.mp e1;obtain⟨j,d,e2⟩:=Zz.mp e2;split at e2
  ·rename_i A;cases e2;refine⟨O,U,r,x,s,P,λv H' F e3 o f3=>⟨O,U,q,y,s.same e3,N,λw g F2 Q n f4=>?_⟩⟩;cases x with
   |int i' =>
    cases f;cases y with
    |int j' =>
     cases d;refine⟨i,j,by rw[o.int_inv,n.int_inv],?_,k _ g [] (e3.trans Q) (uI g i (j-i).toNat) λa h=>by simp at h⟩;unfold NR at A;omega
    |_=>cases d
   |_=>cases f
  ·cases e2
def cE{d:Xy}{i:Nat}{F:Wc}(h:d[i]?=Z F){a:On}(f:a∈F):a∈d.flatten:=(bC h).subset f
def CV{a:On}(K:X3)(j:H a=Z (.lst d))(r:RpL G H d g m):NA G (Itl K a) g (a :: m.flatten) H:=by
 refine⟨λw k c=>?_,λb hb=>?_⟩
 ·have f:=c a Zx _ j;refine⟨λi t h=>?_,λi h=>⟨d,Kb.of f,by rw[r.len.1];exact h⟩⟩;obtain⟨v,F,l,s,q⟩:=(r.keep k λb hb o n=>c b (Zy _ hb) o n).get i h;refine⟨⟨d,v,Kb.of f,l⟩,λx u ⟨e1,e2⟩=>?_⟩;subst e1;have ex:=e2 d (Kb.of f);rw[l]at ex;cases ex;exact⟨aI.refl _,F,q,λb hb=>.inl (Zy _ (cE s hb))⟩
 ·rcases Zo.mp hb with rfl | hb
  ·rw[j];exact λz=>nomatch z
  ·exact J8.JX (r.Kd b hb)
def FX{a:On}(K:X3)(n:H a=Z (.tup d))(r:RpL G H d g l):NA G (Itt K a) g l.flatten H:=by
 refine⟨λw k c=>?_,λb hb=>J8.JX (r.Kd b hb)⟩;have f:=k.tup a _ n;refine⟨λi t h=>?_,λi h=>⟨d,Li.of f,by rw[r.len.1];exact h⟩⟩;obtain⟨v,F,j,s,q⟩:=(r.keep k λb hb o m=>c b hb o m).get i h;refine⟨⟨d,v,Li.of f,j⟩,λx u ⟨e1,e2⟩=>?_⟩;subst e1;have ex:=e2 d (Li.of f);rw[j]at ex;cases ex;exact⟨aI.refl _,F,q,λb hb=>.inl (cE s hb)⟩
def tG(G:Gx)(g:Tg):TG:=λv M H Q=>∃O U t F d,SR G O U M H/\Rp G H v t F/\(∀a∈F,¬bL O U a)/\g t U=Z d ∧
 ∀f h,SR G f d h H->(∀a,bL f d a->bL O U a)->(∀a,df f d a->df O U a\/a∈F)->Q h H
def tGs(G:Gx)(l:List Tg):Ph:=λj M H Q=>∃O U h g d,SR G O U M H/\RpL G H j h g/\(∀a∈g.flatten,¬bL O U a)/\Bo l h U=Z d ∧
 ∀f i,SR G f d i H->(∀a,bL f d a->bL O U a)->(∀a,df f d a->df O U a\/a∈g.flatten)->Q i H
def OJ(G:Gx)(X:Cx)(e:Expr)(g:Tg):Prop:=PG X e (tG G g)
def C8(G:Gx)(X:Cx)(e:List Expr)(g:List Tg):Prop:=OK X e (tGs G g)
def PG.weak{X:Cx}{e:Expr}{f:TG}(h:PG X e t)(w:∀v M H Q,f v M H Q->t v M H Q):PG X e f:=λd s M H v u Q I r q=>h d s M H v u Q I r (w v M H Q q)
def OK.weak{X:Cx}{e:List Expr}{f:Ph}(h:OK X e t)(w:∀v M H Q,f v M H Q->t v M H Q):OK X e f:=λd s M H v u Q I r q=>h d s M H v u Q I r (w v M H Q q)
def ax{X:Cx}(i:Nat)(C:X.N.Nodup)(y:{`q2,X.N[i]?=Z x})(l:{`q6,Loc X.env.scope x})(A:X.fn x=J\/X.env.scope.names.lookup x=Z .local:=by first | exact .inl Y | exact .inr rfl):OJ G X (.Name x pos) (aG i):=PG.weak (sM C y l A) λv M H Q m=>by
 obtain⟨O,U,t,F,P,s,r,no,e,k⟩:=m;unfold aG at e;split at e
 ·rename_i o;cases e;refine k (jv O i F) (M.set i (Z v)) (s.put o r (λj E n g w q=>q) (λu d=>nomatch d) (λu d=>nomatch d) λj u n g a f D=>no a D ⟨j,u,g,f⟩) (λa h=>?_) λa h=>?_
  ·rcases lq h with⟨u,d,_⟩ | z
   ·cases d
   ·exact z
  ·rcases rm h with⟨u,d,f⟩ | z
   ·exact .inr f
   ·exact .inl z
 ·cases e
def gE:C8 G X [] []:=OK.weak Cu λv M H Q d=>by
 obtain⟨O,U,f,i,g,s,r,no,e,k⟩:=d;cases r with
 |nil =>
  cases (e);exact⟨rfl,k O M s (λ_ h=>h) λ_ h=>.inl h⟩
 |cons r q=>cases (e)
def bx(x:OJ G X e g)(w:C8 G X es i)(t:{`q2,(assignEach (e :: es) X.env).map (·.2)=assign e X.env :: (assignEach es X.env).map (·.2)}):C8 G X (e :: es) (g :: i) :=
 OK.weak (zY x w t) λv M H Q u=>by
  obtain⟨O,U,F,Fs,y,s,r,no,e,k⟩:=u;cases r with
  |nil=>cases (e)
  |cons r q =>
   rename_i E N F' S R Y;obtain⟨j,e1,e2⟩:=Zz.mp e;refine⟨_,_,rfl,O,U,_,_,j,s,r,λa d=>no a (by rw[ZK];exact Ye _ d),e1,λC P s1 f n=>?_⟩;refine⟨C,j,_,_,y,s1,q,λa d z=>no a (by rw[ZK];exact ZP _ d) (f a z),e2,λA D l o m=>k A D l (λa h=>f a (o a h)) λa h=>?_⟩;rcases m a h with h | h
   ·rcases n a h with h | h
    ·exact .inl h
    ·exact .inr (by rw[ZK];exact Ye _ h)
   ·exact .inr (by rw[ZK];exact ZP _ h)
theorem uZ:∀{f:List Tg}{d:Vb}{U i:VS.Env},Bo f d U=Z i->d.length=f.length
 |[],[],_,_,_=>rfl
 |[],_ :: _,_,_,h=>nomatch h
 |_ :: _,[],_,_,h=>nomatch h
 |g :: f,t :: d,U,i,h=>by
  obtain⟨j,_,e2⟩:=Zz.mp (h);simp[uZ e2]
def iZ{X:Cx}(m:X.calm=J)(h:C8 G X es d)(j:{`q2,(assignEach es X.env).length=d.length})(u:{`q2,(assignEach es X.env).findIdx? (·.1)=L})(y:{`q2,X.K=G.K}):OJ G X (.Tuple es k pos) (iD d) :=
 PG.weak (Gb m h j u) λv M H Q i=>by
  obtain⟨O,U,t,F,o,s,r,no,e,q⟩:=i;unfold iD at e;split at e
  ·rename_i l;obtain⟨n,g,x,rfl,rfl,w,f⟩:=r.KA;exact⟨n,g,rfl,Li.of w,by rw[f.len.1];exact uZ e,O,U,l,x,o,s,f,no,e,q⟩
  ·cases e
def qq{tgt:Tg}{body:Sx}{l:Vb}{U:VS.Env}(h:l[i]?=Z t):l.drop i=t :: l.drop (i+1):=by
 obtain⟨d,e⟩:=Ze.mp h;rw[← e];exact YC d
def Bb{cb:Sx}(hq:tS G (fo g ci cb) D M H):Jc (tI G ci) (tG G g) (tS G cb) D M H:=by
 obtain⟨O,U,o,s,e,k⟩:=hq;obtain⟨⟨m,l⟩,el,e1⟩:=Zz.mp e;dsimp only at e1;split at e1
 ·rename_i hm;refine⟨O,U,m,l,s,el,λJ R C e2 ok fc=>?_⟩;have cno:∀a∈C,¬bL O U a:=λa y z=>by
   rcases fc a y with q | q | q
   ·exact J8.JX (s.KD z) q
   ·exact s.N1 z q
   ·exact(λz=>by rw[z]at hm;cases hm) q.1
  refine⟨λi n M2 Q=>n=l.length-i/\∃Y P,SR G Y P M2 Q/\Kh O U H Y P Q/\Kept R Q/\(∀a∈C,∀o,R a=Z o->Q a=Z o/\¬bL Y P a)/\forL g cb (l.drop i) P=Z o,
   ⟨l.length-0,rfl,O,U,s.same e2,Kh.same e2,Kept.refl _,λa y w A=>⟨A,cno a y⟩,by rw[List.drop_zero];exact e1⟩,?_⟩
  rintro i n M2 Q ⟨rfl,Y,P,s2,f2,kp,con,e3⟩;obtain⟨go,stop⟩:=ok.run Q kp λa y w A=>(con a y w A).1;cases hit:l[i]? with
  |none =>
   have hl:=YS.mp hit;left;rw[Xc hl]at e3;cases (e3);exact⟨stop i hl,k Y M2 Q s2 f2⟩
  |some t =>
   have hl:=(Ze.mp hit).1;right;obtain⟨g1,y1⟩:=go i t hit;rw[qq (tgt:=g) (body:=cb) (U:=P) hit]at e3;obtain⟨U3,e4,e5⟩:=Zz.mp (e3);obtain⟨w,e6,e7⟩:=Zz.mp e5;refine⟨g1,λE j=>∃d f,SR G d f E j/\Kh O U H d f j/\Kept R j/\(∀a∈C,∀o,R a=Z o->j a=Z o/\¬bL d f a)/\forL g cb (l.drop (i+1)) f=Z o,λE j ⟨d,f,q⟩=>⟨l.length-(i+1),by omega,rfl,d,f,q⟩,λx H3 yl=>?_⟩;obtain⟨S,F,rF,hF⟩:=y1 x H3 yl;refine⟨Y,P,t,F,U3,(s2.same S),rF,(λa y z=>by
    rcases hF a y with q | q
    ·have Lh:=ok.Kd a q;cases A:R a with
     |none=>exact Lh A
     |some o''=>exact(con a q o'' A).2 z
    ·exact J8.JX (s2.KD z) q),e4,λO3 M3 s4 o3 p3=>?_⟩
   have f3:Kh O U H O3 U3 H3:=⟨λa w h n=>let ⟨h1,n1⟩:=f2.keep a w h n;⟨S a w h1,λz=>n1 (o3 a z)⟩,λa h z=>f2.Kd a h (S.free z),λa h=>f2.ow a (o3 a h),λa h=>by
    rcases p3 a h with h | h
    ·exact f2.pu a h
    ·rcases hF a h with q | q
     ·rcases fc a q with q | q | q
      ·exact .inr (.inr q)
      ·exact .inl q
      ·exact .inr (.inl q.2)
     ·exact .inr (.inr (f2.none q)),f2.kept.trans (Kept.of S)⟩
   have next:∀{d f j},Kh O3 U3 H3 d f j->Kept R j/\∀a∈C,∀o,R a=Z o->j a=Z o/\¬bL d f a:=λr =>
    ⟨(kp.trans (Kept.of S)).trans r.kept,λa y w A=>by
     obtain⟨h1,n1⟩:=con a y w A;exact r.keep a w (S a w h1) λz=>n1 (o3 a z)⟩
   refine⟨O3,U3,w,s4,e6,?_⟩;cases w with
   |nx f=>exact λd E j N r=>⟨d,f,N,f3.trans r,(next r).1,(next r).2,e7⟩
   |ct f=>exact λd E j N r=>⟨d,f,N,f3.trans r,(next r).1,(next r).2,e7⟩
   |bk f =>
    cases (e7);exact λd E j N r=>k d E j N (f3.trans r)
   |rt v f =>
    cases (e7);exact λu j F4 d E N r r5 q5=>k u j F4 d E N (f3.trans r) r5 (q5.back f3)
 ·cases e1
def bU{X:Cx}(m:PassesOwn (KF X.prog X.w) X.A X.env X.xe)(q:X.calm=J)(n:PVI G X tg d h)(o:OJ G X tg g)(r:gq G X f i)(j:{`q3,∀x,XAB d X.env x=pure x}):PSV G X (.For tg d f [] pos) (fo g h i):=PS.weak (B6 m q n o r j) λD M H l=>Bb l
end
noncomputable def Jr(H:Hp)(b:Xy):Md->Wc->Prop
 |.fr,F=>F.Nodup/\∀a∈F,H a=L
 |_,F=>∀a∈F,H a=L\/a∈b.flatten
def MK(G:Gx)(g:Fn):Sp:=λe H Q _=>∃b d m r,RpL G H e b d/\g b=Z (m,r)/\∀v a F,aI H a->Rp G a v r F->Jr H d m F->Q v a
section
def call_of(h:tE G (aW g cs) M H Q):Er (MK G g) [] E (Uc G cs) M H Q:=by
 obtain⟨O,U,m,t,s,e,u⟩:=h;obtain⟨l,Y,e1⟩:=Zz.mp e;obtain⟨⟨n,r⟩,S,e2⟩:=Zz.mp e1;refine⟨O,U,l,s,Y,λN y D b R P=>?_⟩;have A:Args G O U H y l N D:=⟨b,R,P⟩
 have i:=P.join A.len;show MK G g (N++[]) y Q E;rw[ZS];refine⟨trees l,D,n,r,R,S,λv C F q o j=>?_⟩;have wide:(∀a∈F,y a=L\/a∈D.flatten)->Fp O U H ((Md.pu).join (cL l)) F:=λh=>by
  cases w:cL l with
  |fr =>
   rw[w]at i;exact λa d=>.inl ((h a d).elim b.free (i.2 a))
  |pu =>
   rw[w]at i;exact λa d=>(h a d).elim (λz=>.inl (b.free z)) (i a)
  |bo =>
   rw[w]at i;exact λa d=>(h a d).elim (λz=>.inl (b.free z)) (i a)
 cases n with
 |fr =>
  cases e2;exact u v C F (b.trans q) o ⟨j.1,λa d=>b.free (j.2 a d)⟩
 |pu =>
  cases e2;exact u v C F (b.trans q) o (wide j)
 |bo =>
  cases e2;exact u v C F (b.trans q) o (wide j)
def Dp{X:Cx}(F:FnOk X.prog X.w X.K X.mg X.base KL k f fd ps (MK G g))(a:JY k X.A)(i:Gl X x)(b:X.mg x=Z (.ref f))(d:PySem.W.keepIn X.K (.ref f)=J)(j:Binds X.K fd ps [])(l:Lc G X (e :: es) cs)(m:{`q1,K3 x})(he:{`q2,K1 e es X})(n:{`q2,K2 pos es X}) :
  PV G X (.Call (.Name x p) (e :: es) [] pos) (aW g cs) :=
 PE.weak (wt F a i b d j .nil qr l m he n) λM H Q h=>call_of h
def Bv(r:RpL G H d a s)(n m:Nat)(w:m=d.length):SR G (λi=>s.getD i []) (a.map (λt=>Z (.pu t))++List.replicate (n-a.length) L) (d.map Z++List.replicate (n-m) L) H:=by
 subst w;have A:=r.len;have back:∀{i:Nat}{c:Cell},(a.map (λt=>Z (Cell.pu t))++List.replicate (n-a.length) L)[i]?=Z (Z c)->∃t,a[i]?=Z t/\c=.pu t:=λ{i c} h=>by
  by_cases o:i<a.length
  ·rw[Yu (by rw[Zt];exact o),Zd]at h;obtain⟨t,l,b⟩:=Zw.mp h;exact⟨t,l,(Zh b).symm⟩
  ·rw[Yf (by rw[Zt];exact ZO o),YY]at h;split at h<;>cases h
 refine⟨by simp;lia,λi c h=>?_,λi t h=>?_,λi j t c h=>?_⟩
 ·obtain⟨t,l,rfl⟩:=back h;obtain⟨v,F,q,z,y⟩:=r.get i l;refine⟨v,?_,?_⟩
  ·have:=(Ze.mp q).1;rw[Yu (by rw[Zt];exact this),Zd,q];rfl
  ·rw[Zs,z];exact y
 ·obtain⟨u,_,b⟩:=back h;cases b
 ·obtain⟨u,_,b⟩:=back h;cases b
def jJ{b:Vb}:¬bL O (b.map (λt=>Z (Cell.pu t))++List.replicate n L) a:=by
 rintro⟨i,t,h,_⟩;by_cases d:i<b.length
 ·rw[Yu (by rw[Zt];exact d),Zd]at h;obtain⟨l,_,j⟩:=Zw.mp h;cases j
 ·rw[Yf (by rw[Zt];exact ZO d),YY]at h;split at h<;>cases h
def uU{H:Hp}{vs:List V}{j:Vb}{d:Xy}(h:df (λi=>d.getD i []) (j.map (λt=>Z (Cell.pu t))++List.replicate n L) a):a∈d.flatten:=by
 obtain⟨i,t,_,b⟩:=h;simp only[Zs]at b;cases e:d[i]? with
 |none=>rw[e]at b;simp at b
 |some F=>rw[e]at b;exact cE e b
end
section
variable{K:X3}
def Bq{d:List Str}(g:d.length=e)(h:MK G (fn e f c) b H Q E):b.length=d.length:=by
 obtain⟨l,n,m,r,j,a,_⟩:=h;unfold fn at a;split at a
 ·rename_i i;rw[j.len.1,i,g]
 ·cases a
def Cd{N:List Str}(s:N.length=f)(h:MK G (fn p f c) vs H Q E):tS G c { nx:=λ_ d=>Q .non d,rt:=Q } (L2.start N vs) H:=by
 obtain⟨D,F,m,r,x,g,q⟩:=h;unfold fn at g;split at g
 ·rename_i t;obtain⟨o,e1,e2⟩:=Zz.mp g;have j:=Bv x f vs.length Y;rw[t]at j;have e3:L2.start N vs=vs.map Z++List.replicate (f-vs.length) L:=by
   unfold L2.start;rw[s]
  rw[e3];refine⟨_,_,o,j,e1,?_⟩;cases o with
  |nx i =>
   cases e2;intro y A d l fr;exact q .non d [] (λa o h=>(fr.keep a o h jJ).1) .non ⟨Yt,λa h=>by simp at h⟩
  |rt v i =>
   cases e2;intro u d C y A l fr n e;refine q u d C (λa o h=>(fr.keep a o h jJ).1) n ?_;cases m with
   |fr=>exact⟨e.1,λa b=>(e.2 a b).elim id λz=>absurd z jJ⟩
   |pu=>exact λa b=>(e a b).elim .inl λz=>z.elim (λz=>.inr (uU (H:=H) (vs:=vs) z)) λz=>absurd z jJ
   |bo=>exact λa b=>(e a b).elim .inl λz=>z.elim (λz=>.inr (uU (H:=H) (vs:=vs) z)) λz=>absurd z jJ
  |bk i=>cases e2
  |ct i=>cases e2
 ·cases g
def fnV(F:J4 K x a b f j)(S:oe N e (ah b))(n:e.length=g)(o:N.length=i)(p:∀(d:PP)(A:SC)(outer:List PySem.Env)(s:KB)(H:Hp)(E:XK),JY k (A.deeper (envOfC a (ah b) s.heap.objs.size f d))->gq G (jC KL P w K mg base N a (ah b) f d A outer s H E).My (bg b) c) :
  FnOk P w K mg base KL (k+1) f j e (MK G (fn g i c)) :=
 F.ok S (λl H Q E h=>Bq n h) λd A outer s H l Q E m h=>⟨_,p d A outer s H E m,Cd o h⟩
end
end VS
end
section
namespace L2
open PySem PySem.Spec PyProof.Rows
theorem mO(b:Env):∀(l:List (Str×NameKind))(acc:List (Str×On)),(∀y∈l,y.2=.free->∃c,b.cells.lookup y.1=Z c)->(∀x c,acc.lookup x=Z c->b.cells.lookup x=Z c) →
  ∃cl,(forIn l acc (λx r=>if (x.snd==NameKind.free)=J then (do let a ← cellOf b x.fst;pure (ForInStep.yield ((x.fst,a) :: r))) else pure (ForInStep.yield r)):Sem (List (Str×On)))=pure cl ∧
   (∀x c,cl.lookup x=Z c->b.cells.lookup x=Z c)/\(∀x c,acc.lookup x=Z c->∃f,cl.lookup x=Z f)/\∀y∈l,y.2=.free->∃c,cl.lookup y.1=Z c
 |[],acc,_,i=>⟨acc,rfl,i,λx c h=>⟨c,h⟩,λy d=>nomatch d⟩
 | (n,k) :: l,acc,o,i=>by
  by_cases m:k=.free
  ·subst m;obtain⟨c,t⟩:=o (n,.free) Zx Y;have u:cellOf b n=pure c:=by unfold cellOf;rw[t]
   obtain⟨cl,s,q,e,p⟩:=mO b l ((n,c) :: acc) (λy d=>o y (Zy _ d)) (λx f h=>by
    rw[YT]at h;split at h
    ·rename_i g;have:x=n:=by simpa using g
     rw[this,← h];exact t
    ·exact i x f h)
   refine⟨cl,?_,q,λx f h=>?_,λy d j=>?_⟩
   ·rw[XB];rw[Zp (show (NameKind.free==NameKind.free)=J from rfl),u,pure_bind,pure_bind];exact s
   ·by_cases g:x=n
    ·exact e x c (by rw[YT,g];simp)
    ·refine e x f ?_;rw[YT];have:(x==n)=B:=by simpa using g
     rw[this];exact h
   ·rcases Zo.mp d with rfl | d
    ·exact e n c (by rw[YT];simp)
    ·exact p y d j
  ·obtain⟨cl,s,q,e,p⟩:=mO b l acc (λy d=>o y (Zy _ d)) i;refine⟨cl,?_,q,e,λy d j=>?_⟩
   ·rw[XB];rw[Zn (by simpa using m),pure_bind];exact s
   ·rcases Zo.mp d with rfl | d
    ·exact absurd j m
    ·exact p y d j
def wB{b:Scope}{a:Env}(d:∀y∈b.names,y.2=.free->∃c,a.cells.lookup y.1=Z c) :
  ∃cl,closureFor b a=pure cl/\(∀x c,cl.lookup x=Z c->a.cells.lookup x=Z c)/\∀y∈b.names,y.2=.free->∃c,cl.lookup y.1=Z c:=by
 obtain⟨cl,g,f,_,e⟩:=mO a b.names [] d (λx c h=>nomatch h);refine⟨cl,?_,f,e⟩;simp only[closureFor];rw[g];rfl
def cK{l:List (Str×NameKind)}(h:l.lookup x=Z k):(x,k)∈l:=by
 induction l with
 |nil=>cases h
 |cons p l a =>
  rw[YT]at h;split at h
  ·rename_i b;have e:x=p.1:=by simpa using b
   cases h;rw[e];exact Zx
  ·exact Zy _ (a h)
theorem dH{a:Env}:∀{l:List (Str×NameKind)},(l.map λ(n,k)=>if (k==NameKind.free&&a.scope.kind == .function&&a.kindOf n==Z .cell) then (n,NameKind.cell) else (n,k)).lookup x=Z k →
  ∃e,l.lookup x=Z e/\(k=e\/(e=.free/\k=.cell))
 |[],h=>nomatch h
 | (n,d) :: l,h=>by
  rw[Zg,YT]at h;by_cases f:(d==NameKind.free&&a.scope.kind == .function&&a.kindOf n==Z .cell)=J
  ·simp only[f,if_true]at h;rw[YT];cases b:x==n with
   |true =>
    rw[b]at h;have:d=.free:=by
     have:=(ZZ.mp (ZZ.mp f).1).1;simpa using this
    exact⟨d,rfl,.inr ⟨this,(Zh h).symm⟩⟩
   |false=>rw[b]at h;exact dH h
  ·simp only[f,if_false,Vw]at h;rw[YT];cases b:x==n with
   |true=>rw[b]at h;exact⟨d,rfl,.inl (Zh h).symm⟩
   |false=>rw[b]at h;exact dH h
def bq(X:Cx)(N:List Str)(a:Scope)(d:List (Str×On))(C:On)(s:KB)(H:Hp)(b:Wc):Cx :=
 { X with N:=N,s₀:=s,H₀:=H,env:=compEnvC a d C X.env,outer:=X.stack,ex:=b,fn:=λ_=>false,pn:=[],xe:=λ_ _=>False }
def iO(a:Env)(b:Scope):Bool:=b.kind == .function&&b.names.all λy=>match y.2 with
 |.cell=>B
 |.local=>b.names.lookup y.1==Z .local
 |.free=>a.kindOf y.1==Z .cell||a.kindOf y.1==Z .free
 |_=>J
noncomputable def kh(d:Scope):List Str->List Str->Bool
 |[],[]=>J
 |a :: e,b :: bs=>((a==b&&d.names.lookup a==Z .free)||d.names.lookup a==L||d.names.lookup a==Z .globalImplicit)&&kh d e bs
 |_,_=>B
theorem rh:∀{f bs:List Str},kh d f bs=J->f.length=bs.length/\∀(i:Nat)(x:Str),f[i]?=Z x->(bs[i]?=Z x/\d.names.lookup x=Z .free)\/d.names.lookup x=L\/d.names.lookup x=Z .globalImplicit
 |[],[],_=>⟨rfl,λi x h=>by simp at h⟩
 |a :: f,b :: bs,h=>by
  obtain⟨g,n⟩:=ZZ.mp (h);obtain⟨l,r⟩:=rh n;refine⟨by simp[l],λi x e=>?_⟩;cases i with
  |zero =>
   have:a=x:=by simpa using e
   subst this;simp only[WD,Z1]at g;rcases g with (⟨m,j⟩ | z) | z
   ·exact .inl ⟨by simpa using(by simpa using m:a=b).symm,by simpa using j⟩
   ·exact .inr (.inl (by simpa using z))
   ·exact .inr (.inr (by simpa using z))
  |succ i=>simpa using r i x (by simpa using e)
 |[],_ :: _,h=>nomatch h
 |_ :: _,[],h=>nomatch h
section
variable{H:Hp}
def Inv.block{N:List Str}{cl:List (Str×On)}{k:Nat}{E:UF}{t:Nat}(I:Inv X pins M H s)(KW:iO X.env g=J)(Ls:kh g (N.drop k) X.N=J)(L4:k<=N.length)(j:∀x c,cl.lookup x=Z c->X.env.cells.lookup x=Z c)(Oi:∀y∈g.names,y.2=.free->∃c,cl.lookup y.1=Z c)(G:∀b∈U,jq X pins H b)(A:s.heap.objs.size<=D)(hC:s.heap.objs.size<=C)(UJ:D≠C)(UG:C∉U)(a:∀b u,s.heap.get? b=Z u->E.get? b=Z u)(MX:E.Ns C m)(S:E.get? D=Z { cls:=.type "list",data:=.seq ([]:Wa).toArray 0 }) :
  Inv (bq X N g cl C s H U) [] (List.replicate k L++M) (upd H D (.lst [])) { s with heap:=E,toks:=t }:=by
 unfold iO at KW;rw[Z1,Za]at KW;obtain⟨hk,K8⟩:=KW;have L9:g.kind=.function:=by simpa using hk
 obtain⟨hlen,Rh⟩:=rh Ls;have Nk:∀y∈g.names,y.2 ≠ .cell:=λy hy e=>by have:=K8 y hy;rw[e]at this;cases this
 refine⟨⟨I.mod,L9,I.ok.glob,I.ok.blt,hC,λx y c e1 e2=>I.ok.inj x y c (j x c e1) (j y c e2),λx hx=>?_,λx c e=>(nomatch e),I.ok.hd,I.ok.frames,.inl Y,λb hb=>⟨λ(e:b=C)=>UG (e ▸ hb),λx c e=>(G b hb).2.2.2.2.1 x c (j x c e)⟩,
  I.tb,I.bs,ZJ I.ok.OH I.sz,λb o e hb=>?_,λb hb KC=>?_,I.stack,I.Mg⟩,rfl,I.bare,Un.laid a A (I.JZ.fresh A),⟨m,MX,λi x v e1 e2 e3=>?_⟩,λx c e=>?_,?_,λx c e=>?_,λp hp=>(nomatch hp),I.JZ.laid a A ?_,?_⟩
 ·have h:∃f,(relabel g X.env).names.lookup x=Z f/\(f=.cell\/f=.free):=by
   rcases hx with e | e
   ·exact⟨_,e,.inl Y⟩
   ·exact⟨_,e,.inr Y⟩
  obtain⟨f,F,Mn⟩:=h;exact Oi _ (cK ((λx f h L1=>by
  obtain⟨P,d,R⟩:=dH h;rcases R with e | ⟨e,_⟩
  ·subst e;rcases L1 with e | e
   ·subst e;exact absurd Y (Nk _ (cK d))
   ·subst e;exact d
  ·subst e;exact d) x f F Mn)) Y
 ·rcases (G b hb).2.2.2.1 with z | z
  ·exact I.ok.N4 b o e z
  ·exact absurd (ZU (ZY e) (ZJ I.ok.OH z)) (YO _)
 ·rcases Zo.mp (I.LL b KC) with z | z
  ·exact(G b hb).2.1 z
  ·exact(G b hb).2.2.1 z
 ·
  have w:k<=i:=by
   rcases Nat.lt_or_ge i k with z | z
   ·rw[Yu (by simpa using z),YY]at e2;split at e2<;>cases e2
   ·exact z
  rw[Yf (by simpa using w),YQ]at e2;have O:g.names.lookup x=Z .free->∃f,(relabel g X.env).names.lookup x=Z f/\(f=.cell\/f=.free):=λd=>by
   rcases e3 with z | z | z
   ·obtain⟨P,F,Mn⟩:=dH z;rw[d]at F;cases F;rcases Mn with q | ⟨_,q⟩<;>cases q
   ·exact⟨_,z,.inl Y⟩
   ·exact⟨_,z,.inr Y⟩
  rcases Rh _ x (by
   rw[List.getElem?_drop,show k+(i-k)=i by exact Nat.add_sub_of_le w];exact e1) with⟨hX,d⟩ | d | d
  ·obtain⟨f,Oz,Pd⟩:=O d;have S6:X.env.kindOf x=Z .cell\/X.env.kindOf x=Z .free:=by
    simpa using(K8 _ (cK d))
   obtain⟨mX,hnX,Q⟩:=I.loc;obtain⟨u,r,l⟩:=Q _ x v hX e2 (S6.elim (λz=>.inr (.inl z)) λz=>.inr (.inr z));refine⟨u,r,.inr ⟨?_,?_⟩⟩
   ·rcases Pd with z | z
    ·subst z;exact .inl Oz
    ·subst z;exact .inr Oz
   ·obtain⟨c,hc⟩:=Oi _ (cK d) Y;refine⟨c,hc,?_⟩;rcases l with⟨z,_⟩ | ⟨_,c',Lf,MZ⟩
    ·rcases S6 with q | q<;>(rw[z]at q;cases q)
    ·have:=j x c hc;rw[Lf]at this;cases this;exact MZ.keeps a
  ·rcases e3 with z | z | z<;>(obtain⟨P,n,_⟩:=dH z;rw[d]at n;cases n)
  ·rcases e3 with z | z | z<;>(obtain⟨P,n,z2⟩:=dH z;rw[d]at n;cases n;rcases z2 with q | ⟨q,_⟩<;>cases q)
 ·obtain⟨v,z⟩:=I.cell x c (j x c e);exact⟨v,z.keeps a⟩
 ·show upd H D (.lst []) C=L;rw[aw (Yy UJ)];exact(I.JZ.fresh hC)
 ·obtain⟨v,z⟩:=I.cell x c (j x c e);rw[aw (Zf (ZU z.lt A))];exact I.KI x c (j x c e)
 ·exact⟨Yk _,[],0,.nil,S⟩
 ·rw[Zq,YQ,I.len,← hlen,Ym];exact Nat.add_sub_of_le L4
def zM(X:Cx)(a:List Expr)(t:TT):Prop :=
 ∀(pins:Z2)(s:KB)(M:St)(H:Hp)(Q:Bool->Hp->Prop),Inv X pins M H s->t M H Q →
  Pi (KF X.prog X.w) X.A (forIn a J λc r=>if r=J then (do let ok ← isTrue c X.env (eval c X.env);pure (ForInStep.yield ok)) else pure (ForInStep.yield r)) (TP X pins M Q) X.xe s
def jK:zM X [] (λM H Q=>Q J H):=λpins s M H Q I q=>Zl ⟨H,I,q⟩
def uS(h:PT X c t):zM X [c] t:=λpins s M H Q I q=>by
 rw[XB,Zp Y];refine Zv (Zv (thn (h pins s M H Q I q) λb s1 a=>Zl ?_));exact Zl a
section
def uj{s:KB}(I:Nat->KB->Prop)(f:∀n s,I n s->Pi (KF prog w) A (pyNext t) (λr p=>match r with
   |none=>R (.ok .next) p
   |some v=>Pi (KF prog w) A (letOwnedTupleGo a t v) (λ_ D=>Pi (KF prog w) A (assign a d v) (λ_ C =>
     Pi (KF prog w) A (forIn i J λc r=>if r=J then (do let ok ← isTrue c d (eval c d);pure (ForInStep.yield ok)) else pure (ForInStep.yield r)) (λok o =>
      if ok=J then Pi (KF prog w) A (eval j d) (λx z =>
       Pi (KF prog w) A (call (.builtin "list.append") [l,x]) (λ_ y=>∃m,m<n/\I m y) (λ_ _=>False) z) (λ_ _=>False) o
      else ∃m,m<n/\I m o) (λ_ _=>False) C) (λ_ _=>False) D) (λ_ _=>False) p) (λ_ _=>False) s)(n:Nat)(h:I n s) :
  codeAny (KF prog w) A (.compLoop (.ListComp j [⟨a,g,i,0⟩] e q) 0 t l d) R s:=by
 refine codeAny_loop Y I (λn s O=>?_) n h;refine wpAny_noted ?_;rw[compTurn_list];refine Zv (wpAny_standAt (Zv (YX (f n s O) (λr p E=>?_) λ_ _ b=>b.elim)));cases r with
 |none=>exact Zl E
 |some v =>
  refine Zv (YX E (λ_ D h₀=>?_) λ_ _ b=>b.elim);refine Zv (YX h₀ (λ_ C N=>Zv (YX N (λok o u=>?_) λ_ _ b=>b.elim)) λ_ _ b=>b.elim);cases ok with
  |false=>exact Zl ⟨rfl,u⟩
  |true =>
   rw[Zp Y]at u;exact Zv (Zv (YX u (λx z G=>Zv (YX G (λ_ y F=>Zl (Zl ⟨rfl,F⟩)) λ_ _ b=>b.elim)) λ_ _ b=>b.elim))
end
def tH(k:Nat)(p:TI)(g:TG)(r:TT)(q:TE)(M:St)(H:Hp)(Q:VK):Prop:=p M H λJ o=>∀D,o D=L->∃W:Nat->Nat->St->Hp->Prop,
 (∃m,W 0 m (List.replicate k L++M) (upd o D (.lst [])))/\∀i m h d,W i m h d->(J.stop i d/\Q (.ref D) d)\/(J.go i d/\∀x n,J.T6 i d x n->g x h n λe t=>r e t λb l =>
  if b=true then q e l λy j=>∃f,j D=Z (.lst f)/\f.length<KM/\∃a,a<m/\W (i+1) a e (upd j D (.lst (f++[y]))) else ∃a,a<m/\W (i+1) a e l)
def qo{X:Cx}{N:List Str}(Kf:X.calm=true)(hi:PI X tg a wi)(KW:iO X.env l=true)(Ls:kh l (N.drop k) X.N=true)(L4:k<=N.length)(La:∀cl C s H fp,PG (bq X N l cl C s H fp) tg g/\zM (bq X N l cl C s H fp) F tc/\PE (bq X N l cl C s H fp) R te)(hs:∀x,XAB a X.env x=pure x)(I:Inv X pins M H s)(h:tH k wi g tc te M H Q)(hq:∀s' f D C m,Inv X pins M f s'->Q (.ref D) f->s'.heap.Ns C m->jq X pins f C->compPost (KF X.prog X.w) X.A X.xe E QQ (.ref D) C (.ok .next) s') :
  Pi (KF X.prog X.w) X.A (comprehension (.ListComp R [⟨tg,a,F,0⟩] l pos) l X.env pos' (newList []) B (eval a X.env) E) QQ X.xe s:=by
 have LD:=KW;unfold iO at LD;rw[Z1,Za]at LD;obtain⟨hk,K8⟩:=LD;have L9:l.kind=.function:=by simpa using hk
 obtain⟨cl,Ny,Ma,Oi⟩:=wB λy G e=>I.ok.has y.1 (by
  have:=K8 y G;rw[e]at this;simpa using this)
 refine wpAny_comprehension_free rfl hs Ny L9 (λy G e=>by
  have:=K8 y G;rw[e]at this;simpa using this) (thn (hi pins s M H _ I h) λv s1 h1=>thn h1 λV3 j h2=>?_)
 obtain⟨it,fp,tn,J,H2,e,I2,T,Ug,f2,hW⟩:=h2;subst e;refine YA (wpAny_newFunctionEnv (λy G e=>by have:=K8 y G;rw[e]at this;cases this) (by intro y G;simp at G) (λh₁ Oc MV=>?_) L9);generalize hP:j.heap.push { cls:=.type "list",dict:=L,data:=.seq ([]).toArray }=P at Oc MV ⊢;have O:P.objs.size=j.heap.objs.size+1:=by rw[← hP,Ya]
 have old:=λb o e =>
  MV.extBut b o (by rw[O];exact Zf (Yq (ZY e))) (Zm _ (hP ▸ Zm _ e))
 have UJ:j.heap.objs.size≠P.objs.size:=by rw[O];exact Zf (Z3 _)
 have Rj:j.heap.objs.size<=P.objs.size:=by rw[O];exact Y6 _
 have PB:=λb hb=>let ⟨o,ho,_⟩:=T.obj 0 _ Ug b hb;ZY ho
 have UG:P.objs.size∉fp:=λhb=>absurd (ZU (PB _ hb) Rj) (YO _);have IY:=I2.block (N:=N) (k:=k) (t:=j.toks+([]:List (Str×PP)).length) KW Ls L4 Ma Oi f2 (Zk _) Rj UJ UG old Oc (MV.extBut _ _ UJ (Zm _ (hP ▸ Zc _ rfl)));obtain⟨hG,hT,hE⟩:=La cl P.objs.size j H2 fp;generalize hY:bq X N l cl P.objs.size j H2 fp=Y at IY hG hT hE;have hYm:Y.prog=X.prog/\Y.w=X.w/\Y.K=X.K/\Y.A=X.A/\Y.env=compEnvC l cl P.objs.size X.env/\Y.calm=X.calm/\(Y.xe=λ_ _=>False):=by rw[← hY];exact⟨rfl,rfl,rfl,rfl,rfl,rfl,rfl⟩
 obtain⟨y1,U,y3,S,y5,y6,y7⟩:=hYm;have MP:∀{f:Hp},(∀b∈fp,f b=L)->∀b∈fp,jq Y [] f b:=λ{f} hn b hb=>by
  rw[← hY];refine⟨hn b hb,λ(e:b=P.objs.size)=>UG (e ▸ hb),λKC=>?_,.inl hb,λx c e=>(f2 b hb).2.2.2.2.1 x c (Ma x c e),λp hp=>(nomatch hp)⟩;rcases Zo.mp (I2.LL b KC) with z | z
  ·exact(f2 b hb).2.1 z
  ·exact(f2 b hb).2.2.1 z
 obtain⟨W,⟨m0,w0⟩,turn⟩:=hW j.heap.objs.size (I2.JZ.fresh (Zk _));have Pu:=T.keep _ _ _ Ug λb _ o e=>old b o e;have loop:codeAny (KF X.prog X.w) X.A (.compLoop (.ListComp R [⟨tg,a,F,0⟩] l pos) 0 (.ref it) (.ref j.heap.objs.size) (compEnvC l cl P.objs.size X.env)) (compPost (KF X.prog X.w) X.A X.xe E QQ (.ref j.heap.objs.size) P.objs.size)
   { j with heap:=h₁,toks:=j.toks+([]:List (Str×PP)).length }:=by
  refine uj (λn s'=>∃i M' f,Inv Y [] M' f s'/\tn i s'.heap/\(∀b∈fp,f b=L)/\W i n M' f) ?_ m0 ⟨0,_,_,IY,Pu,(λb hb=>by rw[aw (Zf (PB b hb))];exact(f2 b hb).1),w0⟩;rintro n s3 ⟨i,M3,H3,I3,Pu,Tn,w3⟩;rcases turn i n M3 H3 w3 with⟨stop,qn⟩ | ⟨go,step⟩
  ·have q:=T.done Y y1 U y3 (y6.trans Kf) i [] s3 M3 H3 (λ_ _=>False) I3 (MP Tn) Pu stop;rw[S]at q;refine thn q λr s4 ⟨hr,I4⟩=>?_;subst hr;obtain⟨mC,hmC,_⟩:=I4.loc;have f4:=I4.free;rw[y5]at hmC f4;exact hq s4 H3 _ P.objs.size mC (by
    have b4:=I4.base;have o4:=I4.os;have k4:=I4.JZ;rw[← hY]at b4 o4 k4;refine I2.TJ (ch:=fp) o4 b4 k4 I4.bare λb hb=>?_;exact⟨(f2 b hb).2.2.2.1,(f2 b hb).2.1,(f2 b hb).2.2.2.2.1,(f2 b hb).2.2.2.2.2⟩) qn hmC (I2.M0 Rj f4)
  ·have q:=T.item Y y1 U y3 (y6.trans Kf) i [] s3 M3 H3 (λ_ _=>False) I3 (MP Tn) Pu go;rw[S]at q;refine thn q λr s4 ⟨u,hr,h4⟩=>?_;subst hr;refine thn h4 λ_ s5 ⟨x,H5,I5,r5,yl5,QC,fr5⟩=>?_;have again:∀{M7:St}{H7:Hp}{s7:KB}{m:Nat},Inv Y ([]++pL fp s5.heap) M7 H7 s7->W (i+1) m M7 H7->∃i M' f,Inv Y [] M' f s7/\tn i s7.heap/\(∀b∈fp,f b=L)/\W i m M' f:=λ{M7 H7 s7 m} I7 w7=>by
    refine⟨i+1,M7,H7,I7.Lk,T.keep _ _ _ QC λb hb o e=>(I7.pin (b,o) (ZP _ (ZP _ (iU hb e)))).1,λb hb=>?_,w7⟩;obtain⟨o,e,d⟩:=T.obj _ _ QC b hb;exact(I7.pin (b,o) (ZP _ (ZP _ (iU hb e)))).2.1
   have qa:=hG _ s5 M3 H5 x u _ (I5.pinned (MP fr5) (T.obj _ _ QC)) r5 (step x H5 yl5);rw[y1,U,S,y5,y7]at qa;refine thn qa λ_ s6 ⟨M6,H6,I6,q6⟩=>?_;have qt:=hT _ s6 M6 H6 _ I6 q6;rw[y1,U,S,y5,y7]at qt;refine thn qt λb s7 ⟨H7,I7,q7⟩=>?_;cases b with
   |false =>
    rw[Zn ZX]at q7 ⊢;obtain⟨m',hm,w7⟩:=q7;exact⟨m',hm,again I7 w7⟩
   |true =>
    rw[Zp rfl]at q7 ⊢;have qe:=hE _ s7 M6 H7 _ I7 q7;rw[y1,U,S,y5,y7]at qe;refine thn qe λyv s8 ⟨y,H8,I8,r8,ys,hD8,hl8,m',hm,w8⟩=>?_;have qp:=fC (X:=Y) _ s8 M6 H8 (.ref j.heap.objs.size) [y] (.ref j.heap.objs.size) [yv] (λ_ H9=>W (i+1) m' M6 H9) I8 rfl (.cons r8 .nil) ⟨_,ys,y,rfl,rfl,hD8,hl8,w8⟩;rw[y1,U,S,y7]at qp;refine thn qp λ_ s9 ⟨_,H9,I9,_,w9⟩=>?_;exact⟨m',hm,again I9 w9⟩
 exact codeAny_compStart_list loop (T.self _ 0 _ _ _ Pu loop)
def nY{X:Cx}{N:List Str}(F:X.calm=J)(w:PI X l a p)(G:iO X.env d=J)(y:kh d (N.drop k) X.N=J)(E:k<=N.length)(A:∀cl C s H fp,PG (bq X N d cl C s H fp) l g/\zM (bq X N d cl C s H fp) i t/\PE (bq X N d cl C s H fp) j r)(u:{`q3,∀x,XAB a X.env x=pure x}):PE X (.ListComp j [⟨l,a,i,0⟩] d n) (tH k p g t r):=by
 intro pins s M H Q I h;rw[eval_ListComp];refine qo F w G y E A u I h λR P D C m O q v f=>⟨m,v,λS z=>?_⟩
 exact⟨.ref D,P,O.turned (λb o hb e=>z.extBut b o hb e) f.1 f.2.1 f.2.2.2.1 f.2.2.2.2.1 f.2.2.2.2.2,rfl,q⟩
def kQ{X:Cx}{A:Pos}{N:List Str}(U:X.N.Nodup)(SY:X.N[i]?=Z x)(F:Loc X.env.scope x)(Kf:X.calm=J)(Q:PI X t d u)(KW:iO X.env l=J)(Ls:kh l (N.drop k) X.N=J)(L4:k<=N.length)(La:∀cl C s H fp,PG (bq X N l cl C s H fp) t g/\zM (bq X N l cl C s H fp) n y/\PE (bq X N l cl C s H fp) p w)(Lm:swapsWith (.ListComp p [⟨t,d,n,0⟩] l r) (Z (.Name x j)) A.line X.env=pure J)(R:X.fn x=J\/X.env.scope.names.lookup x=Z .local)(G:{`q3,∀x,XAB d X.env x=pure x}) :
  PS X (.Assign [.Name x j] (.ListComp p [⟨t,d,n,0⟩] l r) A) (λD M H=>tH k u g y w M H λv H1=>D.nx (M.set i (Z v)) H1):=by
 intro pins s M H D I h;rw[exec_Assign_Name_used _ _ _ _ Lm];refine Zv (wpAny_standAt (Zv ?_));refine Zv (YX (qo Kf Q KW Ls L4 La G I h λE H' D' C m I' q P f=>?_) (λ_ E O=>Zl (Zl O)) λ_ _ e=>e);refine wpAny_assign_Name (qj I' U SY F (v:=.ref D') Y (λs2 I2 ⟨a,UC,S⟩=>?_) R);refine⟨m,P.sameBut UC (λe=>by
  rcases S with z | z
  ·exact f.2.1 (e.trans z)
  ·exact f.2.2.2.2.1 x a z e.symm),λh' Lp=>⟨_,H',?_,q⟩⟩
 exact I2.turned (λb o hb e=>Lp.extBut b o hb e) f.1 f.2.1 f.2.2.2.1 f.2.2.2.2.1 f.2.2.2.2.2
end
end L2
end
section
namespace VS
open PySem PySem.Spec PyProof.Rows L2
noncomputable def pf(k:Nat)(g:Tg):Prop:=∀t U a,g t U=Z a->a.length=U.length/\∀i,k<=i->a[i]?=U[i]?
def bJ(h:{`q1,i<k}):pf k (aG i):=λt U b e=>by
 unfold aG at e;split at e
 ·cases e;exact⟨by simp,λj a=>by rw[Yr (by lia)]⟩
 ·cases e
theorem wC:∀{d:List Tg},(∀g∈d,pf k g)->∀b U a,Bo d b U=Z a->a.length=U.length/\∀i,k<=i->a[i]?=U[i]?
 |[],_,[],U,a,e=>by cases (e);exact⟨rfl,λ_ _=>rfl⟩
 |[],_,_ :: _,U,a,e=>nomatch e
 |_ :: _,_,[],U,a,e=>nomatch e
 |g :: d,h,t :: b,U,a,e=>by
  obtain⟨j,e1,e2⟩:=Zz.mp (e);obtain⟨p,o⟩:=h g Zx t U j e1;obtain⟨n,m⟩:=wC (λl hg=>h l (Zy _ hg)) b j a e2;exact⟨n.trans p,λi f=>(m i f).trans (o i f)⟩
def pH(f:pf k b)(d:pf k a):pf k (iD [b,a]):=λt U h e=>by
 unfold iD at e;split at e
 ·refine wC (λg hg=>?_) _ U h e;rcases Zo.mp hg with rfl | hg
  ·exact f
  ·rw[Zj.mp hg];exact d
 ·cases e
theorem xf:∀(l:Vb){i:Nat}{t:T},fZ l=J->l[i]?=Z t->J3 t=J
 |[],_,_,_,h=>by simp at h
 |x :: l,0,t,h,e=>by
  simp at e;rw[← e];exact(ZZ.mp h).1
 |x :: l,i+1,t,h,e=>by
  exact xf l (ZZ.mp h).2 (by simpa using e)
def tC(G:Gx):Option Ex->TT
 |none=>λM H Q=>Q J H
 |some c=>tT G c
section
variable{H:Hp}
def mf:(List.replicate k L++U)[i]?=Z (Z c)↔k<=i/\U[i-k]?=Z (Z c):=by
 rcases Nat.lt_or_ge i k with h | h
 ·rw[Yu (by simpa using h),YY];constructor
  ·intro e;split at e<;>cases e
  ·intro ⟨e,_⟩;lia
 ·rw[Yf (by simpa using h),YQ];exact⟨λe=>⟨h,e⟩,λe=>e.2⟩
def B3:bL (λi=>O (i-k)) (List.replicate k L++U) a↔bL O U a:=by
 constructor
 ·rintro⟨j,t,d,b⟩;exact⟨j-k,t,(mf.mp d).2,b⟩
 ·rintro⟨j,t,d,b⟩;refine⟨j+k,t,mf.mpr ⟨Nat.le_add_left _ _,by rw[X0];exact d⟩,?_⟩;show a∈O (j+k-k);rw[X0];exact b
def Cj:df (λi=>O (i-k)) (List.replicate k L++U) a↔df O U a:=by
 constructor
 ·rintro⟨j,t,d,b⟩;exact⟨j-k,t,(mf.mp d).2,b⟩
 ·rintro⟨j,t,d,b⟩;refine⟨j+k,t,mf.mpr ⟨Nat.le_add_left _ _,by rw[X0];exact d⟩,?_⟩;show a∈O (j+k-k);rw[X0];exact b
def SR.sh(s:SR G O U M H):SR G (λi=>O (i-k)) (List.replicate k L++U) (List.replicate k L++M) H:=by
 refine⟨by simp[s.len],λi c h=>?_,λi t h=>?_,λi j t c b a n=>?_⟩
 ·obtain⟨b,a⟩:=mf.mp h;obtain⟨v,e,d⟩:=s.rp _ c a;refine⟨v,?_,d⟩;rw[Yf (by simpa using b),YQ];exact e
 ·exact s.nd _ t (mf.mp h).2
 ·obtain⟨m,g⟩:=mf.mp b;obtain⟨l,f⟩:=mf.mp a;exact s.sep _ _ t c g f (by lia)
def SR.less{U:VS.Env}(s:SR G O a M H)(b:U.length=a.length)(h:∀(i:Nat) c,U[i]?=Z (Z c)->a[i]?=Z (Z c)):SR G O U M H :=
 ⟨b.trans s.len,λi c e=>s.rp i c (h i c e),λi t e=>s.nd i t (h i _ e),λi j t c e1 e2 n=>s.sep i j t c (h i _ e1) (h j _ e2) n⟩
def SR.off(s:SR G O U M H)(m:J8 (H D)\/H D=L)(d:¬df O U D)(a:¬bL O U D):SR G O U M (upd H D o):=by
 refine⟨s.len,λi c e=>?_,s.nd,s.sep⟩;obtain⟨v,h,g⟩:=s.rp i c e;refine⟨v,h,g.keep (Kept.upd m) λb hb j f=>?_⟩;rw[aw λz=>?_]
 ·exact f
 ·subst z;cases c with
  |pu t=>exact d ⟨i,t,e,hb⟩
  |ow t=>exact a ⟨i,t,e,hb⟩
theorem pj:∀(l:Vd)(v:Val),cL (l++[v])=(cL l).join v.1
 |[],(m,t)=>by cases m<;>rfl
 | (m,t) :: l,v=>by
  show m.join (cL (l++[v]))=(m.join (cL l)).join v.1;rw[pj l v];generalize cL l=q;generalize v.1=r;cases m<;>cases q<;>cases r<;>rfl
def Fp.Sy(f:Fp O U H m F)(g:Fp O U H n j)(d:n=.fr->∀a∈F,a∉j):Fp O U H (m.join n) (F++j):=by
 have both:∀{P:On->Prop},(∀a∈F,P a)->(∀a∈j,P a)->∀a∈F++j,P a:=λp q a h=>(ZW.mp h).elim (p a) (q a);cases m<;>cases n
 ·exact⟨ZL.mpr ⟨f.1,g.1,λa i b hb e=>d Y a i (e ▸ hb)⟩,both f.2 g.2⟩
 ·exact both (λa i=>.inl (f.2 a i)) g
 ·exact both (λa i=>.inl (f.2 a i)) g
 ·exact both f λa i=>.inl (g.2 a i)
 ·exact both f g
 ·exact both (λa i=>(f a i).imp id .inl) g
 ·exact both f λa i=>.inl (g.2 a i)
 ·exact both f λa i=>(g a i).imp id .inl
 ·exact both f g
def Fp.TH(f:Fp O U H m F)(h:H D=L)(d:D∉F):Fp O U H m (D :: F):=by
 have all:∀{P:On->Prop},P D->(∀a∈F,P a)->∀a∈D :: F,P a:=λp q a b=>(Zo.mp b).elim (λe=>e ▸ p) (q a);cases m
 ·exact⟨Zb.mpr ⟨d,f.1⟩,all h f.2⟩
 ·exact all (.inl h) f
 ·exact all (.inl h) f
end
section
def CI(G:Gx)(O:J5)(U b:VS.Env)(H p:Hp)(D:On)(l:Vb)(h:Vd)(q:Tg)(d:Option Ex)(r:Ex)(i n:Nat)(s:L2.St)(f:Hp):Prop:=n=l.length-i/\∃e g j m rest,SR G e b s f/\(∀a,bL e b a->bL O U a)/\(∀a,df e b a->H a=L\/df O U a)/\¬df e b D/\¬bL e b D/\Kept p f ∧
     (∀a o,a≠D->p a=Z o->f a=Z o)/\f D=Z (.lst m)/\RpL G f m (trees g) j/\D∉j.flatten/\Fp O U H (cL g) j.flatten/\km q d r b (l.drop i)=Z rest/\g++rest=h
def lK{G:Gx}{k:Nat}{tg:Tg}{ci:Ms}{cond:Option Ex}{ce:Ex}{M:L2.St}{H:Hp}{Q:VK}(La:pf k tg)(h:tE G (bD k tg ci cond ce) M H Q):tH k (tI G ci) (tG G tg) (tC G cond) (tE G ce) M H Q:=by
 refine L2.iq λP_ A=>?_;obtain⟨O,U,m,r,s,e,kq⟩:=h;obtain⟨⟨mi,l⟩,el,e1⟩:=Zz.mp e;dsimp only at e1;split at e1
 ·rename_i JZ;obtain⟨all,ea,e2⟩:=Zz.mp e1;unfold ML at e2;split at e2
  ·rename_i hlen;cases e2;refine A ?_;refine⟨O,U,mi,l,s,el,λJ H1 C e3 ok fc D hD=>?_⟩;have PN:=e3.free hD;let N:VS.Env:=List.replicate k L++U
   have good:∀{t:T}{i:Nat}{p H2:Hp}{v:V}{F:Wc},l[i]?=Z t->Rp G H2 v t F->(∀a,H1 a≠L->p a≠L)->(∀a∈F,a∈C\/p a=L)->∀a∈F,(H a=L\/df O U a)/\¬bL O U a:=λ{t i p H2 v F} hi rF keep hF a d=>by
    have Kd:∀{b},H b≠L->p b≠L:=λ{b} hb=>keep b λz=>hb (e3.free z);rcases hF a d with z | z
    ·rcases fc a z with q | q | ⟨q,w⟩
     ·exact⟨.inl q,λw=>J8.JX (s.KD w) q⟩
     ·exact⟨.inr q,λw=>s.N1 w q⟩
     ·subst q;have:J3 t=true:=by
       exact xf l JZ hi
      rw[rF.J3 this]at d;simp at d
    ·have hz:=Classical.byContradiction λq=>Kd q z;exact⟨.inl hz,λw=>J8.JX (s.KD w) hz⟩
   refine⟨CI G O U N H H1 D l all tg cond ce,?_,?_⟩
   ·refine⟨l.length-0,rfl,λi=>O (i-k),[],[],[],all,?_,λa h=>B3.mp h,λa h=>.inr (Cj.mp h),λh=>?_,λh=>?_,Kept.upd (.inr hD),λa o n h=>by rw[aw n];exact h,aq,.nil,by simp,Fp.nil,by rw[List.drop_zero];exact ea,rfl⟩
    ·exact((s.same e3).sh).off (.inr hD) (λh=>J8.JX (s.Mi (Cj.mp h)) PN) λh=>J8.JX (s.KD (B3.mp h)) PN
    ·exact J8.JX (s.Mi (Cj.mp h)) PN
    ·exact J8.JX (s.KD (B3.mp h)) PN
   ·intro i n M' p hh_;refine L2.iq λP_ A=>?_;obtain⟨rfl,O1,X,Fs,xs,rest,s1,RA,pu1,np1,no1,kp,old,RP,rp,nD,fp,er,ev⟩:=hh_;refine A ?_;have Nh:∀a,H1 a≠L->p a≠L:=λa d z=>by
     by_cases q:a=D
     ·subst q;rw[RP]at z;cases z
     ·cases e:H1 a with
      |none=>exact d e
      |some o=>rw[old a o q e]at z;cases z
    refine L2.iq λP_ A=>?_;obtain⟨go,stop⟩:=ok.run p kp λa d o ho=>old a o (λz=>ok.Kd a d (z ▸ hD)) ho;cases hit:l[i]? with
    |none =>
     have hl:=YS.mp hit;refine A ?_;left;refine⟨stop i hl,?_⟩;rw[Xc hl]at er;cases (er);rw[ZS]at ev;subst ev;refine kq (.ref D) p (D :: Fs.flatten) (λa o h=>old a o (λz=>by rw[z,PN]at h;cases h) (e3 a o h)) (.lst RP rp) ?_;by_cases hi:fZ (trees X)=true
     ·rw[Zp hi,rp.J3 hi];exact⟨by simp,λa d=>by rw[Zj.mp d];exact PN⟩
     ·rw[Zn hi];exact fp.TH PN nD
    |some t =>
     have hl:=(Ze.mp hit).1;obtain⟨g1,y1⟩:=go i t hit;refine A ?_;right;refine⟨g1,λx H2 yl=>?_⟩;refine L2.iq λP_ A=>?_;obtain⟨g,F,rF,hF⟩:=y1 x H2 yl;rw[qq (tgt:=tg) (body:=gf) (U:=U) hit]at er;rw[km]at er;obtain⟨U3,e4,e5⟩:=Zz.mp er;obtain⟨b,eb,e6⟩:=Zz.mp e5;have gd:=good hit rF Nh hF;refine A ?_;refine⟨O1,N,t,F,U3,(s1.same g),rF,λa d z=>(gd a d).2 (RA a z),e4,λP M3 s3 o3 p3=>?_⟩;obtain⟨tl,R7⟩:=La t N U3 e4;have low:∀j c,N[j]?=Z (Z c)->U3[j]?=Z (Z c):=λj c h=>by rw[R7 j (mf.mp h).1];exact h
     have Um:=λa h=>(p3 a h).elim (pu1 a) λh=>(gd a h).1;have VC:=λa h=>RA a (o3 a h);have Sn:=λh=>(p3 D h).elim np1 (λh=>by
      rcases hF D h with z | z
      ·exact ok.Kd D z hD
      ·rw[RP]at z;cases z)
     have Uu:=λh=>no1 (o3 D h);have Ul:∀a,df P N a->df P U3 a:=λa ⟨j,u,h1,h2⟩=>⟨j,u,low j _ h1,h2⟩
     have Up:∀a,bL P N a->bL P U3 a:=λa ⟨j,u,h1,h2⟩=>⟨j,u,low j _ h1,h2⟩
     have Px:∀S,aI H2 S->(if b=true then tE G ce M3 S λy R=>∃ys,R D=Z (.lst ys)/\ys.length<KM/\∃m',m'<l.length-i/\CI G O U N H H1 D l all tg cond ce (i+1) m' M3 (upd R D (.lst (ys++[y]))) else ∃m',m'<l.length-i/\CI G O U N H H1 D l all tg cond ce (i+1) m' M3 S):=λS f=>by
      have eo:∀{R},aI S R->∀a o,p a=Z o->R a=Z o:=λ{R} RT a o h=>RT a o (f a o (g a o h));cases b with
      |false =>
       rw[Zn ZX]at e6 ⊢;have same:=eo (aI.refl S);exact⟨_,by lia,rfl,P,X,Fs,xs,rest,(s3.same f).less (by rw[tl]) low,λa h=>VC a (Up a h),λa h=>Um a (Ul a h),λh=>Sn (Ul D h),λh=>Uu (Up D h),kp.trans ((Kept.of g).trans (Kept.of f)),λa o n h=>same a o (old a o n h),same D _ RP,rp.same (aI.trans g f),nD,fp,e6,ev⟩
      |true =>
       rw[Zp Y]at e6 ⊢;obtain⟨⟨mv,tv⟩,ece,e7⟩:=Zz.mp e6;obtain⟨Sg,er1,e7'⟩:=Zw.mp e7;refine⟨P,U3,mv,tv,s3.same f,ece,λy R Fy RT ry E=>?_⟩;have same:=eo RT;have Ti:=same D _ RP;have OY:J8 (R D):=by rw[Ti];exact True.intro
       have hD4:=f D _ (g D _ RP);have N3:=λa h=>Classical.byContradiction λq=>Nh a (λz=>q (e3.free z)) (g.free (f.free h));have DFy:=λh=>by
        cases mv with
        |fr=>have:=E.2 D h;rw[hD4]at this;cases this
        |pu=>exact(E D h).elim (λz=>by rw[hD4]at z;cases z) Sn
        |bo=>exact(E D h).elim (λz=>by rw[hD4]at z;cases z) λz=>z.elim Sn Uu
       have lenx:xs.length=X.length:=by rw[rp.len.1];simp
       have lenv:X.length<all.length:=by rw[← ev,← e7'];simp
       refine⟨xs,Ti,?_,_,by lia,rfl,P,X++[(mv,tv)],Fs++[Fy],xs++[y],Sg,(((s3.same f).same RT).off (.inl OY) Sn Uu).less (by rw[tl]) low,λa h=>VC a (Up a h),λa h=>Um a (Ul a h),λh=>Sn (Ul D h),λh=>Uu (Up D h),?_,λa o n h=>?_,aq,?_,?_,?_,er1,?_⟩
       ·have SW:all.length<=fq:=by simpa using hlen
        have:KM=fq:=rfl;lia
       ·exact(kp.trans ((Kept.of g).trans ((Kept.of f).trans (Kept.of RT)))).trans (Kept.upd (.inl OY))
       ·rw[aw n];exact same a o (old a o n h)
       ·have:trees (X++[(mv,tv)])=trees X++[tv]:=by simp
        rw[this];exact((rp.same ((g.trans f).trans RT)).off OY nD).append (.cons (ry.keep (Kept.upd (.inl OY)) λb hb o ho=>by rw[aw (λz=>DFy (by rw[← z];exact hb))];exact ho) .nil)
       ·rw[Yg];intro h;rcases ZW.mp h with z | z
        ·exact nD z
        ·exact DFy (by simpa using z)
       ·rw[Yg,pj];have:([Fy]).flatten=Fy:=by simp
        rw[this];refine fp.Sy (by
        cases mv with
        |fr=>exact⟨E.1,λa d=>N3 a (E.2 a d)⟩
        |pu=>exact λa d=>(E a d).elim (λz=>.inl (N3 a z)) (Um a)
        |bo=>exact λa d=>(E a d).elim (λz=>.inl (N3 a z)) λz=>z.elim (λz=>(Um a z).imp id .inl) λz=>.inr (.inr (VC a z))) λhm a d hb=>?_
        subst hm;have:=(rp.same (g.trans f)).Kd a d;rw[(E.2 a hb)]at this;exact this
       ·rw[ZI,← ev,← e7'];rfl
     cases cond with
     |none =>
      cases (eb);exact Px H2 (aI.refl H2)
     |some c =>
      obtain⟨⟨mc,xc⟩,ec1,Tv⟩:=Zz.mp eb;exact⟨P,U3,mc,xc,b,s3,ec1,Tv,λS f=>Px S f⟩
  ·cases e2
 ·cases e1
end
section
def gg{X:Cx}(k:Nat)(N:List Str)(l:X.calm=J)(b:PVI G X tg iter ci)(f:pf k g)(d:∀cl C s H fp,OJ G (bq X N sc cl C s H fp) tg g)(he:∀cl C s H fp,PV G (bq X N sc cl C s H fp) elt ce)(m:{`q2,iO X.env sc=J})(e:{`q2,kh sc (N.drop k) X.N=J})(j:{`q1,k<=N.length})(a:{`q3,∀x,XAB iter X.env x=pure x}) :
  PV G X (.ListComp elt [⟨tg,iter,[],0⟩] sc pos) (bD k g ci L ce) :=
 PE.weak (nY l b m e j (λcl C s H fp=>⟨d cl C s H fp,jK,he cl C s H fp⟩) a) λM H Q h=>lK f h
def mH{X:Cx}(k:Nat)(N:List Str)(m:X.calm=J)(b:PVI G X tg iter ci)(j:pf k g)(d:∀cl C s H fp,OJ G (bq X N sc cl C s H fp) tg g)(e:∀cl C s H fp,LY G (bq X N sc cl C s H fp) c cc)(he:∀cl C s H fp,PV G (bq X N sc cl C s H fp) elt ce)(n:{`q2,iO X.env sc=J})(f:{`q2,kh sc (N.drop k) X.N=J})(l:{`q1,k<=N.length})(a:{`q3,∀x,XAB iter X.env x=pure x}) :
  PV G X (.ListComp elt [⟨tg,iter,[c],0⟩] sc pos) (bD k g ci (Z cc) ce) :=
 PE.weak (nY m b n f l (λcl C s H fp=>⟨d cl C s H fp,uS (e cl C s H fp),he cl C s H fp⟩) a) λM H Q h=>lK j h
def GN(h:tS G (iw i a) D M H):tE G a M H λv q=>D.nx (M.set i (Z v)) q:=by
 refine L2.iq λu j=>?_;obtain⟨O,U,o,s,e,k⟩:=h;obtain⟨⟨m,t⟩,p,e1⟩:=Zz.mp e;obtain⟨c,eC,e2⟩:=Zz.mp e1;refine j ?_;split at e2
 ·rename_i l;cases e2;refine⟨O,U,m,t,s,p,λv r F e3 b n=>?_⟩;obtain⟨f,d⟩:=s.val (c:=c) l e3 b n (by
   unfold cellOf at eC;cases m with
   |fr =>
    simp only[Option.some.injEq]at eC;split at eC
    ·exact .inr ⟨eC.symm,rfl⟩
    ·exact .inl ⟨eC.symm,by decide⟩
   |pu=>cases eC;exact .inl ⟨rfl,by decide⟩
   |bo=>cases eC)
  exact k _ _ r f d
 ·cases e2
def xH(h:tS G (aN i a) D M H):tE G a M H λv r=>D.nx (M.set i (Z v)) r:=by
 refine L2.iq λw j=>?_;obtain⟨O,U,o,s,e,k⟩:=h;obtain⟨⟨m,t⟩,q,e1⟩:=Zz.mp e;refine j ?_;split at e1
 ·cases e1
 ·rename_i l;split at e1
  ·rename_i n;cases e1;refine⟨O,U,m,t,s,q,λv u F e3 b p=>?_⟩;obtain⟨f,d⟩:=s.val n e3 b p (.inl ⟨rfl,l⟩);exact k _ _ u f d
  ·cases e1
def AV{X:Cx}{LM:Pos}(k:Nat)(N:List Str)(l:∀D M H,tS G a D M H->tE G (bD k g ci L ce) M H λv w=>D.nx (M.set i (Z v)) w)(t:X.calm=J)(e:PVI G X tg iter ci)(q:pf k g)(f:∀cl C s H fp,OJ G (bq X N sc cl C s H fp) tg g)(he:∀cl C s H fp,PV G (bq X N sc cl C s H fp) elt ce)(m:X.N.Nodup)(n:{`q2,X.N[i]?=Z x})(b:{`q6,Loc X.env.scope x})(u:{`q2,iO X.env sc=J})(o:{`q2,kh sc (N.drop k) X.N=J})(r:{`q1,k<=N.length})(p:{`q2,swapsWith (.ListComp elt [⟨tg,iter,[],0⟩] sc pos) (Z (.Name x pos')) LM.line X.env=pure J})(j:{`q7,X.fn x=J\/X.env.scope.names.lookup x=Z .local})(d:{`q3,∀x,XAB iter X.env x=pure x}) :
  PSV G X (.Assign [.Name x pos'] (.ListComp elt [⟨tg,iter,[],0⟩] sc pos) LM) a :=
 PS.weak (kQ m n b t e u o r (λcl C s H fp=>⟨f cl C s H fp,jK,he cl C s H fp⟩) p j d) λD M H h=>lK q (l D M H h)
def pO{X:Cx}{LM:Pos}(k:Nat)(N:List Str)(m:∀D M H,tS G a D M H->tE G (bD k g ci (Z cc) ce) M H λv y=>D.nx (M.set i (Z v)) y)(u:X.calm=J)(e:PVI G X tg iter ci)(r:pf k g)(f:∀cl C s H fp,OJ G (bq X N sc cl C s H fp) tg g)(l:∀cl C s H fp,LY G (bq X N sc cl C s H fp) c cc)(he:∀cl C s H fp,PV G (bq X N sc cl C s H fp) elt ce)(n:X.N.Nodup)(o:{`q2,X.N[i]?=Z x})(b:{`q6,Loc X.env.scope x})(w:{`q2,iO X.env sc=J})(p:{`q2,kh sc (N.drop k) X.N=J})(t:{`q1,k<=N.length})(q:{`q2,swapsWith (.ListComp elt [⟨tg,iter,[c],0⟩] sc pos) (Z (.Name x pos')) LM.line X.env=pure J})(j:{`q7,X.fn x=J\/X.env.scope.names.lookup x=Z .local})(d:{`q3,∀x,XAB iter X.env x=pure x}) :
  PSV G X (.Assign [.Name x pos'] (.ListComp elt [⟨tg,iter,[c],0⟩] sc pos) LM) a :=
 PS.weak (kQ n o b u e w p t (λcl C s H fp=>⟨f cl C s H fp,uS (l cl C s H fp),he cl C s H fp⟩) q j d) λD M H h=>lK r (m D M H h)
end
end VS
end
section
namespace L2
open PySem PySem.Spec PyProof.Rows
def Ite(K:X3)(a:On):It :=
 ⟨λi H=>∃b x,Kb K H a b/\b[i]?=Z x,λi H v d=>∃p x,H p=L/\v=.ref p/\d=upd H p (.tup [.int i,x])/\∀b,Kb K H a b->b[i]?=Z x,λi H=>∃b,Kb K H a b/\b.length<=i⟩
def yA{K:X3}(a e f:On)(Lh:e≠f):Turn P w K (.Tuple O n U) (Ite K a) [e,f] e (λi h=>(∃old,IsEnum h e f i old)/\h.IsListIter f a i) where
 mem:=by simp
 obj:=λi h st b hb=>by
  obtain⟨⟨old,he⟩,o,ho,c,d⟩:=st;rcases Zo.mp hb with rfl | hb
  ·exact⟨_,he,λv z=>by cases (z)⟩
  ·rw[Zj.mp hb];exact⟨o,ho,λv z=>by rw[d]at z;cases z⟩
 keep:=λi h h' st k=>⟨let ⟨old,he⟩:=st.1;⟨old,k e (by simp) _ he⟩,st.2.at λo x=>k f (by simp) o x⟩
 item:=by
  intro X hP hw hK hc i g s M H E I l st hg;subst hP hw hK;obtain⟨xs,x,R,hx⟩:=hg;obtain⟨p0,S,p,hz⟩:=I.list R;obtain⟨u,hu,ru⟩:=S.get hx;obtain⟨⟨old,he⟩,hit⟩:=st;refine wpAny_pyNext_enum_item he hit p.isList (x:=u) (by simpa using hu) Lh λh1 ho D hT hsz hk=>⟨_,rfl,?_⟩
  refine wpAny_letOwnedTupleGo_enum ho λh2 S7 Q=>?_;have Q:=Q;have A:=ZY he;have G:=I.JZ.fresh (Zk _);have C:∀b o,b∉[e,f]->s.heap.get? b=Z o->h2.get? b=Z o:=λb o hb q=>by
   have N:b≠e:=λz=>hb (by simp[z]);exact(Q.2 b N).trans (hk b o N (λz=>hb (by simp[z])) q)
  have F:=(Q.2 _ (XO A)).trans hT;have t:∀b o,H b=Z o->b∉[e,f]:=λb o q hb=>by rw[(l b hb).1]at q;cases q
  have up:∀b o,H b=Z o->upd H s.heap.objs.size (.tup [.int i,x]) b=Z o:=λb o q=>by rw[aw (aY q G)];exact q
  refine⟨.ref s.heap.objs.size,upd H s.heap.objs.size (.tup [.int i,x]),?_,rfl,⟨_,x,G,rfl,rfl,λys hy=>by rw[I.MA hy R];exact hx⟩,⟨⟨u,by simpa using S7⟩,D.at λo y=>(Q.2 f Lh.symm).trans y⟩,λb hb=>?_⟩
  ·show Inv X g M _ { s with heap:=h2,gens:=s.gens,drawn:=s.drawn,toks:=s.toks+1 };refine I.step (λb hb=>?_) (λb o _ _ j q _=>C b o j q) (λb o _ _ j q _=>⟨o.slots,C b o j q⟩) (λb o _ q r=>by rw[aw ((λb o q=>Zf (ZY q)) b o q)];exact r) (λb o j q=>⟨o,C b o j q⟩)
    (λb ys q=>up b _ q) (λb o v q=>up b _ q) (λb _ q=>up b _ q) (λm hm=>?_) (λb ob q=>by
   by_cases hb:b=s.heap.objs.size
   ·subst hb;rw[aq]at q;cases q;exact⟨by show 2<=KM;decide,[.int i s.toks,u],.cons ⟨_,rfl⟩ (.cons ru .nil),Pj.of F Y,⟨_,F,rfl,_,rfl⟩⟩
   ·rw[aw hb]at q;refine(I.JZ b ob q).Mh (λc v j r=>C c v ?_ r) (λc r=>up c _ r) (λc ys r=>up c _ r) λc _ _ r=>up c _ r;rcases j with z | z
    ·rw[z];exact t b ob q
    ·exact t c _ z) I.bare
   ·obtain⟨f0,f1,f2,f3,f4,f5⟩:=l b hb;exact⟨f3,f1,f4,f5⟩
   ·obtain⟨o,es,ep,MW,r⟩:=hm;refine⟨o,es,ep,C _ o (λz=>?_) MW,r⟩;exact(l _ z).2.1 Y
  ·have:b≠s.heap.objs.size:=by
    rcases Zo.mp hb with rfl | hb
    ·exact Zf A
    ·rw[Zj.mp hb];exact Zf (let ⟨_,z,_⟩:=hit;ZY z)
   rw[aw this];exact(l b hb).1
 done:=by
  intro X hP hw hK hc i g s M H E I l st hg;subst hP hw hK;obtain⟨xs,R,hx⟩:=hg;obtain⟨p0,S,p,hz⟩:=I.list R;obtain⟨⟨old,he⟩,hit⟩:=st;obtain⟨f0,f1,f2,f3,f4,f5⟩:=l f (by simp);have hl:=S.length;exact wpAny_pyNext_enum_end (I.ok.hd hc) he hit p.isList (by simp;lia) λh' eb=>⟨rfl,I.turned (λb o hb q=>eb b o hb q) f0 f1 f3 f4 f5⟩
 self:=λ_ _ _ _ _ st h=>let ⟨_,he⟩:=st.1;wpAny_pyIter_enum he h
section
def Jx(K:X3)(ta:TA):TI:=λM H R=>ta M H λe b=>∃l,e=[.ref l]/\(∃d,Kb K b l d)/\R (Ite K l) b
def Df(y:Gl X "enumerate")(w:X.mg "enumerate" = L)(z:PA X [a] ta)(u:{`q2,P3 [a] X.env=[(B,eval a X.env)]}):PI X (.Tuple f n A) (.Call (.Name "enumerate" p) [a] [] pos) (Jx X.K ta):=by
 intro d s M H R I h;refine Call_ (lh I y w boot_enumerate (XU (thn (z pos d s M H _ I h) λF s1 ⟨E,C,g,r1,m⟩=>?_) u Y));obtain⟨l,e,⟨D,v⟩,q⟩:=m;subst e;cases r1 with
 |cons r j =>
  cases j;cases r;obtain⟨N,G,o,O⟩:=g.list v;refine call_enumerate_list o.isList λP he hit t x=>?_;refine wpAny_pyIter_enum he ?_;refine⟨_,_,_,_,C,rfl,g.kept x,yA l (s1.heap.objs.size+1) s1.heap.objs.size (Nat.succ_ne_self _),⟨⟨_,he⟩,hit⟩,λb hb=>?_,q⟩;have i:s1.heap.objs.size<=b:=by
   rcases Zo.mp hb with rfl | hb
   ·exact YU _ _
   ·rw[Zj.mp hb];exact Zk _
  exact g.M0 i (g.JZ.fresh i)
end
end L2
namespace VS
open PySem PySem.Spec PyProof.Rows L2
section
theorem tj:∀(l:Vb)(k i:Nat){t:T},(fQ k l)[i]?=Z t->∃x,l[i]?=Z x/\t=.tup [.int ((k+i:Nat):Int),x]
 |[],_,_,_,h=>by simp[fQ]at h
 |x :: l,k,0,t,h=>by
  simp[fQ]at h;exact⟨x,rfl,by rw[← h];rfl⟩
 |x :: l,k,i+1,t,h=>by
  obtain⟨y,d,b⟩:=tj l (k+1) i (by simpa[fQ] using h);refine⟨y,by simpa using d,?_⟩;rw[b,show k+1+i=k+(i+1) by lia]
theorem qi:∀(l:Vb)(k:Nat),(fQ k l).length=l.length
 |[],_=>rfl
 |x :: l,k=>by simp[fQ,qi l (k+1)]
def CH{a:On}(K:X3)(j:H a=Z (.lst d))(r:RpL G H d e u):NA G (Ite K a) (fQ 0 e) (a :: u.flatten) H:=by
 refine⟨λs k c=>?_,λb hb=>?_⟩
 ·have f:=c a Zx _ j;refine⟨λi t h=>?_,λi h=>⟨d,Kb.of f,by rw[qi]at h;rw[r.len.1];exact h⟩⟩;obtain⟨y,w,m⟩:=tj e 0 i h;rw[WK]at m;obtain⟨v,F,l,E,D⟩:=(r.keep k λb hb o C=>c b (Zy _ hb) o C).get i w;refine⟨⟨d,v,Kb.of f,l⟩,λx M ⟨p,z,A,e1,e2,e3⟩=>?_⟩;subst e1 e2;have ex:=e3 d (Kb.of f);rw[l]at ex;cases ex;have g:aI s (upd s p (.tup [.int i,v])):=λb o q=>by rw[aw (aY q A)];exact q
  refine⟨g,F,?_,λb hb=>.inl (Zy _ (cE E hb))⟩;rw[m];have:F=([[],F]).flatten:=by simp
  rw[this];exact .tup aq (.cons (.int _) (.cons (D.same g) .nil))
 ·rcases Zo.mp hb with rfl | hb
  ·rw[j];exact λz=>nomatch z
  ·exact J8.JX (r.Kd b hb)
def jU(r:PV G X a ca)(q:Gl X "enumerate")(o:X.mg "enumerate" = L)(i:{`q2,K1 a [] X})(y:{`q2,P3 [a] X.env=[(B,eval a X.env)]}) :
  PVI G X (.Tuple elts n OR) (.Call (.Name "enumerate" p) [a] [] pos) (oY ca) :=
 PI.weak (Df q o (bW r dP i) y) λM H R j=>by
  obtain⟨O,U,m,l,s,e,k⟩:=j;obtain⟨⟨h,x⟩,u,e1⟩:=Zz.mp e;refine⟨O,U,h,x,s,u,λv z F e3 g t=>?_⟩;cases x with
  |lst A =>
   cases e1;obtain⟨w,d,C,rfl,rfl,b,f⟩:=g.lst_inv;exact⟨w,rfl,⟨d,Kb.of b⟩,k _ z _ e3 (CH X.K b f) t.c⟩
  |_=>cases e1
end
noncomputable instance {s:Tx}:Decidable (pT s):=inferInstanceAs (Decidable (_/\_))
section
def w_add(f:PV G X a ca)(d:PV G X b cb):PV G X (.BinOp a .Add b pos) (e2 bA ca cb):=nA j7 mM f d
def w_mul(f:PV G X a ca)(d:PV G X b cb):PV G X (.BinOp a .Mult b pos) (e2 iI ca cb):=nA GR GI f d
def w_mod(f:PV G X a ca)(d:PV G X b cb):PV G X (.BinOp a .Mod b pos) (e2 oMod ca cb):=nA Gd FT f d
def lO{X:Cx}(d:JY k X.A)(g:PV G X a ca)(f:PV G X b cb):LY G X (.Compare a [.Eq] [b] pos) (e2 oEq ca cb):=je (vq d.units) zx tells_eq g f (kH _)
def wZ{X:Cx}(d:JY k X.A)(g:PV G X a ca)(f:PV G X b cb):LY G X (.Compare a [.NotEq] [b] pos) (e2 NF ca cb):=je (Fz d.units) IM Bt g f (kH _)
def aX(g:PV G X a ca)(f:PV G X b cb)(d:fH b:=by intro _ _;rfl)(i:{`q2,X.K=G.K}):PV G X (.Subscript a b pos) (e2 aC ca cb) :=
 PE.weak (lM kB g f d) λM H Q h=>by rw[i];exact mR vU h
def eQ{X:Cx}(d:X.mg "len" = L)(g:Lc G X [e] cs)(f:{`q2,Gl X "len"})(h:{`q2,X.K=G.K})(he:{`q2,K1 e [] X}):PV G X (.Call (.Name "len" p) [e] [] pos) (eN bO cs) :=
 jG (h ▸ za) Fe f d PySem.boot_len g (he:=he)
def GE:bootBuiltins ("max" : Str)=Z (.builtin "max"):=by decide +kernel
def BJ:bootBuiltins ("min" : Str)=Z (.builtin "min"):=by decide +kernel
def DO:bootBuiltins ("list" : Str)=Z (.type "list"):=by decide +kernel
noncomputable def Ry:Ty->Str
 |.int => "int" |.str => "str" |.bool => "bool" |.list => "list" |.tuple => "tuple" |.dict => "dict"
def Iu(t:Ty):bootBuiltins (Ry t)=Z (.type (NB t)):=by cases t<;>decide +kernel
def w_is{X:Cx}(t:Ty)(f:X.mg "isinstance" = L)(l:X.mg (Ry t)=L)(h:PV G X a ca)(g:{`q2,Gl X "isinstance"})(j:{`q2,Gl X (Ry t)})(i:{`q2,X.K=G.K})(d:{`q2,P3 [a,.Name (Ry t) p2] X.env=(B,eval a X.env) :: P3 [.Name (Ry t) p2] X.env}):PV G X (.Call (.Name "isinstance" p1) [a,.Name (Ry t) p2] [] pos) (PU t ca) :=
 IB t h g f j l (Iu t) i (by cases t<;>decide) (by cases t<;>decide) d Y Y
def jB{apos:Pos}(i:Nat)(j:Lc G X [e] cs)(n:{`q2,X.K=G.K})(m:{`q2,X.N[i]?=Z x})(d:{`q5,L6 X.env.scope x})(g:{`q1,K3 x})(o:{`q1,K4 x})(q:{`q2,((backTo pe (P3 [e] X.env)).all (λx=>!x.1)&&(backToKw pe (SL [] X.env)).all (λx=>x.1.isSome)
   && decide ([e].length+([]:List Keyword).length+(if ([]:List Keyword).isEmpty then 0 else 1)<30))=J})(s:{`q2,(apos.endLine==pe.line)=J})(f:{`q2,K1 e [] X}) :
  PSV G X (.Expr (.Call (.Attribute (.Name x p1) "append" apos) [e] [] pe) pos) (sX (pP i [] aJ cs)) :=
 Ai i Y7 Y4 Y3 fC iJ (λH v t F l z r h=>fK r h) j n m d g o Y q s f Y Y
end
structure FnAt(P:SB)(w:UV)(K:X3)(mg:Wi)(base:UF)(k:Nat)(x:Str)(ps:List Str)(G:Gx)(g:Fn):Prop where
 ex:∃f fd,FnOk P w K mg base KL k f fd ps (MK G g)/\mg x=some (.ref f)/\PySem.W.keepIn K (.ref f)=true/\Binds K fd ps []
section
def bS{X:Cx}(F:FnAt X.prog X.w X.K X.mg X.base k x ps G g)(a:JY k' X.A)(h:Lc G X (e :: es) cs)(b:{`q1,k<=k'})(d:{`q2,Gl X x})(n:{`q1,K3 x})(he:{`q2,K1 e es X})(o:{`q2,K2 pos es X}) :
  PV G X (.Call (.Name x p) (e :: es) [] pos) (aW g cs):=by
 obtain⟨f,fd,m,l,j,i⟩:=F.ex;exact Dp m (a.mono b) d l j i h n he o
end
section
variable{K:X3}
def ft(F:J4 K x x a f i)(m:mg x=Z (.ref f))(S:oe N b (ah a))(j:b.length=g)(l:N.length=h)(o:∀(kV doc pm:PP)(an:Option On)(d ct:PP)(e:Wa),e.length=b.length->bindArgs (PySem.W.fnOf x x (d5 a) (bg a) (ah a) .none kV doc pm an d ct) ⟨e,[]⟩=pure (b.zip e))(n:∀(d:PP)(A:SC)(outer:List PySem.Env)(s:KB)(H:Hp)(E:XK),JY k (A.deeper (envOfC x (ah a) s.heap.objs.size f d))->gq G (jC KL P w K mg base N x (ah a) f d A outer s H E).My (bg a) c) :
  FnAt P w K mg base (k+1) x b G (fn g h c) :=
 ⟨f,i,fnV F S j l n,m,F.kp,F.binds o⟩
end
end VS
end
section
namespace L2
open PySem PySem.Spec PyProof.Rows
noncomputable def Ms(x:Str):It:=⟨λi _=>i<x.cps.size,λi H v a=>a=H/\∃c,x.cps[i]?=Z c/\v=.str ⟨#[c]⟩,λi _=>x.cps.size<=i⟩
def qd{K:X3}(x:Str)(t:Tok)(a:On)(f:String)(U:["enumerate", "zip", "dict_itemiterator", "dict_reverseitemiterator", "odict_iterator", "itertools.zip_longest", "itertools.pairwise"].contains f=B)(W:∀A:SC,A.handled=L->Walks P w A a [a] [a] x.cps.size (λi v=>∃c u,x.cps[i]?=Z c/\v=.str ⟨#[c]⟩ u) (λi h=>h.IsStrIter a f x t i))(j:∀(A:SC),A.handled=L->∀(i:Nat)(s:KB)(Q:Vt->KB->Prop)(E:Z0),s.heap.IsStrIter a f x t i->x.cps[i]?=L->(∀l,Heap.ExtBut a s.heap l->Q L { s with heap:=l })->Pi (KF P w) A (pyNext (.ref a)) Q E s)(SJ:∀(A:SC)(i:Nat)(s:KB)(Q:Z0)(E:Z0),s.heap.IsStrIter a f x t i->Q (.ref a) s->Pi (KF P w) A (pyIter (.ref a)) Q E s) :
  Turn P w K N (Ms x) [a] a (λi h=>h.IsStrIter a f x t i) where
 mem:=by simp
 obj:=λi h st b hb=>by
  rw[Zj.mp hb];obtain⟨o,e,c,d⟩:=st;exact⟨o,e,λv z=>by rw[d]at z;cases z⟩
 keep:=λi h l st k=>let ⟨o,e,r⟩:=st;⟨o,k a (by simp) o e,r⟩
 item:=by
  intro X p hw q n i g s M H E I m st hg;subst p hw q;obtain⟨F,f1,f2,D,C,y⟩:=m a (by simp);refine(W X.A (I.ok.hd n)).item i s _ _ hg st λv l tk S G O=>?_;obtain⟨c,u,Lf,rfl⟩:=S;obtain⟨o,e,c1,d⟩:=id G;exact⟨_,rfl,tY e c1 d U ⟨.str ⟨#[c]⟩,H,(I.turned (λb o hb e=>O b o (by simpa using hb) e) F f1 D C y),⟨u,rfl⟩,⟨rfl,c,Lf,rfl⟩,G,λb hb=>(m b hb).1⟩⟩
 done:=by
  intro X p hw q n i g s M H E I m st hg;subst p hw q;obtain⟨F,f1,f2,D,C,y⟩:=m a (by simp);have R:x.cps.size<=i:=hg;exact j X.A (I.ok.hd n) i s _ _ st (by simp[R]) λl Y=>⟨rfl,I.turned (λb o hb e=>Y b o hb e) F f1 D C y⟩
 self:=λA i s Q E st h=>SJ A i s Q E st h
def Ag{K:X3}(x:Str)(t:Tok)(a:On):Turn P w K g (Ms x) [a] a (λi h=>h.IsStrIter a (strIterType x) x t i):=by
 cases f:x.cps.all (· < 128)
 ·have e:strIterType x = "str_iterator" := by simp[strIterType,f]
  rw[e];exact qd x t a "str_iterator" rfl (λA b=>Walks.strWide b a x t) (λA b i s Q E st d q=>wpAny_pyNext_wide_end b st d q) λA i s Q E st q=>wpAny_pyIter_striter_wide st q
 ·have e:strIterType x = "str_ascii_iterator" := by simp[strIterType,f]
  rw[e];exact qd x t a "str_ascii_iterator" rfl (λA b=>Walks.strAscii b a x t) (λA b i s Q E st d q=>wpAny_pyNext_ascii_end b st d q) λA i s Q E st q=>wpAny_pyIter_striter_ascii st q
section
def Ip(K:X3)(f:TE):TI:=λM H R=>f M H λx d=>(∃a,x=.ref a/\(∃e,Kb K d a e)/\R (Itl K a) d)\/(∃a,x=.ref a/\(∃e,Li K d a e)/\R (Itt K a) d)\/∃z,x=.str z/\R (Ms z) d
def DX(y:PE X l tl):PI X tg l (Ip X.K tl):=by
 intro d s M H R I h;refine thn (y d s M H _ I h) λv s1 ⟨x,g,f,r1,r⟩=>?_;have j:∀b∈[s1.heap.objs.size],jq X d g b:=λb hb=>by
  rw[Zj.mp hb];exact f.M0 (Zk _) (f.JZ.fresh (Zk _))
 rcases r with⟨a,e,⟨m,i⟩,q⟩ | ⟨a,e,⟨m,i⟩,q⟩ | ⟨z,e,q⟩
 ·subst e;cases r1;obtain⟨u,n,p,w⟩:=f.list i;exact XG p.isList ⟨s1.heap.objs.size,[s1.heap.objs.size],_,_,g,rfl,f.kept λb o e=>Zm _ e,yu a _,⟨_,Zc _ Y,rfl,rfl⟩,j,q⟩
 ·subst e;cases r1;obtain⟨u,n,p,w⟩:=f.tuple i;exact wpAny_pyIter_tuple (p) ⟨s1.heap.objs.size,[s1.heap.objs.size],_,_,g,rfl,f.kept λb o e=>Zm _ e,vh a _,⟨_,Zc _ Y,rfl,rfl⟩,j,q⟩
 ·subst e;obtain⟨t,rfl⟩:=r1;exact wpAny_pyIter_strU ⟨s1.heap.objs.size,[s1.heap.objs.size],_,_,g,rfl,f.kept λb o e=>Zm _ e,Ag z t _,⟨_,Zc _ Y,rfl,rfl⟩,j,q⟩
def sD{s:KB}{d:UF}(g:∀b x,b∉[s.heap.objs.size]->(s.heap.push o).get? b=Z x->d.get? b=Z x)(b:On)(x:Obj)(e:s.heap.get? b=Z x):d.get? b=Z x :=
 g b x (λf=>YO _ (by have:=ZY e;rw[Zj.mp f]at this;exact this)) (Zm _ e)
def Bl{X:Cx}(C:X.calm=J):dA X (.builtin "all") (λo H Q=>∃p,∃bs:List Bool,o=[.ref p]/\Kb X.K H p (bs.map V.bl)/\Q (.bl (bs.all id)) H):=by
 intro r s M H o E Q I w h;obtain⟨p,bs,rfl,y,q⟩:=h;obtain⟨u,rfl,j⟩:=w.one;cases j;obtain⟨d,g,m,N⟩:=I.list y;refine call_all_walk (XG m.isList ⟨s.heap.objs.size,[s.heap.objs.size,p],[s.heap.objs.size],d.toArray.size,_,_,λi=>(bs[i]?).getD J,rfl,WR (A:=X.A.in1) (I.ok.hd C) _ p (Zf (by obtain⟨_,e,_⟩:=m.isList;exact ZY e)) d.toArray,
  ⟨⟨_,Zc _ Y,rfl,rfl⟩,m.isList.push _⟩,λi v G P R D t=>?_,λO F z=>⟨.bl (bs.all id),H,I.kept (sD z),?_,q⟩⟩)
 ·have f:d[i]?=Z v:=by simpa using D
  cases e:bs[i]? with
  |none =>
   have:=g.none_of (i:=i) (by rw[Zd,e];rfl);rw[this]at f;cases f
  |some n =>
   obtain⟨u,x,j⟩:=g.get (i:=i) (by rw[Zd,e];rfl);rw[x]at f;cases f;cases j;simp only[e,Xw]at t;exact YJ t
 ·have hlen:d.toArray.size=bs.length:=by have:=g.length;simp at this ⊢;exact Eq.symm this
  rw[hlen,LSm.range_all];rfl
def yK:OpR X (SZ .Gt) (λx y H Q=>∃i j,x=.str i/\y=.str j/\Q (.bl (decide (j.cps.toList<i.cps.toList))) H):=by
 intro d s M H x y v u Q I f e h;obtain⟨i,j,rfl,rfl,q⟩:=h;obtain⟨t,rfl⟩:=f;obtain⟨g,rfl⟩:=e;exact PySem.P.gt_str ⟨.bl _,H,I,rfl,q⟩
end
end L2
end
section
namespace VS
open PySem PySem.Spec PyProof.Rows L2
section
def Ga(H:Hp)(s:Tx)(l:pT s):NA G (L2.Ms (sx s)) (s.map λc=>T.str [c]) [] H:=by
 have sz:(sx s).cps.size=s.length:=rfl;refine⟨λo _ _=>⟨λi t h=>?_,λi h=>(by rw[Zt]at h;show (sx s).cps.size<=i;lia)⟩,λa h=>by simp at h⟩;rw[Zd]at h;obtain⟨c,f,rfl⟩:=Zw.mp h;refine⟨(by show i<(sx s).cps.size;have:=(Ze.mp f).1;lia),λx n ⟨e1,g,j,e2⟩=>?_⟩;subst e1;have:g=c:=by
  have m:(sx s).cps[i]?=Z c:=by simp[sx,f]
  rw[m]at j;exact(Zh j).symm
 subst this;rw[e2];exact⟨aI.refl _,[],.str [g] ⟨(by show 1<=fq;decide),λd hd=>by rw[Zj.mp hd];exact l.2 g (Z5 f)⟩,λa h=>by simp at h⟩
def bw(u:PV G X a ca)(A:{`q2,X.K=G.K}):PVI G X tg a (cA ca) :=
 PI.weak (DX u) λM H R t=>by
  obtain⟨O,U,m,l,s,e,k⟩:=t;obtain⟨⟨r,x⟩,w,e1⟩:=Zz.mp e;refine⟨O,U,r,x,s,w,λv f F e3 j o=>?_⟩;cases x with
  |lst q =>
   cases e1;obtain⟨n,g,y,rfl,rfl,d,i⟩:=j.lst_inv;exact .inl ⟨n,rfl,⟨g,Kb.of d⟩,k _ f _ e3 (CV X.K d i) o.c⟩
  |tup q =>
   cases e1;obtain⟨n,g,y,rfl,rfl,d,i⟩:=j.KA;exact .inr (.inl ⟨n,rfl,⟨g,Li.of d⟩,k _ f _ e3 (FX X.K d i) o.c⟩)
  |str z =>
   cases e1;obtain⟨rfl,ok⟩:=j.str_inv;exact .inr (.inr ⟨_,rfl,k _ f [] e3 (Ga f z ok) λa h=>by simp at h⟩)
  |_=>cases e1
theorem l7:∀{d:List V}{l:Vb}{g:Xy}{f:Vg},RpL G H d l g->jh l=Z f->d=f.map V.int
 |_,_,_,_,.nil,e=>by cases e;rfl
 |_,_,_,_,.cons (t:=t) r q,e=>by
  cases t with
  |int s =>
   obtain⟨h,e1,e2⟩:=Zw.mp e;subst e2;rw[l7 q e1,r.int_inv];rfl
  |_=>cases e
theorem u9:∀{d:List V}{l:Vb}{g:Xy}{f:List Bool},RpL G H d l g->mL l=Z f->d=f.map V.bl
 |_,_,_,_,.nil,e=>by cases e;rfl
 |_,_,_,_,.cons (t:=t) r q,e=>by
  cases t with
  |bl s =>
   obtain⟨h,e1,e2⟩:=Zw.mp e;subst e2;rw[u9 q e1,r.KJ];rfl
  |_=>cases e
def Ho:fz G (λd H Q=>∃p,∃bs:List Bool,d=[.ref p]/\Kb G.K H p (bs.map V.bl)/\Q (.bl (bs.all id)) H) Cs:=by
 intro O U q H l n r m t Q A e k;unfold Cs at e;split at e
 ·rename_i o x;obtain⟨h,e1,e2⟩:=Zz.mp e;cases e2;obtain⟨v,F,rfl,rfl,f⟩:=(A.rp).one;obtain⟨a,j,Gs,rfl,rfl,i,g⟩:=f.lst_inv;exact⟨a,h,rfl,by rw[← u9 g e1];exact Kb.of i,bj k (.bl _)⟩
 ·cases e
def Ha:bootBuiltins ("all" : Str)=Z (.builtin "all"):=by decide +kernel
def B2:bootBuiltins ("tuple" : Str)=Z (.type "tuple"):=by decide +kernel
def w_all{X:Cx}(d:X.mg "all" = L)(h:Lc G X [e] cs)(f:{`q2,Gl X "all"})(i:{`q2,X.K=G.K})(g:{`q2,X.calm=J})(he:{`q2,K1 e [] X}):PV G X (.Call (.Name "all" p) [e] [] pos) (eN Cs cs) :=
 jG (Bl g) (i ▸ Ho) f d Ha h (he:=he)
def Bu:fz G (λg H Q=>∃p d,g=[.ref p]/\((Kb G.K H p d/\∀l,H l=L->Q (.ref l) (upd H l (.tup d)))\/(Li G.K H p d/\Q (.ref p) H))) lZ:=by
 intro O U w H l o y m t Q A e k;unfold lZ at e;split at e
 ·rename_i s x;split at e
  ·rename_i u;cases e;obtain⟨v,F,rfl,rfl,h⟩:=(A.rp).one;obtain⟨a,d,Gs,rfl,rfl,n,i⟩:=h.lst_inv;refine⟨a,d,rfl,.inl ⟨Kb.of n,λq j=>?_⟩⟩;have f:aI H (upd H q (.tup d)):=bB j;have r:Rp G (upd H q (.tup d)) (.ref q) (.tup x) Gs.flatten:=.tup aq (i.same f);exact k _ _ _ f r (((A.fp.each 0 _ _ Y Y).sub (Yd _ _)).up r)
  ·cases e
 ·cases e
def Eb{X:Cx}(d:X.mg "tuple" = L)(g:Lc G X [e] cs)(f:{`q2,Gl X "tuple"})(h:{`q2,X.K=G.K})(he:{`q2,K1 e [] X}):PV G X (.Call (.Name "tuple" p) [e] [] pos) (eN lZ cs) :=
 j9 p5 (h ▸ Bu) f d B2 g (he:=he)
def rGt:R2:=λx y H Q=>ND (λi j=>.bl (decide (j<i))) x y H Q\/(∃i j,x=.str i/\y=.str j/\Q (.bl (decide (j.cps.toList<i.cps.toList))) H)
def E9(s t:Tx):decide ((sx s).cps.toList<(sx t).cps.toList)=LX s t:=by rw[iB];exact decide_eq_decide.mpr (by simp[sx])
def IT:fY G rGt N2:=by
 intro O U i H x y u w l j m t Q d e k;obtain⟨h,x⟩:=x;obtain⟨g,y⟩:=y;obtain⟨same,r1,r2,f1,f2,nd⟩:=d;unfold N2 oLt at e;split at e
 ·rename_i e1 e2;cases e1;cases e2;cases e;exact .inl ⟨_,_,r1.int_inv,r2.int_inv,bj k (.bl _)⟩
 ·rename_i s _ f e1 e2;cases e1;cases e2;cases e;refine .inr ⟨_,_,r1.str_inv.1,r2.str_inv.1,?_⟩;rw[E9];exact bj k (.bl _)
 ·cases e
def Ba:Tells N2:=λx y m t e=>jr y x m t e
def AL(f:PV G X a ca)(d:PV G X b cb):LY G X (.Compare a [.Gt] [b] pos) (e2 N2 ca cb):=je (IW.or yK) IT Ba f d (kH _)
def tu(R:fY G r f)(n:fY G A g)(h:tE G (i9 f g ca cb cc) M H Q):zU r A (tE G ca) (tE G cb) (tE G cc) M H Q:=by
 obtain⟨O,U,m,t,s,e,k⟩:=h;obtain⟨x,ea,e⟩:=Zz.mp e;obtain⟨y,eb,e⟩:=Zz.mp e;obtain⟨⟨S,z⟩,ez,e⟩:=Zz.mp e;refine Ac s ea eb λu w H2 F1 C d=>R O U H H2 x y u w F1 C S z _ d ez λv H3 F e1 r1 f1=>?_;cases z with
 |bl q =>
  refine⟨q,r1.KJ,?_⟩;cases q with
  |false =>
   cases e;rw[Zn ZX];exact k _ H3 [] (d.same.trans e1) (.bl B) Fp.nil
  |true =>
   rw[Zp Y];obtain⟨l,ec,e⟩:=Zz.mp (e);have i:=d.same.trans e1;refine⟨O,U,l.1,l.2,s.same i,ec,λD H4 F4 o P j=>?_⟩;refine n O U H H4 y l w D C F4 m t Q ⟨i.trans o,(d.r2.same e1).same o,P,d.f2,j.back i,λhx hy=>?_⟩ e λE H5 F5 e5 N f5=>k E H5 F5 ((i.trans o).trans e5) N f5;have f2:=d.f2;rw[hx]at f2;rw[hy]at j;refine ZL.mpr ⟨f2.1,j.1,λa ha b hb z=>?_⟩;subst z;exact J8.JX ((d.r2.same e1).Kd a ha) (j.2 a hb)
 |_=>cases e
end
end VS
end
section
namespace L2
open PySem PySem.Spec PyProof.Rows
section
def yp{α:Type}(l:List α)(n:Nat):∀acc:List α,List.foldl (λa x2=>a++x2) acc.toArray (List.replicate n l.toArray)=(acc++(List.replicate n l).flatten).toArray:=by
 induction n with
 |zero=>intro acc;simp
 |succ n b =>
  intro acc;rw[XE,YD];have e:acc.toArray++l.toArray=(acc++l).toArray:=by simp
  rw[e,b (acc++l),XE,ZK,ZI]
def DT:OpR X (binaryOp .Mult) (λx y H Q=>∃(l:Vh)(k:Int),x=.str ⟨l.toArray⟩/\y=.int k/\-(2 ^ 62)<=k/\k<2 ^ 62/\l.length*k.toNat<=KM/\Q (.str ⟨(List.replicate k.toNat l).flatten.toArray⟩) H):=by
 intro f s M H x y v u Q I i g h;obtain⟨l,k,rfl,rfl,r,p,b,q⟩:=h;obtain⟨t,rfl⟩:=i;obtain⟨o,rfl⟩:=g;have hlen:(⟨l.toArray⟩:Str).length=l.length:=rfl;refine PySem.P.mul_str ?_ ?_ ?_ ?_
 ·rw[Bool.or_eq_false_iff];exact⟨ZN (by lia),ZN (by lia)⟩
 ·intro d _ m;rw[hlen]at m;have:(l.length:Int)*k<=16777216:=by
   have j:l.length*k.toNat<=16777216:=b;have:((l.length*k.toNat:Nat):Int)<=16777216:=by lia
   rw[Int.natCast_mul]at this
   rwa [Int.toNat_of_nonneg (by lia)]at this
  have n:(l.length:Int)*k<=2 ^ 63-1:=by lia
  have:=(Int.le_ediv_iff_mul_le (by lia)).mpr n;lia
 ·intro _ _;rw[hlen];exact ZN (by exact Nat.not_lt.mpr b)
 ·by_cases d:k<1
  ·rw[Zp d];have e:k.toNat=0:=by lia
   rw[e]at q;exact⟨by decide,⟨.str ⟨#[]⟩,H,I.tok _,⟨_,rfl⟩,q⟩⟩
  ·rw[Zn d];split
   ·rename_i a;have e:(List.replicate k.toNat l).flatten=l:=by
     rw[WD]at a;rcases a with a | a
     ·have:k=1:=by simpa using a
      subst this;simp
     ·have:l=[]:=by
       rw[hlen]at a;exact List.eq_nil_of_length_eq_zero (by simpa using a)
      subst this;simp
    rw[e]at q;exact⟨.str ⟨l.toArray⟩,H,I,⟨t,rfl⟩,q⟩
   ·have e:=yp l k.toNat [];rw[YK]at e;rw[show (⟨l.toArray⟩:Str).cps=l.toArray from rfl,e];refine⟨?_,⟨.str ⟨(List.replicate k.toNat l).flatten.toArray⟩,H,I.tok _,⟨s.toks,rfl⟩,q⟩⟩;show (⟨(List.replicate k.toNat l).flatten.toArray⟩:Str).length<=KM;show ((List.replicate k.toNat l).flatten.toArray).size<=KM;rw[ZM,(len_rep l k.toNat),Nat.mul_comm];exact b
end
end L2
namespace VS
open PySem PySem.Spec PyProof.Rows L2
section
def C9:fY G (λx y H Q=>∃(l:Vh)(k:Int),x=.str ⟨l.toArray⟩/\y=.int k/\-(2 ^ 62)<=k/\k<2 ^ 62/\l.length*k.toNat<=KM/\Q (.str ⟨(List.replicate k.toNat l).flatten.toArray⟩) H) xX:=by
 intro O U v H x y u w A z m t Q g e k;obtain⟨s,x⟩:=x;obtain⟨r,y⟩:=y;obtain⟨same,r1,r2,f1,f2,nd⟩:=g;unfold xX at e;split at e
 ·rename_i _ h _ j e1 e2;cases e1;cases e2;split at e
  ·rename_i f;cases e;have o:=f.2.1;have n:=f.2.2;unfold NR at o n;refine⟨h,j,r1.str_inv.1,r2.int_inv,by lia,by lia,f.1,bj k (.str _ ⟨?_,λc q=>?_⟩)⟩
   ·rw[len_rep,Nat.mul_comm];exact f.1
   ·obtain⟨x,i,d⟩:=Vk.mp q;rw[(List.mem_replicate.mp i).2]at d;exact r1.str_inv.2.2 c d
  ·cases e
 ·cases e
def vm:PV G X (.Dict [] [] pos) (pZ 0 []):=PE.weak BQ λM H Q d=>by
 obtain⟨O,U,m,t,s,e,k⟩:=d;cases (e);intro q d;have:Rp G (upd H q (.dK [])) (.ref q) (.dct 0 ((([]).map aD).zip [])) (q :: ([]).flatten):=.dct aq Y .nil;exact k _ _ [q] (bB d) this ⟨by simp,λb hb=>by rw[Zj.mp hb];exact d⟩
end
section
def iL{X:Cx}(hp:PassesOwn (KF X.prog X.w) X.A X.env X.xe)(hc:LY G X c cc)(hb:gq G X h E):PSV G X (.While c h [] pos) (kF cc E) :=
 PS.weak (AW hp hc hb) λD M H hq=>by
  obtain⟨O,U,o,s,e,k⟩:=hq;refine⟨λn F N=>∃y r,SR G y r F N/\Kh O U H y r N/\dN cc E n r=Z o,⟨vw,O,U,s,Kh.refl O U H,e⟩,?_⟩;rintro n F N ⟨y,r,R,f2,e2⟩;cases n with
  |zero=>cases (e2)
  |succ n =>
   rw[dN]at e2;obtain⟨⟨mx,x⟩,ex,e3⟩:=Zz.mp e2;obtain⟨t,et,C⟩:=Zz.mp e3;refine⟨y,r,mx,x,t,R,ex,et,λH3 P=>?_⟩;have Q:=R.same P;have m:=f2.trans (Kh.same P);cases t with
   |false =>
    rw[Zn ZX]at C;cases C;show if B=J then _ else _
    rw[Zn ZX];exact k y F H3 Q m
   |true =>
    rw[Zp Y]at C;show if J=J then _ else _
    rw[Zp Y];obtain⟨S,e5,z⟩:=Zz.mp C;refine⟨λi g=>∃d f,SR G d f i g/\Kh O U H d f g/\dN cc E n f=Z o,λi g q=>⟨n,Z3 n,q⟩,y,r,S,Q,e5,?_⟩;cases S with
    |nx f=>exact λd i g j l=>⟨d,f,j,m.trans l,z⟩
    |ct f=>exact λd i g j l=>⟨d,f,j,m.trans l,z⟩
    |bk f =>
     cases (z);exact λd i g j l=>k d i g j (m.trans l)
    |rt v f =>
     cases (z);exact λu g F4 d i j l r5 q5=>k u g F4 d i j (m.trans l) r5 (q5.back m)
noncomputable def U8:Sx:=λ_=>L
def zD:PSV G X f U8:=λd s M H D I ⟨_,_,_,_,e,_⟩=>nomatch (e)
def dc(r:Rp G H v (.dct 0 l) F):∃(a:On)(ks:List Key)(d:List V)(f:Vb)(g:Xy),v=.ref a/\F=a :: g.flatten/\H a=Z (.dK (ks.zip d))/\ks.length=d.length/\l=(ks.map aD).zip f/\RpL G H d f g:=by
 cases r with
 |dct h i q=>exact⟨_,_,_,_,_,rfl,rfl,h,i,rfl,q⟩
def dB(r:Rp G H v t F)(h:fm t=J):∃k:Key,v=kV k/\t=aD k:=by
 cases t with
 |int i=>exact⟨.inl i,r.int_inv,rfl⟩
 |str s=>exact⟨.inr (sx s),r.str_inv.1,by simp[aD,sx]⟩
 |_=>cases h
theorem j4{k:Key}:∀{ks:List Key}{d:List V}{ts:Vb}{l:Xy},ks.length=d.length->RpL G H d ts l →
  (dn ((ks.map aD).zip ts) (aD k)=L/\cX (ks.zip d) k=L)\/∃(i:Nat)(v:V)(t:T)(F:Wc),dn ((ks.map aD).zip ts) (aD k)=Z t/\cX (ks.zip d) k=Z v/\d[i]?=Z v/\l[i]?=Z F/\Rp G H v t F
 |[],[],_,_,_,.nil=>.inl ⟨rfl,rfl⟩
 |k' :: ks,v :: d,_,_,o,.cons (t:=t) (F:=F) (ts:=ts) r q=>by
  have e:eqT (aD k') (aD k)=decide (k'=k):=by
   rw[Xq,decide_eq_true_eq];cases k with
   |inl i=>cases k'<;>simp[aD]
   |inr x =>
    obtain⟨⟨x⟩⟩:=x;cases k' with
    |inl j=>simp[aD]
    |inr y=>obtain⟨⟨y⟩⟩:=y;simp[aD]
  by_cases f:k'=k
  ·refine .inr ⟨0,v,t,F,?_,cJ f,rfl,rfl,r⟩;have g:eqT (aD k') (aD k)=J:=by rw[e];exact ZR f
   simp only[dn,Zg,ZQ,Z6,g];rfl
  ·have u:dn (((k' :: ks).map aD).zip (t :: ts)) (aD k)=dn ((ks.map aD).zip ts) (aD k):=by
    have g:eqT (aD k') (aD k)=B:=by rw[e];exact ZN f
    simp only[dn,Zg,ZQ,Z6,g]
   have s:cX ((k' :: ks).zip (v :: d)) k=cX (ks.zip d) k:=by simp[cX,f]
   rw[u,s];rcases j4 (k:=k) (by simpa using o) q with h | ⟨i,m,n,E,D,C,A,z,w⟩
   ·exact .inl h
   ·exact .inr ⟨i+1,m,n,E,D,C,by simpa using A,by simpa using z,w⟩
def sL{X:Cx}(m:X.A.units+1<cLine):LI X (λx y H Q=>∃a v,x=.ref a/\iN H a y (Z v)/\Q v H):=by
 intro value slice d s M H x y v u Q I l j h n;obtain⟨a,w,rfl,g,q⟩:=h;cases l;have f:=tV I g;refine Zv ?_;rw[getitemInPython_of_ne f.not_modules];refine Zv (wpAny_specialOf f PySem.F.slot_dict_getitem.lookup ?_);have fin:Pi (KF X.prog X.w) X.A (subscripted slice B (.ref a) u) (λr i=>Pi (KF X.prog X.w) X.A (letTemporaryGo value (.ref a) r >>= λ_=>pure r) (EP X d M Q) X.xe i) X.xe s:=by
  rw[n];exact wpAny_operating (yy m I g j λz C t o=>Zv (wpAny_letTemporaryGo (Zl ⟨w,H,t,o,q⟩)))
 first
  |exact Zl (Zv fin)
  |exact Zv (Zl (Zv fin))
  |exact Zv fin
def Ie(K:X3):R2:=λx y H Q=>VA K x y H Q\/∃a v,x=.ref a/\iN H a y (Z v)/\Q v H
def HY:fY G (Ie G.K) LN:=by
 intro O U C H x y u w E D m t Q d e k;obtain⟨g,x⟩:=x;by_cases hd:∃l,x=.dct 0 l
 ·obtain⟨l,rfl⟩:=hd;simp only[LN]at e;split at e
  ·rename_i j;obtain⟨P,e1,e2⟩:=Zw.mp e;obtain⟨a,ks,M,N,Fs,rfl,rfl,n,h,rfl,q⟩:=dc d.r1;obtain⟨R,rfl,r⟩:=dB d.r2 j;rw[r]at e1;rcases j4 h q with⟨o,_⟩ | ⟨i,v,t2,F,A,z,Y,s,f⟩
   ·rw[o]at e1;cases e1
   ·rw[A]at e1;cases e1;cases e2;refine .inr ⟨a,v,rfl,by rw[← z];exact iN.k n,?_⟩;exact k v H F (aI.refl _) f (((d.f1.sub (Yd _ _)).sub (bC s)).up f)
  ·cases e
 ·exact .inl (vU O U C H (g,x) y u w E D m t Q d (by
   simp only[LN]at e;split at e
   ·rename_i l S;exact absurd ⟨_,rfl⟩ hd
   ·exact e) k)
def tf{X:Cx}(f:JY k X.A)(i:PV G X a ca)(g:PV G X b cb)(d:fH b:=by intro _ _;rfl)(j:{`q2,X.K=G.K}):PV G X (.Subscript a b pos) (e2 LN ca cb) :=
 PE.weak (lM (LI.or kB (sL (j3 f))) i g d) λM H Q h=>by rw[j];exact mR HY h
def fV:T->V
 |.bl b=>.bl b
 |.int i=>.int i
 |.str s=>.str (sx s)
 |_=>.non
def Eh(r:Rp G H v t F)(h:flat t=J):v=fV t/\ip v=J:=by
 cases r with
 |non=>exact⟨rfl,rfl⟩
 |bl b=>exact⟨rfl,rfl⟩
 |int i=>exact⟨rfl,rfl⟩
 |str s d=>exact⟨rfl,rfl⟩
 |_=>cases h
theorem Je:∀{t u:T},flat t=J->flat u=J->OD (fV t) (fV u)=eqT t u
 |.non,.non,_,_=>rfl
 |.non,.bl _,_,_=>rfl
 |.non,.int _,_,_=>rfl
 |.non,.str _,_,_=>rfl
 |.bl _,.non,_,_=>rfl
 |.bl _,.bl _,_,_=>rfl
 |.bl _,.int _,_,_=>rfl
 |.bl _,.str _,_,_=>rfl
 |.int _,.non,_,_=>rfl
 |.int _,.bl _,_,_=>rfl
 |.int _,.int _,_,_=>rfl
 |.int _,.str _,_,_=>rfl
 |.str _,.non,_,_=>rfl
 |.str _,.bl _,_,_=>rfl
 |.str _,.int _,_,_=>rfl
 |.str _,.str _,_,_=>zV
def Be(r:Rp G H v t F)(g:Rp G H w u h)(f:flat t=J)(d:flat u=J):OD v w=eqT t u/\ip v=J/\ip w=J:=by
 obtain⟨e1,f1⟩:=Eh r f;obtain⟨e2,f2⟩:=Eh g d;refine⟨?_,f1,f2⟩;rw[e1,e2];exact Je f d
theorem rW(r:Rp G H x t F)(g:flat t=J):∀{d:List V}{f:Vb}{m:Xy},RpL G H d f m->f.all flat=J->d.all ip=J/\SF x d=f.any λy=>eqT y t
 |_,_,_,.nil,_=>⟨rfl,rfl⟩
 |_,_,_,.cons j q,h=>by
  rw[Xz,Z1]at h;obtain⟨l,i⟩:=rW r g q h.2;obtain⟨e1,e2,e3⟩:=Be j r h.1 g;refine⟨by rw[Xz,e2,l];rfl,?_⟩;unfold SF at i ⊢;rw[YH,YH,i,e1]
def JW(K:X3):R2:=λx y H Q=>Uk K B x y H Q\/∃a o,y=.ref a/\iN H a x o/\Q (.bl o.isSome) H
def Ee(K:X3):R2:=λx y H Q=>Uk K J x y H Q\/∃a o,y=.ref a/\iN H a x o/\Q (.bl (!o.isSome)) H
def wR{X:Cx}(j:X.A.units+1<cLine):OpR X (SZ .In) (λx y H Q=>∃a o,y=.ref a/\iN H a x o/\Q (.bl o.isSome) H):=by
 intro d s M H x y v u Q I i f h;obtain⟨a,o,rfl,g,q⟩:=h;cases f;exact JS j I g i λm l=>⟨.bl o.isSome,H,l,rfl,q⟩
def Bx{X:Cx}(j:X.A.units+1<cLine):OpR X (SZ .NotIn) (λx y H Q=>∃a o,y=.ref a/\iN H a x o/\Q (.bl (!o.isSome)) H):=by
 intro d s M H x y v u Q I i f h;obtain⟨a,o,rfl,g,q⟩:=h;cases f;exact Ea j I g i λm l=>⟨.bl (!o.isSome),H,l,rfl,q⟩
def tD(f:TR G O U M H x y u w P N)(e:kD x y=Z (m,t)) :
  ∃b,m=.fr/\t=.bl b/\((∃p n,w=.ref p/\(Kb G.K H p n\/Li G.K H p n)/\ip u=J/\n.all ip=J/\SF u n=b)\/∃a o,w=.ref a/\iN H a u o/\o.isSome=b):=by
 obtain⟨R,y⟩:=y;simp only[kD]at e;split at e
 ·split at e
  ·rename_i d;cases e;obtain⟨a,ks,g,Q,s,rfl,rfl,h,A,rfl,q⟩:=dc f.r2;obtain⟨z,rfl,C⟩:=dB f.r1 d;refine⟨_,rfl,rfl,.inr ⟨a,cX (ks.zip g) z,rfl,iN.k h,?_⟩⟩;rw[C];rcases j4 A q with⟨l,j⟩ | ⟨i,v,t2,F,E,D,_⟩
   ·rw[l,j];rfl
   ·rw[E,D];rfl
  ·cases e
 ·split at e
  ·rename_i d;cases e;rw[Z1]at d;obtain⟨a,g,s,rfl,rfl,h,r⟩:=f.r2.lst_inv;obtain⟨l,j⟩:=rW f.r1 d.1 r d.2;exact⟨_,rfl,rfl,.inl ⟨a,g,rfl,.inl (Kb.of h),((Be f.r1 f.r1 d.1 d.1).2.1),l,j⟩⟩
  ·cases e
 ·split at e
  ·rename_i d;cases e;rw[Z1]at d;obtain⟨a,g,s,rfl,rfl,h,r⟩:=f.r2.KA;obtain⟨l,j⟩:=rW f.r1 d.1 r d.2;exact⟨_,rfl,rfl,.inl ⟨a,g,rfl,.inr (Li.of h),((Be f.r1 f.r1 d.1 d.1).2.1),l,j⟩⟩
  ·cases e
 ·cases e
def Eg:fY G (JW G.K) kD:=by
 intro O U j H x y u w n l m t Q f e k;obtain⟨b,rfl,rfl,h⟩:=tD f e;rcases h with⟨p,d,rfl,i,f1,f2,hb⟩ | ⟨a,o,rfl,g,hb⟩
 ·refine .inl ⟨p,d,rfl,i,f1,f2,?_⟩;rw[hb];exact bj k (.bl b)
 ·refine .inr ⟨a,o,rfl,g,?_⟩;rw[hb];exact bj k (.bl b)
def FL:fY G (Ee G.K) bV:=by
 intro O U r H x y u w v s m t Q i e k;unfold bV at e;split at e
 ·rename_i q d l;cases e;obtain⟨b,rfl,n,h⟩:=tD i l;cases n;rcases h with⟨p,f,rfl,j,f1,f2,hb⟩ | ⟨a,o,rfl,g,hb⟩
  ·refine .inl ⟨p,f,rfl,j,f1,f2,?_⟩;rw[hb];exact bj k (.bl (!d))
  ·refine .inr ⟨a,o,rfl,g,?_⟩;rw[hb];exact bj k (.bl (!d))
 ·cases e
def BI:Tells kD:=by
 intro x y m t e;simp only[kD]at e;split at e
 all_goals first | (split at e<;>first | (cases e;exact⟨_,rfl⟩) | cases e) | cases e
def yR:Tells bV:=by
 intro x y m t e;unfold bV at e;split at e
 ·cases e;exact⟨_,rfl⟩
 ·cases e
def JH{X:Cx}(d:JY k X.A)(h:PV G X a ca)(g:PV G X b cb)(f:{`q4,behindInMarks .In b=B})(i:{`q2,X.K=G.K}):PV G X (.Compare a [.In] [b] pos) (e2 kD ca cb):=GO (qF.or (wR (j3 d))) (i ▸ Eg) h g f
def IJ{X:Cx}(d:JY k X.A)(h:PV G X a ca)(g:PV G X b cb)(f:{`q4,behindInMarks .In b=B})(i:{`q2,X.K=G.K}):LY G X (.Compare a [.In] [b] pos) (e2 kD ca cb):=je (qF.or (wR (j3 d))) (i ▸ Eg) BI h g f
def sA{X:Cx}(d:JY k X.A)(h:PV G X a ca)(g:PV G X b cb)(f:{`q4,behindInMarks .NotIn b=B})(i:{`q2,X.K=G.K}):LY G X (.Compare a [.NotIn] [b] pos) (e2 bV ca cb):=je (sT.or (Bx (j3 d))) (i ▸ FL) yR h g f
end
end VS
end
section
open PySem PyProof.Rows
namespace TS
variable{κ:SortKind}
def mid(h:a<b):a+(b-a)/2<b:=by omega
end TS
end
section
open PySem PyProof.Rows
namespace TS
def qG{a:Array Pv}(f:a.Perm (pairsOf e)):(a.map (·.2)).toList.Perm e/\(a.map (·.2)).toList.map (λv=>(v,v))=a.toList:=by
 have d:=Array.perm_iff_toList_perm.mp f;rw[pairsOf_toList]at d;constructor
 ·rw[Array.toList_map];refine(d.map _).trans ?_;rw[show (λx:Pv=>x.2)=Prod.snd from rfl,Vj (Zk _)]
 ·rw[Array.toList_map,ZD]
  conv=>rhs;rw[← List.map_id a.toList]
  apply YR;intro p b;have:=mem_zip_self (d.mem_iff.mp b);exact Prod.ext this.1.symm Y
def nl(h:b<n)(k:Nat):b≠n+k:=Zf (ZU h (YU _ _))
end TS
end
section
namespace L2
open PySem PySem.Spec PyProof.Rows TS
section
theorem sY:∀{a:Wa},(∀v∈a,∃x t,v=Value.str x t)->aQ ((a.map strOf).map V.str) a
 |[],_=>.nil
 |u :: a,h=>by
  obtain⟨x,t,rfl⟩:=h u (Zx ..);exact .cons ⟨t,rfl⟩ (sY λv b=>h v (Zy _ b))
end
end L2
end
section
namespace VS
mutual
theorem pw:∀(n:Nat)(t:T),KY n t=J->eqT t t=J
 |n,.non,_=>by simp
 |n,.bl _,_=>by simp
 |n,.int _,_=>by simp
 |n,.str _,_=>by simp
 |n+1,.tup l,h=>by
  exact mG n l (Za.mp h)
 |n+1,.lst l,h=>by
  exact mG n l (Za.mp h)
 |0,.tup _,h=>nomatch h
 |0,.lst _,h=>nomatch h
 |0,.scr _,h=>nomatch h
 |_+1,.scr _,h=>nomatch h
 |0,.dct _ _,h=>nomatch h
 |_+1,.dct _ _,h=>nomatch h
 |0,.obj _ _,h=>nomatch h
 |_+1,.obj _ _,h=>nomatch h
theorem mG:∀(n:Nat)(l:Vb),(∀t∈l,KY n t=J)->yt l l=J
 |_,[],_=>rfl
 |n,t :: r,h=>by
  exact ZZ.mpr ⟨pw n t (h t Zx),mG n r λu a=>h u (Zy _ a)⟩
end
def GB{α:Type}(l:List α)(a b:Option Int):(cut l a b).length<=l.length:=by
 unfold cut;simp only[Y1,Ym];omega
def CW{α:Type}(l:List α)(a b:Option Int){x:α}(h:x∈cut l a b):x∈l:=by
 exact List.mem_of_mem_drop (List.mem_of_mem_take h)
def Fg{α:Type}(l:List α)(k:Nat):cut l L (Z (k:Int))=l.take k:=by
 have h:¬((k:Int)<0):=by lia
 by_cases a:k<=l.length
 ·simp[cut,clip,h,YM a]
 ·rw[Y9 (by lia)];simp[cut,clip,h,Wp (XI a)]
def zE(h:b U=Z a)(d:g (trees a)=Z (.pu,t)):aW g b U=Z ((Md.pu).join (cL a),t):=by
 simp only[aW,h,Zr,d]
def dE(e:a U=Z (m,.lst l)):cA a U=Z (m,l):=by
 show (a U).bind Dw=_;rw[e];rfl
def bH{it:Ms}{m:Md}{l:Vb}(e:it U=Z (m,l))(h:okF m=J):fo b it a U=forL b a l U:=by
 unfold fo;rw[e];exact Zp h
def bf{g:Fn}{as:Ko}{U:Env}{a:Vd}(h:as U=Z a)(b:g (trees a)=Z (.fr,t)):aW g as U=Z (.fr,t):=by
 simp only[aW,h,Zr,b]
def aE{i:Nat}{e:Ex}{U:Env}{m:Md}{t:T}(h:e U=Z (m,t))(a:m ≠ .bo)(b:i<U.length):aN i e U=Z (.nx (U.set i (Z (.pu t)))):=by
 simp only[aN,h,Zr];cases m with
 |bo=>exact absurd Y a
 |_=>simp[b]
def rS(h:e U=Z (.fr,t))(a:oV t=J)(b:i<U.length):iw i e U=Z (.nx (U.set i (Z (.ow t)))):=by
 simp only[iw,h,Zr,cellOf,a,if_true,Zp b]
end VS
end
section
namespace VS
open PySem PySem.Spec PyProof.Rows L2
def Cm{a b c:Tx}(h:a<b)(d:¬c<b):a<c:=by
 by_cases e:a<c
 ·exact e
 ·exact absurd (List.lt_of_le_of_lt (W3.mp e) h) d
theorem kK(x:Tx):∀l:List Tx,(qx x l).Perm (x :: l)
 |[]=>Xf _
 |y :: r=>by
  unfold qx;split
  ·exact((kK x r).cons y).trans (List.Perm.swap _ _ _)
  ·exact Xf _
theorem jy:∀l:List Tx,(gb l).Perm l
 |[]=>Xf _
 |x :: l=>(kK x _).trans ((jy l).cons x)
theorem uy(x:Tx):∀{l:List Tx},l.Pairwise (λa b=>¬b<a)->(qx x l).Pairwise (λa b=>¬b<a)
 |[],_=>List.pairwise_singleton _ _
 |y :: r,h=>by
  unfold qx;rw[iB];obtain⟨e,g⟩:=Xv.mp h;split
  ·rename_i c;refine Xv.mpr ⟨λz d=>?_,uy x g⟩;rcases Zo.mp ((kK x r).mem_iff.mp d) with rfl | d
   ·exact λz=>X9 _ (List.lt_trans (by simpa using c) z)
   ·exact e z d
  ·rename_i c;have f:¬y<x:=by simpa using c
   refine Xv.mpr ⟨λz d=>?_,h⟩;rcases Zo.mp d with rfl | d
   ·exact f
   ·exact λw=>e z d (Cm w f)
theorem qM:∀l:List Tx,(gb l).Pairwise (λa b=>¬b<a)
 |[]=>List.Pairwise.nil
 |x :: l=>uy x (qM l)
def ql{d:List Tx}(h:d.Perm l)(e:d.Pairwise (λa b=>¬b<a)):d=gb l :=
 List.Perm.eq_of_pairwise (λa b _ _ g f=>List.le_antisymm (W3.mp g) (W3.mp f)) e (qM l) (h.trans (jy l).symm)
def B0(s:Tx):(sx s).cps.toList=s:=rfl
def zJ{f:List Tx}{d:List Str}(h:d.Perm (f.map sx))(i:d.Pairwise (λa b=>¬b.cps.toList<a.cps.toList)):d=(gb f).map sx:=by
 have e:d=(d.map λx=>x.cps.toList).map sx:=by
  rw[ZD]
  conv=>lhs;rw[← List.map_id d]
  apply YR;intro x g;obtain⟨s,_,rfl⟩:=ZV.mp (h.mem_iff.mp g);show sx s=sx (sx s).cps.toList;rw[B0]
 have e2:(d.map λx=>x.cps.toList)=gb f:=by
  refine ql ?_ ?_
  ·have:=h.map λx:Str=>x.cps.toList;rw[ZD]at this;have e3:((λx:Str=>x.cps.toList) ∘ sx)=id:=by
    funext s;exact B0 s
   rw[e3,List.map_id]at this;exact this
  ·rw[WV];exact i
 rw[e,e2]
def P9(s:Tx):Bool:=decide (s.length<=fq)&&s.all (λc=>decide (c<1114112))
def Ce(h:P9 s=J):pT s:=by
 unfold P9 at h;simp at h;exact h
section
theorem vT{H:Hp}:∀{ss:List Tx},(∀s∈ss,pT s)->RpL G H (ss.map λs=>V.str (sx s)) (ss.map T.str) (ss.map λ_=>[])
 |[],_=>.nil
 |s :: ss,h=>.cons (.str s (h s (Zx ..))) (vT λx a=>h x (Zy _ a))
theorem oT{α β:Type}:∀(l:List α),(l.map λ_=>([]:List β)).flatten=[]
 |[]=>rfl
 |_ :: l=>by simp
def AQ{G:Gx}{O:J5}{U:VS.Env}{i H:Hp}{d:List Tx}{Q:VK}(k:∀v g F,aI H g->Rp G g v (.lst ((gb d).map T.str)) F->Fp O U i .fr F->Q v g)(m:aI i H)(j:∀s∈d,pT s) :
  ∀(l:On)(f:List Str),H l=L->f.Perm (d.map sx)->f.Pairwise (λa b=>¬b.cps.toList<a.cps.toList)->Q (.ref l) (upd H l (.lst (f.map V.str))):=λq f h o hw=>by
 rw[zJ o hw];have r:Rp G (upd H q (.lst (((gb d).map sx).map V.str))) (.ref q) (.lst ((gb d).map T.str)) (q :: ((gb d).map λ_=>[]).flatten):=.lst (by rw[aq,ZD];rfl) (vT (G:=G) (H:=upd H q (.lst (((gb d).map sx).map V.str))) λs n=>j s ((jy d).mem_iff.mp n));rw[oT]at r;exact k _ _ _ (bB h) r (Fp.new (m.free h) (by simp) Fp.nil)
theorem keys_str:∀{ks:List Key}{a:List Tx},strs? (ks.map aD)=Z a->ks=(a.map sx).map Sum.inr
 |[],_,e=>by cases e;rfl
 |.inl i :: ks,_,e=>by cases e
 |.inr x :: ks,a,e=>by
  obtain⟨b,e1,e2⟩:=Zw.mp (e);subst e2;rw[keys_str e1];simp[sx]
def qc:bootBuiltins ("sorted" : Str)=Z (.builtin "sorted"):=by decide +kernel
end
end VS
end
section
namespace ST
open PySem PySem.Spec PyProof.Rows
noncomputable def OG(w:UV):Bool:=w.params.followText "set-order"
def FH(t:SetTable)(n:Nat):(t.orStandIn n).led=t.led/\(t.plain=B->(t.orStandIn n).plain=B):=by
 unfold SetTable.orStandIn;by_cases a:t.fits n=J
 ·rw[Zp a];exact⟨rfl,λq=>q⟩
 ·rw[Zn a];exact⟨rfl,λ_=>rfl⟩
def D6(t:SetTable)(a:Array (Int×PP))(h:Int)(x:PP):(layNew t a h x).2.1.led=t.led/\(t.plain=B->(layNew t a h x).2.1.plain=B):=by
 unfold layNew;split
 ·exact FH _ _
 ·exact⟨rfl,λ_=>rfl⟩
def yH(t:SetTable)(b:Array (Int×PP))(n:Nat):(relayAll t b n).2.1.led=t.led/\(t.plain=B->(relayAll t b n).2.1.plain=B):=by
 unfold relayAll;cases a:t.relaid (b.map λy=>y.1) n with
 |none=>exact⟨rfl,λ_=>rfl⟩
 |some p =>
  obtain⟨d,ord⟩:=p;have e:d.led=t.led/\d.plain=t.plain:=by
   unfold SetTable.relaid SetTable.laid at a;cases f:SetTable.layClean (SetTable.sizeAbove n-1) (b.map λy=>y.1) with
   |none=>rw[f]at a;cases a
   |some o =>
    rw[f]at a;cases a;exact⟨rfl,rfl⟩
  dsimp only;split
  ·exact⟨e.1,λq=>by rw[e.2];exact q⟩
  ·exact⟨rfl,λ_=>rfl⟩
abbrev bare(w:UV):Obj:={ cls:=.type "set",dict:=L,data:=.set #[] 0 (.fresh 0 0 (!OG w)) }
def DY{s:KB}(v:PP){Q:Z0}(h:Q (.ref s.heap.objs.size) { s with heap:=s.heap.push (bare w) }) :
  codeAny (KF prog w) A (.call (.builtin "set.__new__") ⟨[.type "set",v],[]⟩) (wants Q E) s:=by
 refine codeAny_of_tree (Zv (Vv (F.newCall_set_1 v) (Zl ⟨YZ F.plain_set_new _,Yj F.entry_set_new ?_⟩)));rw[Z7 F.plain_set_new];have own:=sub_set_self;cases s;unfold Builtin.«set.__new__» Builtin.Frozenset.newClass
 wp_walk
 refine We (Zl ?_);exact Zv (wpAny_alloc (Zl (Zl h)))
end ST
end
section
namespace ST
open PySem PySem.Spec PyProof.Rows
def nV:Slot "set_iterator" "__next__" "set_iterator.__next__" := .of (owner := "set_iterator") (n := "__next__") (by rw[Vz,Wg];kernel_rfl) (by decide +kernel) (by decide +kernel)
 (by decide +kernel) (by first | exact .inl (by decide +kernel) | exact .inr (by decide +kernel)) (by rw[Vu];kernel_rfl)
def xm:Slot "set_iterator" "__iter__" "set_iterator.__iter__" := .of (owner := "set_iterator") (n := "__iter__") (by rw[Vz,Wg];kernel_rfl) (by decide +kernel) (by decide +kernel)
 (by decide +kernel) (by first | exact .inl (by decide +kernel) | exact .inr (by decide +kernel)) (by rw[Vu];kernel_rfl)
def Dt:entryFor table "set_iterator.__next__" = Z Builtin.«set_iterator.__next__» := entryFor_of_fast (by kernel_rfl)
def DK:entryFor table "set_iterator.__iter__" = Z Builtin.«dict_keyiterator.__iter__» := entryFor_alias (id' := "dict_keyiterator.__iter__") (by kernel_rfl) Y (by decide +kernel) (by kernel_rfl)
def Dz:entryFor table "set.__iter__" = Z Builtin.«frozenset.__iter__» := entryFor_alias (id' := "frozenset.__iter__") (by kernel_rfl) Y (by decide +kernel) (by kernel_rfl)
def DW(v:PP):argsOk "set_iterator.__next__" ⟨[v],[]⟩:=by kernel_rfl
def Dm(v:PP):argsOk "set_iterator.__iter__" ⟨[v],[]⟩:=by kernel_rfl
def wp_choose(b:n≠0)(h:∀i d,i<n->Q i { s with drawn:=d }):Pi (KF prog w) A (choose a n) Q E s:=λΓ p _=>by
 exact⟨b,h _ _ (Nat.mod_lt _ (YW b))⟩
theorem sj{α:Type}:∀(l:List α){i:Nat}(h:i<l.length),(l[i] :: l.eraseIdx i).Perm l
 |a :: l,0,_=>Xf _
 |a :: l,i+1,h=>((List.Perm.swap _ _ _).trans ((sj l (by simpa using h)).cons a))
def CM{α:Type}:∀(n:Nat)(a:List α)(s:KB)(Q:List α->KB->Prop),n=a.length->(∀b d,b.Perm a->Q b { s with drawn:=d })->Pi (KF prog w) A (drawOrder n a) Q E s:=by
 intro n
 induction n with
 |zero =>
  intro a s Q e h;cases a with
  |nil=>exact Zl (h [] s.drawn (Xf _))
  |cons x a=>exact absurd e (by simp)
 |succ n g =>
  intro a s Q e h;cases a with
  |nil=>exact absurd e (by simp)
  |cons x a =>
   refine Zv (wp_choose (by simp) λi d f=>?_);rw[Zu f];refine Zv (g _ _ _ (by rw[List.length_eraseIdx,Zp f];omega) λb l j=>Zl (h _ l ?_));exact(List.Perm.cons _ j).trans (sj _ f)
noncomputable abbrev O0(first:PP)(i:Nat)(a:On)(n b:Nat):Obj:={ cls:=.type "set_iterator",data:=.fields #[first,.int i 0,.ref a,.int n 0,.int b 0] }
def B9{t:SetTable}(h:t.fits n=J):¬((t.place.size != n||decide (t.fill > t.mask))=J):=by
 unfold SetTable.fits at h;simp at h;simp[h.1];exact h.2
def Bi{A:SC}{s:KB}(f:A.handled=L)(h:∀(a:UF)(x:On),(∀b o,s.heap.get? b=Z o->a.get? b=Z o)->(∃o,a.get? x=Z o/\o.cls=.type "StopIteration")->d (.ref x) { s with heap:=a }) :
  Pi (KF prog w) A (newExc (.type "StopIteration") [] >>= λe=>raiseNew e) Q d s:=by
 refine Zv (Zv (YA (Zv (Vv (by first | rfl | (rfl)) (YA ?_ (by size_fits)))) (by size_fits)));refine Zv (wpAny_handled ?_);rw[f];exact Zv (Zl (wpAny_throw (h _ _ (λb o e=>Zm _ (Zm _ e)) ⟨_,Zc _ Y,rfl⟩)))
def wu{A:SC}{s:KB}(i:s.heap.get? I=Z { cls:=.type "set_iterator",data:=.fields j })(h:Pi (KF prog w) A.in1 (Builtin.«set_iterator.__next__» ⟨[.ref I],[]⟩) (λf a=>∃v,f=.done (.ret v)/\Q (Z v) a) (λe a=>∃x,e=.ref x/\(∃o,a.heap.get? x=Z o/\o.cls=.type "StopIteration")/\Q L a) s) :
  Pi (KF prog w) A (pyNext (.ref I)) Q E s:=by
 have ty:s.TypeIs (.ref I) "set_iterator" := ⟨_,i,rfl⟩
 refine Zv (wpAny_attempt (wpAny_callSpecial?_slot ty nV (Xs nV ty Dt (YX h (λf a d=>?_) λe a he=>?_) (DW _))))
 ·obtain⟨v,rfl,q⟩:=d;exact⟨v,rfl,Zl q⟩
 ·obtain⟨x,rfl,⟨o,b,g⟩,q⟩:=he;exact Zv (wpAny_isInstance ⟨o,b,g⟩ isSubtype_stop (Zl q))
noncomputable abbrev vg(a:Array (Int×PP))(b:Nat)(t:SetTable):Obj:={ cls:=.type "set",dict:=L,data:=.set a b t }
def oS{A:SC}{s:KB}{q:Vh}(z:A.handled=L)(v:s.heap.get? a=Z (vg f m t))(r:t.fits f.size=J)(l:s.heap.get? I=Z (O0 (.ref p) i a f.size m))(y:s.heap.get? p=Z n)(C:n.data=.seq (q.map λ(k:Nat)=>rawInt k).toArray u)(G:∀j x,q[i]?=Z j->f[j]?=Z x->∀d,Heap.SameBut I s.heap d->d.get? I=Z (O0 (.ref p) (i+1) a f.size m)->Q (Z x.2) { s with heap:=d })(F:∀j,q[i]?=Z j->j<f.size)(D:q[i]?=L->∀d,(∀b o,b≠I->s.heap.get? b=Z o->d.get? b=Z o)->Q L { s with heap:=d }) :
  Pi (KF prog w) A (pyNext (.ref I)) Q E s:=by
 refine wu l ?_
 wp_walk
 rw[Zn (B9 r)];refine Zl (Zl ?_);rw[Zn (by simp)];refine Zv (XD y C ?_);dsimp only;rw[YF];cases g:q[i]? with
 |some j =>
  have e1:(q.map λ(k:Nat)=>rawInt k).toArray[i]?=Z (rawInt j):=by simp[g]
  rw[e1];refine Zv (Zv (Xk v Y r ?_));dsimp only;rw[YF,Zn (by simp)];rw[YF];cases h:f[j]? with
  |none=>rw[ZH (F j g)]at h;cases h
  |some x =>
   refine Zl (Zv (XZ l Y (by show 1<5;decide) (Zl ⟨_,rfl,G j x g h _ (Xa ..) ?_⟩)));exact Ys _ l Y
 |none =>
  have e1:(q.map λ(k:Nat)=>rawInt k).toArray[i]?=L:=by simp at g ⊢;exact g
  rw[e1];refine Zv (XZ l Y (by show 0<5;decide) (Zv (XZ (Ys (Obj.mapFields (·.setIfInBounds 0 (rawInt 0))) l Y) Y (by show 2<5;decide) (Bi z λd x kp h=>⟨x,rfl,h,D g d λb o hb e=>kp b o ?_⟩))));exact(Yz _ _ (Yy hb)).trans ((Yz _ _ (Yy hb)).trans e)
def j6{prog:SB}{w:UV}{A:SC}{s:KB}{I a:On}{i h m:Nat}{g:Array (Int×PP)}{t:SetTable}{r:Option (PP×Nat)}{Q:Vt->KB->Prop}(u:A.handled=L)(y:s.heap.get? a=Z (vg g h t))(v:t.fits g.size=J)(f:s.heap.get? I=Z (O0 (.int m 0) i a g.size h))(q:∀(Q:Option (PP×Nat)->KB->Prop)(E:Z0),Q r s->Pi (KF prog w) A.in1 (setNext a m i h) Q E s)(l:∀x nx,r=Z (x,nx)->∀d,Heap.SameBut I s.heap d->d.get? I=Z (O0 (.int nx 0) (i+1) a g.size h)->Q (Z x) { s with heap:=d })(j:r=L->∀d,(∀b o,b≠I->s.heap.get? b=Z o->d.get? b=Z o)->Q L { s with heap:=d }) :
  Pi (KF prog w) A (pyNext (.ref I)) Q E s:=by
 refine wu f ?_
 wp_walk
 rw[Zn (B9 v)];refine Zl (Zl ?_);rw[Zn (by simp)];refine Zv (q _ _ ?_)
 match r,l,j with
 |some (x,nx),l,_ =>
  have n:=Ys (Obj.mapFields (·.setIfInBounds 0 (rawInt nx))) f Y;exact Zv (XZ f Y (by show 0<5;decide) (Zv (XZ n Y (by show 1<5;decide) (Zl ⟨x,rfl,l x nx Y _ (Heap.SameBut.trans (Xa ..) (Xa ..)) (Ys (Obj.mapFields (·.setIfInBounds 1 (rawInt ((i:Int)+1)))) n Y)⟩))))
 |none,_,j =>
  refine Zv (XZ f Y (by show 2<5;decide) (Bi u λd x kp p=>⟨x,rfl,p,j Y d λb o hb e=>kp b o ?_⟩));exact(Yz _ _ (Yy hb)).trans e
theorem yh{α:Type}(f:Nat->Nat):∀(n k:Nat)(l:List α)(out:Array α),l.length=n->(pickOrder.go f n k l out).toList.Perm (out.toList++l)
 |0,k,l,out,h=>by
  cases l with
  |nil=>unfold pickOrder.go;simp
  |cons a l=>simp at h
 |n+1,k,l,out,h=>by
  have b:f k%l.length<l.length:=Nat.mod_lt _ (by lia);unfold pickOrder.go;rw[Zu b];refine(yh f n (k+1) _ _ (by rw[List.length_eraseIdx,Zp b];lia)).trans ?_;rw[Array.toList_push,ZI];exact List.Perm.append_left _ (sj l b)
def mU{α:Type}(f:Nat->Nat)(a:Array α):(pickOrder f a).toList.Perm a.toList:=by
 unfold pickOrder;simpa using yh f a.size 0 a.toList #[] Y
def wG{s:KB}(m:OG w=J)(j:s.heap.get? a=Z (vg b d t))(l:t.fits b.size=J)(Q:Option (PP×Nat)->KB->Prop)(E:Z0)(h:Q (((pickOrder (w.params.setOrder a d) b)[i]?).map λe=>(e.2,f)) s):Pi (KF prog w) A (setNext a f i d) Q E s:=by
 have g:∀(Q:Bool->KB->Prop),Q J s->Pi (KF prog w) A setsByText Q E s:=λQ q=>Zv (We (Zl (by show Q (OG w) s;rw[m];exact q)));refine Zv (Xk j Y l (Zv (g _ ?_)));rw[Zp Y,Zn (by simp)];refine Zv (Zv (Xk j Y l (Zv (g _ ?_))));rw[Zp Y];exact Zv (We (Zl (Zl h)))
end ST
end
section
namespace ST
open PySem PySem.Spec PyProof.Rows
noncomputable abbrev Gs:Array GenState->Array GenState->Prop:=λa b=>b=a
def su{j:Array (Int×PP)}{t:SetTable}{m:Wa}(first:Nat->PP)(d:UF->Prop)(y:I∈r)(D:a∈r)(F:a≠I)(x:∀h f:UF,d h->(∀b∈r,b≠I->∀o,h.get? b=Z o->f.get? b=Z o)->d f)(step:∀(i:Nat)(s:KB)(Q:Vt->KB->Prop)(E:Z0),i<j.size->s.heap.get? a=Z (vg j l t)->s.heap.get? I=Z (O0 (first i) i a j.size l)->d s.heap →
   (∀v f,m[i]?=Z v->Heap.SameBut I s.heap f->f.get? I=Z (O0 (first (i+1)) (i+1) a j.size l)->Q (Z v) { s with heap:=f })->Pi (KF prog w) A (pyNext (.ref I)) Q E s)(stop:∀(s:KB)(Q:Vt->KB->Prop)(E:Z0),s.heap.get? a=Z (vg j l t)->s.heap.get? I=Z (O0 (first j.size) j.size a j.size l)->d s.heap →
   (∀f,(∀b o,b≠I->s.heap.get? b=Z o->f.get? b=Z o)->Q L { s with heap:=f })->Pi (KF prog w) A (pyNext (.ref I)) Q E s) :
  WalksS prog w A I r [I] Gs j.size (λi v=>m[i]?=Z v) (λi s=>s.heap.get? a=Z (vg j l t)/\s.heap.get? I=Z (O0 (first i) i a j.size l)/\d s.heap) where
 sub:=λb hb=>by rw[Zj.mp hb];exact y
 grefl:=λ_=>rfl
 gtrans:=λ_ _ _ p q=>q.trans p
 frame:=λi s f G st _ kp=>⟨kp a D _ st.1,kp I y _ st.2.1,x _ _ st.2.2 λb hb _ o e=>kp b hb o e⟩
 item:=λi s Q E C st n=>step i s Q E C st.1 st.2.1 st.2.2 λv f z u g=>n v _ z ⟨(u.2 a F).trans st.1,g,x _ _ st.2.2 λb _ hb o e=>(u.2 b hb).trans e⟩ ⟨λb o hb e=>(u.2 b λq=>hb (by rw[q];exact Zj.mpr Y)).trans e,rfl,rfl,rfl,Zk _⟩
 done:=λs Q E st n=>stop s Q E st.1 st.2.1 st.2.2 λf kp=>n _ ⟨λb o hb e=>kp b o (λq=>hb (by rw[q];exact Zj.mpr Y)) e,rfl,rfl,rfl,Zk _⟩
 self:=λi s Q E st n=>WH ⟨_,st.2.1,rfl⟩ xm (Xs xm ⟨_,st.2.1,rfl⟩ DK (Zl ⟨_,rfl, "set_iterator",_,⟨_,st.2.1,rfl⟩,nV.lookup,n⟩) (Dm _))
def Ready(b:SB)(w:UV)(d:Nat)(a:On)(e:Array (Int×PP))(I:On)(s:KB):Prop :=
 ∃(ord:Wa)(p:On),ord.Perm (e.toList.map (·.2))/\d<=I/\d<=p/\∃St:Nat->KB->Prop,(∀A:SC,A.handled=L->WalksS b w A I [I,a,p] [I] Gs e.size (λi v=>ord[i]?=Z v) St)/\St 0 s
def Ca{s:KB}(f:s.TypeIs (.ref a) "set")(h:Q B s):Pi (KF prog w) A (Builtin.List.listLengthHint (.ref a)) Q E s:=by
 refine Zv (wpAny_specialOf f PySem.F.slot_set_len.lookup ?_);generalize d:("set.__len__" : String)=nm
 wp_delta
 rw[show splitId nm=Z ("set", "__len__") from by subst d;decide +kernel];subst d;exact Zv (wpAny_isInstance (T := "set") (b:=J) f sub_set_self (wpAny_ite_split (λe=>absurd e (by decide)) λ_=>wpAny_ite_split (λ_=>Zv (wpAny_typeOf f (Zl h))) λe=>absurd (by decide +kernel) e))
end ST
end
section
namespace L2
open PySem PySem.Spec PyProof.Rows TS
section
def Inv.drew(I:Inv X a M H s)(d:Drawn):Inv X a M H { s with drawn:=d } :=
 ⟨I.ok,I.os,I.bare,I.base,I.loc,I.cell,I.free,I.KI,I.pin,I.JZ,I.len⟩
end
end L2
namespace VS
open PySem PySem.Spec PyProof.Rows L2
section
def Gv:bootBuiltins ("set" : Str)=Z (.type "set"):=by decide +kernel
end
inductive LH(G:Gx)(H:Hp):List Ky->V->V->Prop
 |nil (v:V):LH G H [] v v
 |fld {c k:Nat} {a dx:On} {fs:List (Str×V)} {u w:V} {ks:List Ky}:H a=some (.ins (G.ct (c+1)).1 dx fs)->fs.lookup ((G.ct (c+1)).2 k)=some u->LH G H ks u w->LH G H (.fld k :: ks) (.ref a) w
 |ix {a:On} {vs:List V} {i:Int} {j:Nat} {u w:V} {ks:List Ky}:H a=some (.lst vs)->KU vs.length i=some j->vs[j]?=some u->LH G H ks u w->LH G H (.at (.int i) :: ks) (.ref a) w
 |key {a:On} {jj:List (Key×V)} {k:Key} {u w:V} {ks:List Ky}:H a=some (.dK jj)->cX jj k=some u->LH G H ks u w->LH G H (.at (aD k) :: ks) (.ref a) w
 |un {v w:V} {ks:List Ky}:LH G H ks v w->LH G H (.un :: ks) v w
section
def lH{f:Xy}{i j:Nat}{F h:Wc}(d:f.flatten.Nodup)(b:f[i]?=Z F)(e:f[j]?=Z h)(n:i≠j){a:On}(g:a∈F):a∉h:=by
 intro hb
 induction f generalizing i j with
 |nil=>simp at b
 |cons G Gs l =>
  rw[ZK,ZL]at d;cases i with
  |zero =>
   simp at b;subst b;cases j with
   |zero=>exact n Y
   |succ j=>exact d.2.2 a g a (cE (by simpa using e) hb) Y
  |succ i =>
   cases j with
   |zero =>
    simp at e;subst e;exact d.2.2 a hb a (cE (by simpa using b) g) Y
   |succ j=>exact l d.2.1 (by simpa using b) (by simpa using e) (by lia)
def b9{d:Xy}(h:a∈(d.set j g).flatten):a∈g\/∃i F,i≠j/\d[i]?=Z F/\a∈F:=by
 obtain⟨i,F,b,f⟩:=gK h;by_cases e:i=j
 ·subst e;rw[List.getElem?_set_self' ]at b;cases q:d[i]? with
  |none=>rw[q]at b;cases b
  |some _=>rw[q]at b;cases b;exact .inl f
 ·rw[Yr (Yy e)]at b;exact .inr ⟨i,F,e,b,f⟩
theorem dk:∀{p:Xy}{j:Nat}{f:Wc},p.flatten.Nodup->f.Nodup->(∀i F,i≠j->p[i]?=Z F->∀a∈F,a∉f)->(p.set j f).flatten.Nodup
 |[],_,_,h,_,_=>by simpa using h
 |G :: Gs,0,f,h,o,d=>by
  rw[ZK,ZL]at h;rw[List.set_cons_zero,ZK,ZL];refine⟨o,h.2.1,λa g b hb e=>?_⟩;subst e;obtain⟨i,F,m,l⟩:=gK hb;exact d (i+1) F (by lia) (by simpa using m) a l g
 |G :: Gs,j+1,f,h,o,d=>by
  rw[ZK,ZL]at h;rw[List.set_cons_succ,ZK,ZL];refine⟨h.1,dk h.2.1 o λi F n q=>d (i+1) F (by lia) (by simpa using q),λa g b hb e=>?_⟩;subst e;rcases b9 hb with z | ⟨i,F,n,m,l⟩
  ·exact d 0 G (by lia) Y a g z
  ·exact h.2.2 a g a (cE m l) Y
def RpL.each:∀{f:List V}{e:Vb}{g:Xy},RpL G H f e g->(∀(i:Nat) v t F,f[i]?=Z v->e[i]?=Z t->g[i]?=Z F->Rp G H v t F->Rp G h v t F)->RpL G h f e g:=by
 intro f e
 induction e generalizing f with
 |nil=>intro g r k;cases r;exact .nil
 |cons t e j =>
  intro g r k;cases r with
  |cons r q=>exact .cons (k 0 _ _ _ Y Y Y r) (j q λi v t F a b c d=>k (i+1) v t F a b c d)
theorem RpL.setAt:∀{e:List V}{f:Vb}{m:Xy}{j:Nat}{u:V}{o:T}{p:Wc},RpL G H e f m->e[j]?=Z u->Rp G l u o p->(∀(i:Nat) v t F,i≠j->e[i]?=Z v->f[i]?=Z t->m[i]?=Z F->Rp G H v t F->Rp G l v t F)->RpL G l e (f.set j o) (m.set j p)
 |_,_,_,_,_,_,_,.nil,h,_,_=>by simp at h
 |_,_,_,0,_,_,_,.cons r q,h,g,k=>by
  simp at h;subst h;exact .cons g (RpL.each q λi v t F a b c d=>k (i+1) v t F (by lia) (by simpa using a) (by simpa using b) (by simpa using c) d)
 |_,_,_,j+1,_,_,_,.cons r q,h,g,k=>.cons (k 0 _ _ _ (by lia) Y Y Y r) (RpL.setAt q (by simpa using h) g λi v t F n a b c d=>k (i+1) v t F (by lia) (by simpa using a) (by simpa using b) (by simpa using c) d)
def lE(N:H a=Z o)(E:RpL G H s D d)(e:(a :: d.flatten).Nodup)(O:s[j]?=Z u)(y:d[j]?=Z A)(g:Chg G H u A C q m):q a=Z o/\RpL G q s (D.set j C) (d.set j m)/\(a :: (d.set j m).flatten).Nodup/\(∀b∈a :: (d.set j m).flatten,b∈a :: d.flatten\/H b=L)/\∀b o,b∉a :: d.flatten->H b=Z o->q b=Z o:=by
 rw[Zb]at e;have p:∀b∈A,b∈d.flatten:=λb hb=>cE y hb;refine⟨g.keep a o (λz=>e.1 (p a z)) N,E.setAt O g.rp (λi v t F n l f P r=>r.keep g.kept λb hb w x=>g.keep b w (lH e.2 P y n hb) x),?_,λb hb=>?_,λb w hb x=>g.keep b w (λz=>hb (Zy _ (p b z))) x⟩
 ·rw[Zb];refine⟨λh=>?_,dk e.2 g.nd (λi F n M b hb Q=>by
  rcases g.sub b Q with z | z
  ·exact lH e.2 M y n hb z
  ·exact J8.JX (E.Kd b (cE M hb)) z)⟩
  rcases b9 h with z | ⟨i,F,n,l,f⟩
  ·rcases g.sub a z with z | z
   ·exact e.1 (p a z)
   ·rw[N]at z;cases z
  ·exact e.1 (cE l f)
 ·rcases Zo.mp hb with rfl | hb
  ·exact .inl Zx
  ·rcases b9 hb with z | ⟨i,F,n,l,f⟩
   ·rcases g.sub b z with z | z
    ·exact .inl (Zy _ (p b z))
    ·exact .inr z
   ·exact .inl (Zy _ (cE l f))
theorem nQ{α β:Type}:∀(d:List α)(bs:List β)(i:Nat)(a:α)(y:β),d[i]?=Z a->(d.zip bs).set i (a,y)=d.zip (bs.set i y)
 |[],_,_,_,_,h=>by simp at h
 |a :: d,[],i,_,_,_=>by cases i<;>simp
 |a :: d,b :: bs,0,_,y,h=>by simp at h;subst h;rfl
 |a :: d,b :: bs,i+1,_,y,h=>by
  have:=nQ d bs i _ y (by simpa using h);simp[this]
theorem jt{α β:Type}(p:α->Bool):∀{e:List α}{bs:List β}{i:Nat},e.length=bs.length->(e.zip bs).findIdx? (λq=>p q.1)=Z i->∃a b,e[i]?=Z a/\bs[i]?=Z b/\p a=J/\(e.zip bs).find? (λq=>p q.1)=Z (a,b)
 |[],[],_,_,h=>by simp at h
 |a :: e,b :: bs,i,f,h=>by
  rw[ZQ,X1]at h;by_cases d:p a=J
  ·rw[Zp d]at h;cases h;exact⟨a,b,rfl,rfl,d,by simp[d]⟩
  ·rw[Zn d]at h;obtain⟨j,g,rfl⟩:=Zw.mp h;obtain⟨s,r,o,n,m,l⟩:=jt p (by simpa using f) g;exact⟨s,r,by simpa using o,by simpa using n,m,by simp[d,l]⟩
def jc(k a:Key):eqT (aD a) (aD k)=J↔a=k:=by
 cases k with
 |inl i=>cases a<;>simp[aD]
 |inr x =>
  obtain⟨⟨x⟩⟩:=x;cases a with
  |inl j=>simp[aD]
  |inr y=>obtain⟨⟨y⟩⟩:=y;simp[aD]
theorem rZ:∀{ns:List Key}{d:Vb}{a:List V}{i:Nat},ns.length=d.length->ns.length=a.length->((ns.map aD).zip d).findIdx? (λq=>eqT q.1 (aD k))=Z i->a[i]?=Z u->cX (ns.zip a) k=Z u
 |[],_,_,_,_,_,h,_=>by simp at h
 |n :: ns,t :: d,v :: a,i,m,l,h,e=>by
  rw[Zg,ZQ,X1]at h;by_cases b:eqT (aD n) (aD k)=J
  ·rw[Zp b]at h;cases h;simp at e;subst e;exact cJ ((jc k n).mp b)
  ·rw[Zn b]at h;obtain⟨j,g,rfl⟩:=Zw.mp h;have f:n≠k:=λz=>b ((jc k n).mpr z);have:cX ((n :: ns).zip (v :: a)) k=cX (ns.zip a) k:=by simp[cX,f]
   rw[this];exact rZ (by simpa using m) (by simpa using l) g (by simpa using e)
 |_ :: _,[],_,_,h,_,_,_=>by simp at h
 |_ :: _,_ :: _,[],_,_,h,_,_=>by simp at h
def h9(r:Rp G H v (.obj (c+1) (e :: f)) F):∃(g:Nat)(a o:On)(b:Bool)(ks:Vh)(d:List V)(i:Vb)(n:Xy),c+1=g+1/\v=.ref a/\e=(0,.bl b)/\f=ks.zip i/\F=a :: n.flatten ∧
  H a=Z (.ins (G.ct (g+1)).1 o ((ks.map (G.ct (g+1)).2).zip d))/\ks.length=d.length/\(b=J->G.me 0=Z (.ref a))/\RpL G H d i n:=by
 generalize j:T.obj (c+1) (e :: f)=z at r;cases r with
 |ins h l m q =>
  cases j;exact⟨_,_,_,_,_,_,_,_,rfl,rfl,rfl,rfl,rfl,h,l,m,q⟩
 |_=>cases j
def oH(r:Rp G H v (.obj 0 [(0,.bl J),(m,t)]) F):∃a,v=.ref a/\G.me m=Z (.ref a)/\Rp G H (.ref a) t F:=by
 generalize b:T.obj 0 [(0,.bl J),(m,t)]=z at r;cases r with
 |mk h q =>
  cases b;exact⟨_,rfl,h,q⟩
 |_=>cases b
def u7{G:Gx}{c a:Nat}(h:∀c k m:Nat,(G.ct c).2 k=(G.ct c).2 m->k=m){e:Vh}{d:List V}{f:Vb}{u:V}{i:Nat}(n:e.length=d.length)(b:(e.zip f).findIdx? (λq=>q.1==a)=Z i)(o:e[i]?=Z a)(g:d[i]?=Z u):((e.map (G.ct c).2).zip d).lookup ((G.ct c).2 a)=Z u:=by
 induction e generalizing d f i with
 |nil=>simp at o
 |cons l v p =>
  cases d with
  |nil=>simp at n
  |cons t bs =>
   cases f with
   |nil=>simp at b
   |cons s f =>
    rw[Zg,ZQ,YT];rw[ZQ,X1]at b;by_cases q:(l==a)=J
    ·rw[Zp q]at b;cases b;have:l=a:=by simpa using q
     subst this;simp at g;simp[g]
    ·rw[Zn q]at b;obtain⟨j,r,rfl⟩:=Zw.mp b;have:((G.ct c).2 a==(G.ct c).2 l)=B:=by
      rw[beq_eq_false_iff_ne];intro z;exact q (by simpa using(h c _ _ z).symm)
     rw[this];exact p (by simpa using n) r (by simpa using o) (by simpa using g)
def IS{α:Type}{f:T->Option (T×α)}{y:α}(e:pm f (.un :: d) t=Z (a,y)):∃m x z,t=.obj 0 [(0,.bl J),(m,x)]/\pm f d x=Z (z,y)/\a=.obj 0 [(0,.bl J),(m,z)]:=by
 cases t with
 |obj c fs =>
  cases c with
  |succ c=>cases e
  |zero =>
   cases fs with
   |nil=>cases e
   |cons q fs =>
    obtain⟨n,v⟩:=q;cases n with
    |succ n=>cases e
    |zero =>
     cases v with
     |bl b =>
      cases b with
      |false=>cases e
      |true =>
       cases fs with
       |nil=>cases e
       |cons g fs =>
        obtain⟨m,x⟩:=g;cases fs with
        |cons _ _=>cases e
        |nil =>
         obtain⟨⟨z,h⟩,e1,e2⟩:=Zw.mp e;cases e2;exact⟨_,_,_,rfl,e1,rfl⟩
     |_=>cases e
 |_=>cases e
def pE{G:Gx}{α:Type}{f:T->Option (T×α)}:∀(ks:List Ky){v:V}{t t':T}{F:Wc}{y:α},(∀c k k':Nat,(G.ct c).2 k=(G.ct c).2 k'->k=k')->Rp G H v t F->F.Nodup->pm f ks t=Z (t',y) →
  ∃w x A C,LH G H ks v w/\Rp G H w x A/\A.Nodup/\f x=Z (C,y)/\∀q o,Chg G H w A C q o->∃F',Chg G H v F t' q F':=by
 intro ks
 induction ks with
 |nil=>intro v t t' F y _ r nd e;exact⟨v,t,F,t',.nil v,r,nd,e,λq o g=>⟨o,g⟩⟩
 |cons ky ks ih =>
 intro v t t' F y inj r nd e;cases ky with
 |fld k =>
  cases t with
  |obj c fs0 =>
   cases c with
   |zero=>cases e
   |succ c =>
   cases fs0 with
   |nil=>cases e
   |cons q0 fs =>
   obtain⟨i,h1,e⟩:=Zz.mp e;obtain⟨p,Y,e⟩:=Zz.mp e;obtain⟨⟨z,y'⟩,e1,e2⟩:=Zw.mp e;cases e2;obtain⟨c',a,dx,b,ns,vs,ts,Fs,ec,rfl,rfl,rfl,rfl,O,X,hb,d⟩:=h9 r;cases ec;obtain⟨N,D,g1,g2,g3,g4⟩:=jt (λn=>n==k) (X.trans d.len.1) h1;have ek:N=k:=by simpa using g3
   subst ek;have ep:p=(N,D):=by
    have:(ns.zip ts)[i]?=Z (N,D):=by rw[Yn];exact⟨g1,g2⟩
    rw[this]at Y;exact(Zh Y).symm
   subst ep;obtain⟨u,Fi,M,E,u3⟩:=d.get i g2;obtain⟨w,x,A,C,U,S,R,Q,P⟩:=ih inj u3 (((Zb.mp nd).2).sublist (bC E)) e1;refine⟨w,x,A,C,.fld (c:=c) O (u7 inj X h1 g1 M) U,S,R,Q,λq o g=>?_⟩;obtain⟨Fi',h⟩:=P q o g;obtain⟨s1,s2,s3,s4,s5⟩:=lE O d nd M E h;refine⟨_,h.kept,s5,h.Kd,?_,s3,s4⟩;rw[nQ ns ts i N z g1];exact .ins s1 X hb s2
  |_=>cases e
 |un =>
  obtain⟨m,x,z,rfl,e1,rfl⟩:=IS e;obtain⟨a,rfl,hm,rx⟩:=oH r;obtain⟨w,D,A,C,U,S,R,Q,P⟩:=ih inj rx nd e1;refine⟨w,D,A,C,.un U,S,R,Q,λq o g=>?_⟩;obtain⟨F',g'⟩:=P q o g;exact⟨F',g'.kept,g'.keep,g'.Kd,.mk hm g'.rp,g'.nd,g'.sub⟩
 | «at» k =>
  cases t with
  |lst l =>
   cases k with
   |int i =>
    obtain⟨j,h1,e⟩:=Zz.mp e;obtain⟨D,Y,e⟩:=Zz.mp e;obtain⟨⟨z,y'⟩,e1,e2⟩:=Zw.mp e;cases e2;obtain⟨a,vs,Fs,rfl,rfl,O,d⟩:=r.lst_inv;obtain⟨u,Fi,M,E,u3⟩:=d.get j Y;obtain⟨w,x,A,C,U,S,R,Q,P⟩:=ih inj u3 (((Zb.mp nd).2).sublist (bC E)) e1;refine⟨w,x,A,C,.ix O (by rw[d.len.1];exact h1) M U,S,R,Q,λq o g=>?_⟩;obtain⟨Fi',h⟩:=P q o g;obtain⟨s1,s2,s3,s4,s5⟩:=lE O d nd M E h;exact⟨_,h.kept,s5,h.Kd,.lst s1 s2,s3,s4⟩
   |_=>cases e
  |dct kd l =>
   cases kd with
   |zero =>
    have hk:fm k=J/\((l.findIdx? λp=>eqT p.1 k).bind λi=>(l[i]?).bind λp=>(pm f ks p.2).map λz=>(T.dct 0 (l.set i (p.1,z.1)),z.2))=Z (t',y):=by
     cases k with
     |int i=>exact⟨rfl,e⟩
     |str s=>exact⟨rfl,e⟩
     |_=>cases e
    obtain⟨hk,e⟩:=hk;obtain⟨i,h1,e⟩:=Zz.mp e;obtain⟨p,Y,e⟩:=Zz.mp e;obtain⟨⟨z,y'⟩,e1,e2⟩:=Zw.mp e;cases e2;obtain⟨a,ns,vs,ts,Fs,rfl,rfl,O,X,rfl,d⟩:=dc r;have N7:(ns.map aD).length=ts.length:=by rw[Zt];exact X.trans d.len.1
    obtain⟨N,D,g1,g2,g3,g4⟩:=jt (λn=>eqT n k) N7 h1;have ep:p=(N,D):=by
     have:((ns.map aD).zip ts)[i]?=Z (N,D):=by rw[Yn];exact⟨g1,g2⟩
     rw[this]at Y;exact(Zh Y).symm
    subst ep;obtain⟨kk,MH⟩:∃kk:Key,k=aD kk:=by
     cases k with
     |int i=>exact⟨.inl i,rfl⟩
     |str s=>exact⟨.inr (sx s),by simp[aD,sx]⟩
     |_=>cases hk
    subst MH;obtain⟨u,Fi,M,E,u3⟩:=d.get i g2;obtain⟨w,x,A,C,U,S,R,Q,P⟩:=ih inj u3 (((Zb.mp nd).2).sublist (bC E)) e1;refine⟨w,x,A,C,.key O ?_ U,S,R,Q,λq o g=>?_⟩
    ·exact rZ (by simpa using N7) X h1 M
    ·obtain⟨Fi',h⟩:=P q o g;obtain⟨s1,s2,s3,s4,s5⟩:=lE O d nd M E h;refine⟨_,h.kept,s5,h.Kd,?_,s3,s4⟩;rw[nQ (ns.map aD) ts i N z g1];exact .dct s1 X s2
   |succ kd=>cases e
  |_=>cases e
end
section
def LH.same{H:Hp}(e:aI H d)(p:LH G H b v w):LH G d b v w:=by
 induction p with
 |nil v=>exact .nil v
 |fld h l _ a=>exact .fld (e _ _ h) l a
 |ix h l m _ a=>exact .ix (e _ _ h) l m a
 |key h l _ a=>exact .key (e _ _ h) l a
 |un _ a=>exact .un a
theorem LH.split:∀{ks:List Ky}{v:V},LH G H (ks++[k]) v w->∃u,LH G H ks v u/\LH G H [k] u w
 |[],v,p=>⟨v,.nil v,p⟩
 |_ :: ks,_,.fld h l p=>let ⟨u,a,b⟩:=LH.split p;⟨u,.fld h l a,b⟩
 |_ :: ks,_,.ix h l m p=>let ⟨u,a,b⟩:=LH.split p;⟨u,.ix h l m a,b⟩
 |_ :: ks,_,.key h l p=>let ⟨u,a,b⟩:=LH.split p;⟨u,.key h l a,b⟩
 |_ :: ks,_,.un p=>let ⟨u,a,b⟩:=LH.split p;⟨u,.un a,b⟩
theorem gy:∀{way:List MI}{ks:List Ky},keys (way++[s]) U=Z ks->∃f k,keys way U=Z f/\keys [s] U=Z [k]/\ks=f++[k]
 |[],ks,e=>by
  cases s with
  |fld k=>cases e;exact⟨[],.fld k,rfl,rfl,rfl⟩
  |un=>cases e;exact⟨[],.un,rfl,rfl,rfl⟩
  |ix c =>
   obtain⟨x,i,g⟩:=Zz.mp (e);cases g;exact⟨[],.at x.2,rfl,by show ((_:Option _).bind _)=_;rw[i];rfl,rfl⟩
 |.fld k :: way,ks,e=>by
  obtain⟨j,i,g⟩:=Zw.mp (e);obtain⟨f,l,a,b,c⟩:=gy i;exact⟨.fld k :: f,l,by show ((keys _ _).map _)=_;rw[a];rfl,b,by rw[← g,c];rfl⟩
 |.un :: way,ks,e=>by
  obtain⟨j,i,g⟩:=Zw.mp (e);obtain⟨f,l,a,b,c⟩:=gy i;exact⟨.un :: f,l,by show ((keys _ _).map _)=_;rw[a];rfl,b,by rw[← g,c];rfl⟩
 |.ix c :: way,ks,e=>by
  obtain⟨x,m,h⟩:=Zz.mp (e);obtain⟨j,i,g⟩:=Zw.mp h;obtain⟨f,l,a,b,d⟩:=gy i;exact⟨.at x.2 :: f,l,by show ((_:Option _).bind _)=_;rw[m];rw[a];rfl,b,by rw[← g,d];rfl⟩
def Ub(G:Gx)(i:Nat)(a:List MI):TE:=λM H Q=>∃O U t ks v w,SR G O U M H/\U[i]?=Z (Z (.ow t))/\M[i]?=Z (Z v)/\keys a U=Z ks/\LH G H ks v w/\∀b,aI H b->Q w b
def Na(G:Gx)(X:Cx)(e:Expr)(i:Nat)(a:List MI):Prop:=PE X e (Ub G i a)
def PE.Nc(h:PE X e t)(w:∀M H Q,Ub G i a M H Q->t M H Q):Na G X e i a:=λb s M H Q I q=>h b s M H Q I (w M H Q q)
def cy{X:Cx}(i:Nat)(g:{`q8,X.N[i]?=Z x})(a:L6 X.env.scope x:=by exact .inl Y)(f:{`q8,K3 x})(n:{`q8,K4 x}):Na G X (.Name x pos) i [] :=
 PE.Nc (dS g a f n) λM H Q d=>by
  obtain⟨O,U,t,ks,v,w,s,o,m,l,j,h⟩:=d;cases (l);cases j;exact⟨v,m,h H (aI.refl _)⟩
def HH(h:Na G X e i way):Na G X e i (way++[.un]) :=
 PE.Nc h λM H Q f=>by
  obtain⟨O,U,t,ks,v,w,s,n,m,l,j,g⟩:=f;obtain⟨o,p,a,b,rfl⟩:=gy l;cases (b);obtain⟨u,p1,d⟩:=j.split;cases d with
  |un q =>
   cases q;exact⟨O,U,t,o,v,w,s,n,m,a,p1,g⟩
structure LU(G:Gx)(K:X3)(k:Nat)(f:Str):Prop where
 nm:∀c,(G.ct (c+1)).2 k=f
 cl:∀c,LV K (G.ct (c+1)).1
 no:∀c,dz K (G.ct (c+1)).1 f
def kC{X:Cx}(k:Nat)(F:LU G X.K k f)(h:Na G X e i way)(m:{`q8,XAA e f X.env (eval e X.env)=eval e X.env}):Na G X (.Attribute e f pos) i (way++[.fld k]) :=
 PE.Nc (A4 h m) λM H Q l=>by
  obtain⟨O,U,t,ks,v,w,s,y,x,r,p,o⟩:=l;obtain⟨A,E,a,b,rfl⟩:=gy r;cases (b);obtain⟨u,p1,j⟩:=p.split;refine⟨O,U,t,A,v,u,s,y,x,a,p1,λC d=>?_⟩;cases j with
  |@fld c _ a z fs D _ _ n g q =>
   cases q;rw[F.nm c]at g;exact⟨a,_,z,fs,w,rfl,d a _ n,F.cl c,F.no c,g,o C d⟩
def Et{X:Cx}(S:JY E X.A)(h:Na G X e i way)(hb:PV G X b c)(R:fH b)(hK:X.K=G.K):Na G X (.Subscript e b pos) i (way++[.ix c]) :=
 PE.Nc (lM (LI.or kB (sL (j3 S))) h hb R) λM H Q Y=>by
  obtain⟨O,U,t,ks,v,w,s,h1,h2,h3,h4,h5⟩:=Y;obtain⟨Ng,k',a,b',rfl⟩:=gy h3;obtain⟨⟨D,x⟩,ec,e2⟩:=Zz.mp (b');cases e2;obtain⟨u,p1,C⟩:=h4.split;refine⟨O,U,t,Ng,v,u,s,h1,h2,a,p1,λH1 d=>⟨O,U,D,x,s.same d,ec,λy H2 F2 o r2 f2=>?_⟩⟩;have q:=h5 H2 (d.trans o);cases ((C.same d).same o) with
  |@ix a p F j r _ _ l g P f =>
   cases f;refine .inl (.inl ⟨a,p,F,w,rfl,r2.int_inv,Kb.of l,i5 g P,q⟩)
  |@key a jj m r _ _ l g f =>
   cases f;refine .inr ⟨a,w,rfl,?_,q⟩;have N:y=kV m:=by
    cases m with
    |inl n=>exact r2.int_inv
    |inr z =>
     have:=r2.str_inv.1;rw[this];simp[kV,sx]
   rw[N,← g];exact iN.k l
@[simp] def nH(i:Nat)(a:List MI)(f:T->Vd->Option (T×Val))(g:Ko)(U:VS.Env):Option (Val×VS.Env):=match U[i]? with
 |some (some (.ow t))=>(keys a U).bind λks=>(g U).bind λd=>(pm (λx=>f x d) ks t).map λz=>(z.2,U.set i (Z (.ow z.1)))
 |_=>L
noncomputable def l6(G:Gx):Prop:=∀c k a:Nat,(G.ct c).2 k=(G.ct c).2 a->k=a
def Aq{pos apos:Pos}(J:l6 G)(pa:PlainAttrs p)(d:Slot p a m)(QP:typeOf (.builtin m)=pure (.type "method_descriptor"))(hm:Rv X m r)(ok:Aw G r f)(hT:∀H v t F l z,Rp G H v t F->f t l=Z z->tyV G.K p v H)(ho:Na G X o i way)(ha:Lc G X (e :: es) cs)(hK:X.K=G.K)(Ka:XAA o a X.env (eval o X.env)=eval o X.env)(Kr:((backTo pe (P3 (e :: es) X.env)).all (λx=>!x.1)&&(backToKw pe (SL [] X.env)).all (λx=>x.1.isSome)
   && decide ((e :: es).length+([]:List Keyword).length+(if ([]:List Keyword).isEmpty then 0 else 1)<30))=true)(J6:(apos.endLine==pe.line)=true)(hs:K1 e es X)(J2:K2 pe es X)(Lm:swapsWith (.Call (.Attribute o a apos) (e :: es) [] pe) L pos.line X.env=pure B) :
  PSV G X (.Expr (.Call (.Attribute o a apos) (e :: es) [] pe) pos) (sX (nH i way f cs)) :=
 PS.weak (hZ (lI pa d QP hm ho ha Ka Kr J6 hs J2) Lm) λD M H hq=>by
  obtain⟨O,U,out,s,e,k⟩:=hq;refine L2.iq λP_ k_=>?_;unfold sX nH at e;obtain⟨⟨x',U'⟩,e1,e2⟩:=Zw.mp e;split at e1
  ·rename_i t h;obtain⟨ks,ek,e3⟩:=Zz.mp e1;obtain⟨l,el,e4⟩:=Zz.mp e3;obtain⟨⟨t',x2⟩,e5,e6⟩:=Zw.mp e4;cases e6;cases e2;obtain⟨v,E,h2⟩:=s.rp _ _ h;obtain⟨w,x,F1,R,w1,A,Y,y,S⟩:=pE ks J h2 (s.nd i t h) e5;refine k_ ?_;refine⟨O,U,t,ks,v,w,s,h,E,ek,w1,λH0 j=>⟨by rw[hK];exact hT H0 w x _ l _ (A.same j) y,O,U,l,s.same j,el,λvs H' Fs q1 q2 C=>?_⟩⟩;refine ok O U H H' w x R F1 l vs Fs x2 _ A Y ⟨j.trans q1,q2,⟨λn v' q a1 a2=>(C.each n v' q a1 a2).back j,C.nd⟩⟩ y λu N q g=>?_;obtain⟨F2,g2⟩:=S N q g;obtain⟨Q,P⟩:=s.mut h E g2;exact k _ M N Q P
  ·cases e1
end
section
def ux(k v:Val):T->Option (T×Unit)
 |.lst l=>match k.2 with
  |.int n=>(fit v).bind λt=>(KU l.length n).map λj=>(.lst (l.set j t),())
  |_=>L
 |.dct 0 l=>if fm k.2/\J3 v.2/\l.length<fq then Z (.dct 0 (dput l k.2 v.2),()) else L
 |_=>L
def jY(i:Nat)(a:List MI)(k e:Ex)(U:VS.Env):Option Out:=(e U).bind λv=>match U[i]? with
 |some (some (.ow t))=>(keys a U).bind λks=>(k U).bind λd=>(pm (ux d v) ks t).map λz=>.nx (U.set i (Z (.ow z.1)))
 |_=>L
theorem RpL.putAt:∀{d:List V}{f:Vb}{g:Xy}(j:Nat){u:V}{x:T}{F:Wc},RpL G H d f g->Rp G H u x F->RpL G H (d.set j u) (f.set j x) (g.set j F)
 |_,_,_,_,_,_,_,.nil,_=>.nil
 |_,_,_,0,_,_,_,.cons r q,a=>.cons a q
 |_,_,_,j+1,_,_,_,.cons r q,a=>.cons r (RpL.putAt j q a)
theorem w6(s:Rp G H l t []):∀{ks:List Key}{h:List V}{n:Vb}{C:Xy},ks.length=h.length->RpL G H h n C →
  ∃d f g,(ks.zip h).map (λm=>if m.1=a then (m.1,l) else m)=ks.zip d/\ks.length=d.length/\((ks.map aD).zip n).map (λp=>if eqT p.1 (aD a) then (p.1,t) else p)=(ks.map aD).zip f/\RpL G H d f g/\g.flatten.Sublist C.flatten
 |[],[],_,_,_,.nil=>⟨[],[],[],rfl,rfl,rfl,.nil,Ww _⟩
 |k :: ks,v :: h,_,_,E,.cons (t:=D) (F:=F) r q=>by
  obtain⟨d,f,g,A,y,x,w,u⟩:=w6 s (by simpa using E) q;by_cases j:k=a
  ·refine⟨l :: d,t :: f,[] :: g,?_,by simp[y],?_,.cons s w,?_⟩
   ·rw[ZQ,Zg,A,ZQ];simp[j]
   ·rw[Zg,ZQ,Zg,x,ZQ];simp[((jc a k).mpr j)]
   ·rw[ZK,ZK];exact u.trans (Xr _ _)
  ·have e:¬eqT (aD k) (aD a)=J:=λz=>j ((jc a k).mp z);refine⟨v :: d,D :: f,F :: g,?_,by simp[y],?_,.cons r w,?_⟩
   ·rw[ZQ,Zg,A,ZQ];simp[j]
   ·rw[Zg,ZQ,Zg,x,ZQ];simp[e]
   ·rw[ZK,ZK];exact List.Sublist.append (Ww _) u
theorem ub{kk:Key}:∀{ks:List Key}{a:List V}{d:Vb},ks.length=a.length->ks.length=d.length->((ks.zip a).any λf=>decide (f.1=kk))=(((ks.map aD).zip d).any λp=>eqT p.1 (aD kk))
 |[],_,_,_,_=>by simp
 |k :: ks,v :: a,t :: d,j,g=>by
  rw[Zg,ZQ,ZQ,YH,YH,ub (by simpa using j) (by simpa using g)];have:decide (k=kk)=eqT (aD k) (aD kk):=by rw[Xq,decide_eq_true_eq];exact(jc kk k).symm
  rw[this]
 |_ :: _,[],_,h,_=>by simp at h
 |_ :: _,_ :: _,[],_,h=>by simp at h
def sF(u:Rp G H q t []){a:List Key}{g:List V}(d:a.length=g.length)(l:RpL G H g j s) :
  ∃(r:List Key)(f:List V)(m:Vb)(n:Xy),putK (a.zip g) kk q=r.zip f/\r.length=f.length/\dput ((a.map aD).zip j) (aD kk) t=(r.map aD).zip m/\RpL G H f m n/\n.flatten.Sublist s.flatten:=by
 unfold putK dput;rw[(ub (kk:=kk) d (d.trans l.len.1))];by_cases h:(((a.map aD).zip j).any λp=>eqT p.1 (aD kk))=J
 ·rw[Zp h,Zp h];obtain⟨f,m,n,z,y,x,w,v⟩:=w6 u d l;exact⟨a,f,m,n,z,y,x,w,v⟩
 ·rw[Zn h,Zn h];refine⟨a++[kk],g++[q],j++[t],s++[[]],?_,by simp[d],?_,l.append (.cons u .nil),by simp⟩
  ·rw[Wh d];rfl
  ·rw[Z8,Wh (by rw[Zt];exact d.trans l.len.1)];rfl
def En:D0:=λo i v H Q=>Eo o i v H Q\/∃a d,o=.ref a/\uk H a i v d/\Q d
def yf{X:Cx}(n:X.A.units+1<cLine):GV X En:=by
 intro d s M H o i v m iv u Q I j l f h;rcases h with h | ⟨a,r,rfl,g,q⟩
 ·exact set_list d s M H o i v m iv u Q I j l f h
 ·cases j;exact yB n I g l f λt p=>⟨r,p,q⟩
def lY{X:Cx}{pos:Pos}(J:l6 G)(hr:JY kr X.A)(ho:Na G X o i way)(hk:PV G X b ck)(he:PV G X e ce)(ha:∀v,assign (.Subscript o b pos') X.env v=(do
   let R ← holding [v] (eval o X.env)
   let iv ← holding [v,R] (eval b X.env)
   standAt pos'
   holding [v,R,iv] (setItem R iv v)
   release [v,R,iv] []):=by exact λ_=>rfl)(hs:{`q8,swapsWithSole [.Subscript o b pos'] e pos.line X.env=pure B})(hw:{`q8,swappedStores [.Subscript o b pos'] e X.env=pure L})(E:{`q8,(assignEach [.Subscript o b pos'] X.env).map (·.2)=[assign (.Subscript o b pos') X.env]}):PSV G X (.Assign [.Subscript o b pos'] e pos) (jY i way ck ce) :=
 PS.weak (rK he (sJ ho hk (yf (j3 hr)) ha) hs hw E) λD M H hq=>by
  obtain⟨O,U,out,s,e,k⟩:=hq;refine L2.iq λP_ S=>?_;obtain⟨⟨mv,C⟩,ev,e⟩:=Zz.mp e;split at e
  ·rename_i t Y;obtain⟨ks,ek,e⟩:=Zz.mp e;obtain⟨⟨mk,f⟩,MH,e⟩:=Zz.mp e;obtain⟨⟨t',y'⟩,e5,e6⟩:=Zw.mp e;cases e6;obtain⟨v,g1,g2⟩:=s.rp _ _ Y;obtain⟨w,x,F1,x3,w1,w2,w3,y,w5⟩:=pE ks J g2 (s.nd i t Y) e5;refine S ?_;refine⟨O,U,mv,C,s,ev,λxv H1 Fv Kw rv fv=>?_⟩;refine⟨O,U,t,ks,v,w,s.same Kw,Y,g1,ek,w1.same Kw,λH2 K6=>⟨O,U,mk,f,(s.same Kw).same K6,MH,λkv H3 Fk Lr rk fk=>?_⟩⟩;have m:=(Kw.trans K6).trans Lr;have Ox:=(rv.same K6).same Lr;have fin:∀P u,Chg G H w F1 x3 P u->D.nx M P:=λP u g=>by
    obtain⟨F2,RR⟩:=w5 P u g;obtain⟨z1,z2⟩:=s.mut Y g1 RR;exact k _ M P z1 z2
   refine L2.iq λP_ S=>?_;cases x with
   |lst l =>
    cases f with
    |int n =>
     obtain⟨tt,et,e7⟩:=Zz.mp (y);obtain⟨j,ej,e8⟩:=Zw.mp e7;cases e8;cases (nW et);obtain⟨a,vs,Fs,rfl,rfl,N,p⟩:=w2.lst_inv;have F:=m a _ N;have nd:=Zb.mp w3;have na:a∉Fv:=λz=>by rw[fv.2 a z]at N;cases N
     have q:J8 (H3 a):=by rw[F];exact True.intro
     have off:=λd hb hv=>J8.JX (p.Kd d hb) (fv.2 d hv);refine S ?_;refine .inl ⟨a,vs,n,j,rfl,rk.int_inv,F,by rw[← vR,p.len.1];exact ej,fin _ (a :: (Fs.set j Fv).flatten) ?_⟩;refine Chg.upd m Zx q (.lst aq ((((p.same m).off q nd.1)).putAt j ((λr hn=>r.keep (Kept.upd (.inl q)) λd hb o' MW=>by rw[aw (λz=>hn (by rw[← z];exact hb))];exact MW) Ox na))) ?_ ?_
     ·rw[Zb];refine⟨λh=>?_,dk nd.2 fv.1 λi' u _ hi d hb=>off d (cE hi hb)⟩;rcases b9 h with z | ⟨i',u,_,E,h2⟩
      ·exact na z
      ·exact nd.1 (cE E h2)
     ·intro d hb;rcases Zo.mp hb with rfl | hb
      ·exact .inl Zx
      ·rcases b9 hb with z | ⟨i',u,_,E,h2⟩
       ·exact .inr (fv.2 d z)
       ·exact .inl (Zy _ (cE E h2))
    |_=>cases y
   |dct kd l =>
    cases kd with
    |zero =>
     have hc:(fm f=true/\J3 C=true/\l.length<fq)/\x3=.dct 0 (dput l f C):=by
      have P8:(if fm f/\J3 C/\l.length<fq then Z (T.dct 0 (dput l f C),()) else L)=Z (x3,y'):=y;split at P8
      ·rename_i hc;cases P8;exact⟨hc,rfl⟩
      ·cases P8
     obtain⟨⟨c1,c2,c3⟩,rfl⟩:=hc;have eF:=Ox.J3 c2;subst eF;obtain⟨a,ns,vs,ts,Fs,rfl,rfl,N,hl,rfl,p⟩:=dc w2;obtain⟨kk,rfl,M8⟩:=dB rk c1;subst M8;have F:=m a _ N;have q:J8 (H3 a):=by rw[F];exact True.intro
     have nd:=Zb.mp w3;obtain⟨QL,LW,Lg,LJ,q1,q2,q3,q4,Q⟩:=sF Ox hl (p.same m);refine S ?_;refine .inr ⟨a,_,rfl,uk.k F (by
      have:((ns.map aD).zip ts).length<16777216:=c3;rw[Yv,Zt]at this;rw[Yv];have:=p.len.1;have:(KM:Nat)=16777216:=rfl;lia),fin _ (a :: LJ.flatten) ?_⟩
     rw[q1,q3];refine Chg.upd m Zx q (.dct aq q2 (q4.off q λz=>nd.1 (Q.subset z))) ?_ ?_
     ·exact Zb.mpr ⟨λz=>nd.1 (Q.subset z),nd.2.sublist Q⟩
     ·intro d hb;rcases Zo.mp hb with rfl | hb
      ·exact .inl Zx
      ·exact .inl (Zy _ (Q.subset hb))
    |succ n=>cases y
   |_=>cases y
  ·cases e
end
noncomputable def gx0(K:X3):Gx:=⟨K,λ_=>(0,λk=>⟨#[k]⟩),λ_=>L⟩
end VS
end
section
namespace L2
open PySem PySem.Spec PyProof.Rows
section
def vE{X:Cx}(y:X.calm=J):dA X (.type "list") (λf H Q=>∃x:Str,f=[.str x]/\x.cps.size<=KM/\∀l,H l=L->Q (.ref l) (upd H l (.lst (x.cps.toList.map λc=>V.str ⟨#[c]⟩)))):=by
 intro j s M H f A Q I p h;obtain⟨x,rfl,m,q⟩:=h;obtain⟨u,rfl,t,rfl⟩:=vals1 p;refine call_list_str (I.ok.hd y) x t (λz C acc c kp g o=>?_) m;refine⟨.ref s.heap.objs.size,_,I.laid kp (Zk _) (show da X.prog X.w _ z _ (.lst (x.cps.toList.map λc=>V.str ⟨#[c]⟩)) from⟨by rw[Zt,Z9];exact m,acc.toList,c,(by
  have key:∀(b:Vh)(a:Wa),b.length=a.length->(∀(i:Nat)(v:PP),a[i]?=Z v->∃c u,b[i]?=Z c/\v=.str ⟨#[c]⟩ u)->aQ (b.map λc=>V.str ⟨#[c]⟩) a:=by
   intro b
   induction b with
   |nil =>
    intro a e _;cases a with
    |nil=>exact .nil
    |cons v a=>simp at e
   |cons c b r =>
    intro a e hg;cases a with
    |nil=>simp at e
    |cons v a =>
     obtain⟨d,u,e1,e2⟩:=hg 0 v Y;cases e1;exact .cons ⟨u,e2⟩ (r a (by simpa using e) λi w hw=>by simpa using hg (i+1) w (by simpa using hw))
  refine key _ _ (by rw[Z9,Z9,o.1]) λi v n=>?_;rw[Yx]at n;obtain⟨d,u,e1,e2⟩:=o.2 i v n;exact⟨d,u,by rw[Yx];exact e1,e2⟩),g⟩),rfl,q _ (I.JZ.fresh (Zk _))⟩
noncomputable def lB:Int->Vg->Int
 |i,[]=>i
 |i,j :: r=>lB (if j > i then j else i) r
theorem rN:∀(l:Vg)(i:Int),(i<=lB i l/\∀j∈l,j<=lB i l)/\(lB i l=i\/lB i l∈l)
 |[],i=>⟨⟨Int.le_refl _,λj h=>by simp at h⟩,.inl Y⟩
 |a :: l,i=>by
  obtain⟨⟨d,m⟩,g⟩:=rN l (if a > i then a else i);unfold lB;have b:i<=(if a > i then a else i)/\a<=(if a > i then a else i):=by split<;>lia
  refine⟨⟨Int.le_trans b.1 d,λj f=>?_⟩,?_⟩
  ·rcases Zo.mp f with e | e
   ·subst e;exact Int.le_trans b.2 d
   ·exact m j e
  ·rcases g with e | e
   ·split at e
    ·rename_i h;rw[Zp h,e];exact .inr Zx
    ·rename_i h;rw[Zn h,e];exact .inl Y
   ·exact .inr (Zy _ e)
def C5{i:Int}{d:Int}(g:d∈i :: l)(f:∀j∈i :: l,j<=d):d=lB i l:=by
 obtain⟨⟨a,b⟩,c⟩:=rN l i;have u:lB i l<=d:=by
  rcases c with e | e
  ·rw[e];exact f i Zx
  ·exact f _ (Zy _ e)
 have v:d<=lB i l:=by
  rcases Zo.mp g with e | e
  ·rw[e];exact a
  ·exact b d e
 lia
def yG{X:Cx}(G:X.calm=J):dA X (.builtin "max") (λr H Q=>∃p,∃(n:Int)(ns:Vg),r=[.ref p]/\Kb X.K H p ((n :: ns).map V.int)/\Q (.int (lB n ns)) H):=by
 intro w s M H r O Q I z h;obtain⟨p,n,ns,rfl,D,q⟩:=h;obtain⟨u,rfl,g⟩:=z.one;cases g;obtain⟨a,f,l,R⟩:=I.list D;have x:p<s.heap.objs.size:=by obtain⟨_,e,_⟩:=l.isList;exact ZY e
 have hlen:a.toArray.size=ns.length+1:=by have:=f.length;simp at this ⊢;exact Eq.symm this
 have val:∀(i:Nat)(v:PP),a.toArray[i]?=Z v->∃t,v=.int (((n :: ns)[i]?).getD 0) t:=λi v o=>by
  have d:a[i]?=Z v:=by simpa using o
  cases e:(n :: ns)[i]? with
  |none =>
   have:=f.none_of (i:=i) (by rw[Zd,e];rfl);rw[this]at d;cases d
  |some m =>
   obtain⟨u,C,g⟩:=f.get (i:=i) (by rw[Zd,e];rfl);rw[C]at d;cases d;obtain⟨t,rfl⟩:=g;exact⟨t,by simp⟩
 refine call_max_walk (XG l.isList ⟨s.heap.objs.size,[s.heap.objs.size,p],[s.heap.objs.size],a.toArray.size,_,_,λi j=>decide (((n :: ns)[i]?).getD 0 > ((n :: ns)[j]?).getD 0),rfl,WR (A:=X.A.in1) (I.ok.hd G) _ p (Zf x) a.toArray,
  ⟨⟨_,Zc _ Y,rfl,rfl⟩,l.isList.push _⟩,λb hb=>?_,by lia,CmpOf.ints_gt (λi=>((n :: ns)[i]?).getD 0) val,λv S P o E=>?_⟩)
 ·rw[Ya];rcases Zo.mp hb with rfl | hb
  ·exact Z3 _
  ·rw[Zj.mp hb];exact Yq x
 ·obtain⟨t,rfl⟩:=val _ _ o;obtain⟨U,N⟩:=argBest_gt (λi=>((n :: ns)[i]?).getD 0) (a.toArray.size-1);refine⟨.int (lB n ns),H,I.kept (sD E),⟨t,?_⟩,q⟩;congr 1;refine C5 ?_ λj F=>?_
  ·have hb:argBest (λi j=>decide (((n :: ns)[i]?).getD 0 > ((n :: ns)[j]?).getD 0)) (a.toArray.size-1)<(n :: ns).length:=by simp only[Zi];omega
   rw[Zu hb];exact ZC hb
  ·obtain⟨i,y,e⟩:=W7 F;have:=N i (by simp at y;lia);rw[Zu y,Xw,e]at this;exact this
end
end L2
namespace VS
open PySem PySem.Spec PyProof.Rows L2
section
def mQ:Vd->Vc
 |[(m,.lst l)]=>ML m l
 |[(m,.tup l)]=>ML m l
 |[(_,.str s)]=>ML .fr (s.map λc=>.str [c])
 |_=>L
def zv:fz G (λd H Q=>El G.K d H Q\/∃x:Str,d=[.str x]/\x.cps.size<=KM/\∀l,H l=L->Q (.ref l) (upd H l (.lst (x.cps.toList.map λc=>V.str ⟨#[c]⟩)))) mQ:=by
 intro O U i H l f j m t Q A e k;unfold mQ at e;split at e
 ·exact .inl (xi O U i H _ f j m t Q A e k)
 ·exact .inl (xi O U i H _ f j m t Q A e k)
 ·rename_i C x;obtain⟨v,F,rfl,rfl,h⟩:=(A.rp).one;have g:=h.str_inv.2;refine .inr ⟨sx x,by rw[h.str_inv.1],?_,λq r=>?_⟩
  ·have:=g.1;exact this
  ·have z:(sx x).cps.toList.map (λc=>V.str ⟨#[c]⟩)=(x.map λc=>[c]).map λs=>V.str (sx s):=by
    simp[sx]
   have w:(x.map λc=>T.str [c])=(x.map λc=>[c]).map T.str:=by simp
   rw[z];rw[w]at e;refine ke A.same e (vT (G:=G) (H:=H) (ss:=x.map λc=>[c]) λs o=>by
    obtain⟨c,u,rfl⟩:=ZV.mp o;exact⟨by show 1<=fq;decide,λy n=>by rw[Zj.mp n];exact g.2 c u⟩) ?_ k q r
   rw[oT];exact Fp.nil
 ·cases e
def xo{X:Cx}(d:X.mg "list" = L)(h:Lc G X [e] cs)(f:{`q2,Gl X "list"})(i:{`q2,X.K=G.K})(g:{`q2,X.calm=J})(he:{`q2,K1 e [] X}):PV G X (.Call (.Name "list" p) [e] [] pos) (eN mQ cs) :=
 j9 (se.or (vE g)) (i ▸ zv) f d DO h (he:=he)
def uW:Vd->Vc
 |[(_,.lst l)]=>(jh l).bind fun
  |[]=>L
  |i :: r=>Z (.fr,.int (lB i r))
 |_=>L
def CJ:fz G (λd H Q=>∃p,∃(n:Int)(ns:Vg),d=[.ref p]/\Kb G.K H p ((n :: ns).map V.int)/\Q (.int (lB n ns)) H) uW:=by
 intro O U q H l j r m t Q A e k;unfold uW at e;split at e
 ·rename_i o x;obtain⟨ns,e1,e2⟩:=Zz.mp e
  match ns,e1,e2 with
  |n :: ns,e1,e2 =>
   cases e2;obtain⟨v,F,rfl,rfl,f⟩:=(A.rp).one;obtain⟨a,i,Gs,rfl,rfl,h,g⟩:=f.lst_inv;have:=l7 g e1;subst this;exact⟨a,n,ns,rfl,Kb.of h,bj k (.int _)⟩
 ·cases e
def GH{X:Cx}(d:X.mg "max" = L)(h:Lc G X [e] cs)(g:{`q2,X.calm=J})(f:{`q2,Gl X "max"})(i:{`q2,X.K=G.K})(he:{`q2,K1 e [] X}):PV G X (.Call (.Name "max" p) [e] [] pos) (eN uW cs) :=
 jG (yG g) (i ▸ CJ) f d GE h (he:=he)
end
end VS
end
section
open PySem PyProof.Rows
namespace TS
noncomputable abbrev Ky:=Sum Int Str
noncomputable def VX:Ky->Ky->Bool
 |.inl i,.inl j=>decide (i<j)
 |.inr x,.inr y=>decide (x.cps.toList<y.cps.toList)
 |_,_=>B
noncomputable def kind(k:Ky):Bool:=k.isLeft
noncomputable def KyV:Ky->PP->Prop
 |.inl i,v=>∃t,v=.int i t
 |.inr x,v=>∃t,v=.str x t
end TS
end
section
namespace ST
open PySem PySem.Spec PyProof.Rows
noncomputable abbrev dO(a:Array DictEntry)(b:Nat):Obj:={ cls:=.type "dict",data:=.dict a b }
noncomputable abbrev kO(d:On)(i n a:Nat):Obj:={ cls:=.type "dict_keyiterator",data:=.fields #[.ref d,.int i 0,.int n 0,.int a 0] }
def A5{s:KB}(f:(d==sysModules)=B)(a:s.heap.get? d=Z (dO b e))(q:Q (.ref s.heap.objs.size) { s with heap:=s.heap.push (kO d 0 b.size e) }) :
  Pi (KF prog w) A (pyIter (.ref d)) Q E s:=by
 have ty:s.TypeIs (.ref d) "dict" := ⟨_,a,rfl⟩
 refine WH ty F.slot_dict_iter (Xs F.slot_dict_iter ty F.entry_dict_iter (?_) (F.args_dict_iter_1 _));unfold Builtin.«dict.__iter__» Builtin.Dict.dictSlotNone Builtin.Dict.showsAll;refine Zv (Zv (wpAny_notOrdered_dict ty (Zl (Zv (Zl ?_)))));rw[Zn (by rw[f];exact ZX)];exact Zv (Zl (Zv (wpAny_dictEntries a Y (Zv (wpAny_dictEpoch a Y (Zv (YA (Zl ⟨_,rfl, "dict_keyiterator",_,⟨_,Zc _ Y,rfl⟩,XR.lookup,q⟩))))))))
def tR{A:SC}{s:KB}{h:Array DictEntry}(t:A.handled=L)(l:s.heap.get? I=Z (kO d i h.size m))(n:s.heap.get? d=Z (dO h m))(y:∀e,h[i]?=Z e->∀a,Heap.SameBut I s.heap a->a.get? I=Z (kO d (i+1) h.size m)->Q (Z e.key) { s with heap:=a })(u:h[i]?=L->∀a,(∀b o,b≠I->s.heap.get? b=Z o->a.get? b=Z o)->Q L { s with heap:=a }):Pi (KF prog w) A (pyNext (.ref I)) Q E s:=by
 have ty:s.TypeIs (.ref I) "dict_keyiterator" := ⟨_,l,rfl⟩
 refine Zv (wpAny_attempt (wpAny_callSpecial?_slot ty XR (Xs XR ty F.entry_dict_keyiterator_next (YX
  (Q:=λf j=>∃v,f=.done (.ret v)/\Q (Z v) j) (E:=λe j=>∃x,e=.ref x/\(∃o,j.heap.get? x=Z o/\o.cls=.type "StopIteration")/\Q L j) ?_ (λf j ⟨v,e,q⟩=>⟨v,e,Zl q⟩) λe j ⟨x,e1,⟨o,g,c⟩,q⟩=>?_) (F.args_dict_keyiterator_next_1 _))))
 ·refine Zv (Zl (Zv (Zv (Zv (Wb ty (Zl (Zv (wpAny_fieldsOf l Y ?_))))))));have own:Builtin.Dict_items.ownsTuple "dict_keyiterator" = B:=rfl;refine(show Pi _ _ (if (Value.ref d==Value.none)=J then _ else _) _ _ s from ?_);rw[Zn (λe:(Value.ref d==Value.none)=true=>ZX e)];refine Zv (Zl (Zv (wpAny_dictEntries n Y ?_)));rw[Zn (by simp)];refine Zv (Zl (Zv (wpAny_dictEpoch n Y ?_)));rw[Zn (by simp)];refine Zl ?_;simp only[show ¬((i:Int)<0) from by lia,↓reduceIte,YF];cases he:h[i]? with
  |some e =>
   have p:(s.heap.update I (Obj.mapFields (·.setIfInBounds 1 (rawInt ((i:Int)+1))))).get? I=Z (kO d (i+1) h.size m):=Ys _ l Y;refine Zv (Zv (Wb ty (Zl (Zv (wpAny_isOneOf_keyiter ty ?_)))));refine(Zv (XZ l Y (by show 1<4;decide) (Zv (Yl ?_))));refine Zv (wpAny_isOneOf_keyiter ⟨_,p,rfl⟩ ?_);refine(Zl (Zl ⟨_,rfl,y e he _ (Xa ..) p⟩))
  |none =>
   refine Zv (Zv (Wb ty (Zl ?_)));refine(Zv (XZ l Y (by show 0<4;decide) (Bi t λa x kp r=>⟨x,rfl,r,u he a λb o hb e=>kp b o ?_⟩)));rw[Yz _ _ (Yy hb)];exact e
 ·subst e1;exact Zv (wpAny_isInstance ⟨o,g,c⟩ isSubtype_stop (Zl q))
end ST
end
section
namespace VS
open PySem PySem.Spec PyProof.Rows L2
def EJ{i:Int}:PV G X (.UnaryOp .USub (.Constant (.int i) j p) a) (Q3 (-i)) :=
 PE.weak (II FZ rD) λM H Q b=>by
  obtain⟨O,U,m,t,s,e,k⟩:=b;cases (e);exact⟨i,rfl,k _ H [] (aI.refl _) (.int _) Fp.nil⟩
end VS
end
section
namespace L2
open PySem PySem.Spec PyProof.Rows
section
def CA:V->List V->Hp->VK->Prop:=λx d H Q=>∃(a:On)(b:List (Key×V))(k:Key)(y:V),x=.ref a/\d=[kV k,y]/\H a=Z (.dK b)/\b.length<KM ∧
 (∀v,cX b k=Z v->Q v H)/\(cX b k=L->Q y (upd H a (.dK (putK b k y))))
def yJ:Rv X "dict.setdefault" CA:=by
 intro i s M H x N v O Q I o p h;obtain⟨a,g,k,y,rfl,rfl,e,P,A,t⟩:=h;cases o;obtain⟨u,n,rfl,r,d⟩:=p.two;obtain⟨z,hd,m,rel,j⟩:=qg I.JZ e;have b:=rel.val k;refine call_meetsIn PySem.F.slot_dict_setdefault j.typeIs PySem.F.entry_dict_setdefault (PySem.F.args_dict_setdefault_3 _ _ _) (kt_meets_setdefault (aU X.prog X.w) a (lU r) hd n) ⟨m,j,(by rw[← rel.length];exact z),λv C=>?_,λG R l D=>?_⟩
 ·rw[C]at b;cases f:cX g k with
  |none=>rw[f]at b;cases b
  |some w =>
   rw[f]at b;exact⟨w,H,I.tok _,b,A w f⟩
 ·rw[G]at b;exact⟨y,_,lD I (by rw[e];exact True.intro) D (let ⟨q,_,_,E,_⟩:=l;⟨q,E⟩) (pD (by have:=fX g k y;lia) hd (rel.put k d) l),d,t (by
   cases f:cX g k with
   |none=>rfl
   |some w=>rw[f]at b;cases b)⟩
end
end L2
namespace VS
open PySem PySem.Spec PyProof.Rows L2
section
def dM(l:List (T×T))(k:T):List (T×T):=if (dn l k).isSome then l else l++[(k,.lst [])]
def lS(i:Nat)(k:Ex)(v:Ko)(U:VS.Env):Option Out:=match U[i]? with
 |some (some (.ow (.dct 0 l)))=>(k U).bind λd=>if fm d.2/\l.length<fq then
   (v (U.set i (Z (.ow (.dct 0 (dM l d.2)))))).bind λf=>(pm (λx=>aJ x f) [.at d.2] (.dct 0 (dM l d.2))).map λz=>.nx (U.set i (Z (.ow z.1))) else L
 |_=>L
def Chg.none{f:Hp}{t:T}(d:aI H f)(r:Rp G H v t F)(g:F.Nodup):Chg G H v F t f F :=
 ⟨Kept.of d,λb o _ h=>d b o h,λb h z=>h (d.free z),r.same d,g,λa j=>.inl j⟩
def FU{a:On}{L:List (T×T)}(r:Rp G H (.ref a) (.dct 0 L) F)(E:F.Nodup)(e:pm f [.at (aD d)] (.dct 0 L)=Z (l,y))(O:H a=Z (.dK M))(hw:cX M d=Z w) :
  ∃x v A,Rp G H w x v/\v.Nodup/\f x=Z (A,y)/\∀t Y,Chg G H w v A t Y->∃F',Chg G H (.ref a) F l t F':=by
 have e:((L.findIdx? λp=>eqT p.1 (aD d)).bind λi=>(L[i]?).bind λp=>(pm f [] p.2).map λz=>(T.dct 0 (L.set i (p.1,z.1)),z.2))=Z (l,y):=by
  cases d<;>exact e
 obtain⟨i,Q,e⟩:=Zz.mp e;obtain⟨p,P,e⟩:=Zz.mp e;obtain⟨⟨z,y'⟩,e1,e2⟩:=Zw.mp e;cases e2;obtain⟨a',ns,vs,j,Fs,ea,rfl,N,s,rfl,m⟩:=dc r;cases ea;rw[O]at N;cases N;have N7:(ns.map aD).length=j.length:=by rw[Zt];exact s.trans m.len.1
 obtain⟨q,h,S,R,g3,g4⟩:=jt (λn=>eqT n (aD d)) N7 Q;have ep:p=(q,h):=by
  have:((ns.map aD).zip j)[i]?=Z (q,h):=by rw[Yn];exact⟨S,R⟩
  rw[this]at P;exact(Zh P).symm
 subst ep;obtain⟨u,Fi,D,C,u3⟩:=m.get i R;have U:=rZ (by simpa using N7) s Q D;rw[hw]at U;cases U;refine⟨h,Fi,z,u3,((Zb.mp E).2).sublist (bC C),e1,λt Y g=>?_⟩;obtain⟨s1,s2,s3,s4,s5⟩:=lE O m E D C g;refine⟨_,g.kept,s5,g.Kd,?_,s3,s4⟩;rw[nQ (ns.map aD) j i q z S];exact .dct s1 s s2
def AE{pos apos MM:Pos}(J:l6 G)(i:Nat)(hk:PV G X b ck)(hv:Lc G X [e] cs)(hK:X.K=G.K)(hN:X.N[i]?=Z x)(V6:L6 X.env.scope x)(hd:K3 x)(Ks:K4 x)(NO:XAA (.Name x p1) "setdefault" X.env (eval (.Name x p1) X.env)=eval (.Name x p1) X.env)(hf1:((backTo OF (P3 [b,.List [] lp] X.env)).all (λx=>!x.1)&&(backToKw OF (SL [] X.env)).all (λx=>x.1.isSome)
   && decide ([b,Expr.List [] lp].length+([]:List Keyword).length+(if ([]:List Keyword).isEmpty then 0 else 1)<30))=true)(hl1:(MM.endLine==OF.line)=true)(QR:P3 [b,.List [] lp] X.env=(B,eval b X.env) :: P3 [.List [] lp] X.env)(XS:P3 [.List [] lp] X.env=(B,eval (.List [] lp) X.env) :: P3 [] X.env)(SM:(backTo OF (P3 [.List [] lp] X.env)).any (·.1)=B)(NN:XAA (.Call (.Attribute (.Name x p1) "setdefault" MM) [b,.List [] lp] [] OF) "append" X.env (eval (.Call (.Attribute (.Name x p1) "setdefault" MM) [b,.List [] lp] [] OF) X.env)=eval (.Call (.Attribute (.Name x p1) "setdefault" MM) [b,.List [] lp] [] OF) X.env)(hf2:((backTo pe (P3 [e] X.env)).all (λx=>!x.1)&&(backToKw pe (SL [] X.env)).all (λx=>x.1.isSome)
   && decide ([e].length+([]:List Keyword).length+(if ([]:List Keyword).isEmpty then 0 else 1)<30))=true)(MY:(apos.endLine==pe.line)=true)(MD:K1 e [] X)(YI:(backTo pe (P3 [] X.env)).any (·.1)=B)(Lm:swapsWith (.Call (.Attribute (.Call (.Attribute (.Name x p1) "setdefault" MM) [b,.List [] lp] [] OF) "append" apos) [e] [] pe) L pos.line X.env=pure B) :
  PSV G X (.Expr (.Call (.Attribute (.Call (.Attribute (.Name x p1) "setdefault" MM) [b,.List [] lp] [] OF) "append" apos) [e] [] pe) pos) (lS i ck cs) :=
 PS.weak (hZ (lI Y7 Y4 Y3 fC
  (lI PySem.F.plainAttrs_dict PySem.F.slot_dict_setdefault PySem.F.type_dict_setdefault yJ (dS hN V6 hd Ks) (bW hk (bW (rA dP) dP XS) QR) NO hf1 hl1 QR SM) hv NN hf2 MY MD YI) Lm) λD M H A=>by
  obtain⟨O,U,out,s,e,k⟩:=A;refine L2.iq λP_ t=>?_;unfold lS at e;split at e
  ·rename_i l P;obtain⟨⟨mk,tk⟩,MH,e⟩:=Zz.mp e;split at e
   ·rename_i hc;obtain⟨c1,c2⟩:=hc;obtain⟨lv,ev,e⟩:=Zz.mp e;obtain⟨⟨t',y'⟩,e5,e6⟩:=Zw.mp e;cases e6;obtain⟨v,g1,g2⟩:=s.rp _ _ P;have QH:=s.nd i _ P;obtain⟨a,ns,j,m,Fs,rfl,R,ha,S,el,r⟩:=dc g2;subst el;rw[R]at QH;refine t ?_;refine⟨.ref a,g1,by rw[hK];exact .inr (.inr (.inl ⟨rfl,.inl ⟨_,ha⟩⟩)),?_⟩;refine⟨O,U,mk,tk,s,MH,λkv H1 Fk Kw rk fk=>⟨Yk _,λq A=>?_⟩⟩;refine L2.iq λP_ t=>?_;obtain⟨d,rfl,etk⟩:=dB rk c1;subst etk;refine t ?_;have fin:∀(n:Hp)(F3:Wc)(QK:List (Key×V))(w:V),Chg G H (.ref a) (O i) (.dct 0 (dM ((ns.map aD).zip m) (aD d))) n F3->n a=Z (.dK QK)->cX QK d=Z w →
      tyV X.K "list" w n/\Uc G cs M n (λOO H4=>si w OO H4 (λ_ H5=>D.nx M H5)):=λn F3 QK w g h3 hw=>by
     refine L2.iq λP_ t=>?_;obtain⟨z1,z2⟩:=s.mut P g1 g;obtain⟨x',F1,x3,w2,w3,w4,w5⟩:=FU g.rp g.nd e5 h3 hw;refine t ?_;refine⟨by rw[hK];exact fK w2 w4,jv O i F3,_,lv,z1,ev,λOO H4 Rw q1 q2 q3=>?_⟩;refine iJ (jv O i F3) _ n H4 w x' x3 F1 lv OO Rw y' _ w2 w3 ⟨q1,q2,q3⟩ w4 λu H5 F' g5=>?_;obtain⟨F2,g6⟩:=w5 H5 F' g5;obtain⟨y1,y2⟩:=z1.mut (by
      have hi:i<U.length:=(Ze.mp P).1;rw[YG hi]) g1 (by rw[ig];exact g6)
     rw[List.set_set]at y1 y2;exact k _ M H5 y1 (z2.trans y2)
    have E:aI H (upd H1 q (.lst [])):=Kw.trans (bB A);have MG:=E a _ ha;have dg:=j4 (G:=G) (k:=d) S r;refine⟨a,ns.zip j,d,.ref q,rfl,rfl,MG,(by
     have:((ns.map aD).zip m).length<16777216:=c2;rw[Yv,Zt]at this;rw[Yv];have:=r.len.1;have:(KM:Nat)=16777216:=rfl;lia),λw hw=>?_,λhn=>?_⟩
    ·refine fin _ (a :: Fs.flatten) (ns.zip j) w ?_ MG hw;have es:dM ((ns.map aD).zip m) (aD d)=(ns.map aD).zip m:=by
      unfold dM;rcases dg with⟨C,Q⟩ | ⟨_,_,t2,_,C,_⟩
      ·rw[Q]at hw;cases hw
      ·rw[C];rfl
     rw[es,R];exact Chg.none E (by rw[R]at g2;exact g2) QH
    ·have es:dM ((ns.map aD).zip m) (aD d)=((ns++[d]).map aD).zip (m++[.lst []]):=by
      unfold dM;rcases dg with⟨C,Q⟩ | ⟨_,_,t2,_,C,Q,_⟩
      ·rw[C,Zn (by simp),Z8,Wh (by rw[Zt];exact S.trans r.len.1)];rfl
      ·rw[Q]at hn;cases hn
     have ep:putK (ns.zip j) d (.ref q)=(ns++[d]).zip (j++[.ref q]):=by
      unfold putK;rw[jN,hn,Zn (by simp),Wh S];rfl
     have qa:q≠a:=λz=>by
      have:=Kw a _ ha;rw[← z,A]at this;cases this
     have qH:=Kw.free A;have m2:J8 (upd H1 q (.lst []) a):=by rw[MG];exact True.intro
     have nd:=Zb.mp QH;have h3q:upd (upd H1 q (.lst [])) a (.dK (putK (ns.zip j) d (.ref q))) q=Z (.lst []):=by rw[aw qa,aq]
     refine fin _ (a :: (Fs++[[q]]).flatten) (putK (ns.zip j) d (.ref q)) (.ref q) ?_ aq (by rw[zA,Zp Y]);rw[es,R];refine Chg.upd E Zx m2 (.dct (by rw[aq,ep]) (by simp[S]) (((r.same E).off m2 nd.1).append (.cons (.lst h3q .nil) .nil))) ?_ ?_
     ·rw[Yg];refine Zb.mpr ⟨λz=>?_,ZL.mpr ⟨nd.2,by simp,λx hx y f z=>?_⟩⟩
      ·rcases ZW.mp z with z | z
       ·exact nd.1 z
       ·have h:a=q:=by simpa using z
        exact qa h.symm
      ·subst z;exact(λz=>J8.JX (r.Kd q z) qH) (by simpa[by simpa using f] using hx)
     ·intro y f;rcases Zo.mp f with rfl | f
      ·exact .inl Zx
      ·rw[Yg]at f;rcases ZW.mp f with f | f
       ·exact .inl (Zy _ f)
       ·rw[show y=q by simpa using f];exact .inr qH
   ·cases e
  ·cases e
end
end VS
end
section
namespace VS
open PySem PySem.Spec PyProof.Rows L2
section
def Rp.Mw(r:Rp G H v (.tup f) F):∃b d g,v=.ref b/\H b=Z (.tup d)/\RpL G H d f g:=by
 cases r with
 |tup h q=>exact⟨_,_,_,rfl,h,q⟩
end
end VS
end
section
namespace L2
open PySem PySem.Spec PyProof.Rows
section
def Bp{o:Obj}(h:o.ExactDict)(e:o.data=.dict a b):o=ST.dO a b:=by
 obtain⟨c,d,l,j⟩:=o;obtain⟨i,g,f⟩:=h;subst i g f e;rfl
end
end L2
namespace VS
open PySem PySem.Spec PyProof.Rows L2
section
def Dc(h:x=sx t)(n:pT t):PV G X (.Dict [Z (.Constant (.str x) j q)] [.List [] i] pos) (pZ 0 [(eC (.str t),fg aj)]) :=
 PE.weak (yd (uG BZ (rA dP) xA) Y Y (by simp) (by show 1<=15;decide)) λM H Q l=>by
  obtain⟨O,U,m,r,s,e,k⟩:=l;subst h;cases (e);intro p f;refine⟨Yk _,λb hb=>?_⟩;have d:b≠p:=λz=>by rw[z,aq]at hb;cases hb
  have g:H b=L:=by rw[aw d]at hb;exact hb
  refine⟨by rw[aw (Yy d),aq],[(Sum.inr (sx t),.ref b)],rfl,(by show 1<=15;decide),?_⟩;have u:aD (Sum.inr (sx t))=.str t:=rfl;have:Rp G (upd (upd (upd H p (.dK [])) b (.lst [])) p (.dK [(Sum.inr (sx t),.ref b)])) (.ref p) (.dct 0 ((([Sum.inr (sx t)]:List Key).map aD).zip [.lst []])) (p :: ([[b]]).flatten) :=
   .dct (vs:=[V.ref b]) aq Y (.cons (.lst (by rw[aw d,aq]) .nil) .nil)
  exact k _ _ _ (λc o a=>by
   rw[aw (aY a f),aw (aY a g),aw (aY a f)];exact a) this ⟨by simp[Yy d],λc a=>by
   rcases Zo.mp a with rfl | a
   ·exact f
   ·simp at a;rw[a];exact g⟩
end
end VS
end
section
namespace VS
open PySem PySem.Spec PyProof.Rows L2
section
def ju{b:Expr}(s:PV G X a i)(o:PV G X b f)(n:PV G X c d)(l:lastMarks [.LtE,.Lt] [b,c]=B):LY G X (.Compare a [.LtE,.Lt] [b,c] pos) (i9 oLe oLt i f d) :=
 PT.weak (tN Fh oQ s o n l) λM H Q h=>oZ h (λU m r e=>by
  obtain⟨x,A,e⟩:=Zz.mp e;obtain⟨y,w,e⟩:=Zz.mp e;obtain⟨⟨t,z⟩,u,e⟩:=Zz.mp e;cases z with
  |bl q =>
   cases q with
   |false=>cases e;exact⟨_,rfl⟩
   |true =>
    obtain⟨j,v,e⟩:=Zz.mp (e);exact jr y j m r e
  |_=>cases e) λQ h=>tu Ic t5 h
def vo{pos:Pos}(h:PV G X e a)(i:swapsWith e L pos.line X.env=pure B):PSV G X (.Expr e pos) (sX (xP a)) :=
 PS.weak (hZ h i) λD M H d=>by
  obtain⟨O,U,out,s,e,k⟩:=d;obtain⟨⟨v,l⟩,e1,e2⟩:=Zw.mp e;obtain⟨⟨m,t⟩,e3,f⟩:=Zw.mp e1;cases f;cases e2;exact⟨O,U,m,t,s,e3,λv j F e1 r1 f1=>k O M j (s.same e1) (Kh.same e1)⟩
@[simp] def tm(i:Nat)(c:Ex)(f:Ko)(U:VS.Env):Option (Val×VS.Env):=match U[i]? with
 |some (some (.ow (.lst l)))=>(c U).bind λd=>(int? d.2).bind λn=>(KU l.length n).bind λj=>(l[j]?).bind λx=>(f U).bind λa=>(aJ x a).map λz=>(z.2,U.set i (Z (.ow (.lst (l.set j z.1)))))
 |_=>L
def Fc{X:Cx}{pos apos:Pos}(i:Nat)(hN:X.N[i]?=Z x)(hv:L6 X.env.scope x)(hd:K3 x)(Ks:K4 x)(hb:PV G X b cb)(m:fH b)(ha:Lc G X [e] cs)(hK:X.K=G.K)(Ka:XAA (.Subscript (.Name x p1) b p2) "append" X.env (eval (.Subscript (.Name x p1) b p2) X.env)=eval (.Subscript (.Name x p1) b p2) X.env)(Kr:((backTo pe (P3 [e] X.env)).all (λx=>!x.1)&&(backToKw pe (SL [] X.env)).all (λx=>x.1.isSome)
   && decide ([e].length+([]:List Keyword).length+(if ([]:List Keyword).isEmpty then 0 else 1)<30))=J)(J6:(apos.endLine==pe.line)=J)(hs:K1 e [] X)(J2:(backTo pe (P3 [] X.env)).any (·.1)=B)(Lm:swapsWith (.Call (.Attribute (.Subscript (.Name x p1) b p2) "append" apos) [e] [] pe) L pos.line X.env=pure B) :
  PSV G X (.Expr (.Call (.Attribute (.Subscript (.Name x p1) b p2) "append" apos) [e] [] pe) pos) (sX (tm i cb cs)) :=
 PS.weak (hZ (lI Y7 Y4 Y3 fC (lM x8 (dS hN hv hd Ks) hb m) ha Ka Kr J6 hs J2) Lm) λD M H hq=>by
  obtain⟨O,U,out,s,e,k⟩:=hq;unfold sX tm at e;obtain⟨⟨y',U'⟩,e1,e2⟩:=Zw.mp e;split at e1
  ·rename_i l0 h;obtain⟨⟨mk,tk⟩,MH,e3⟩:=Zz.mp e1;obtain⟨n,A,e3⟩:=Zz.mp e3;obtain⟨j,h1,e3⟩:=Zz.mp e3;obtain⟨Y,h2,e3⟩:=Zz.mp e3;obtain⟨l,el,e3⟩:=Zz.mp e3;obtain⟨⟨S,R⟩,o,e6⟩:=Zw.mp e3;cases e6;cases e2;cases tk with
   |int n0 =>
    cases (A);obtain⟨v,z,g2⟩:=s.rp _ _ h;have nd:=s.nd i _ h;obtain⟨a,vs,Fs,rfl,C,E,f⟩:=g2.lst_inv;obtain⟨u,Fj,t,r,q⟩:=f.get j h2;rw[C]at nd;refine⟨.ref a,z,O,U,mk,_,s,MH,λy H1 F1 d r1 f1=>?_⟩;refine⟨a,vs,_,u,rfl,r1.int_inv,Kb.of (d a _ E),i5 (by rw[f.len.1];exact h1) t,by rw[hK];exact fK (q.same d) o,O,U,l,s.same d,el,λOO H4 Rw q1 q2 w=>?_⟩;refine iJ O U H H4 u Y S Fj l OO Rw R _ q (((Zb.mp nd).2).sublist (bC r)) ⟨d.trans q1,q2,⟨λn v' F a1 a2=>(w.each n v' F a1 a2).back d,w.nd⟩⟩ o λu' H5 F g=>?_;obtain⟨s1,s2,s3,s4,s5⟩:=lE E f nd t r g;obtain⟨Q,P⟩:=s.mut h z (by
     rw[C];exact⟨g.kept,s5,g.Kd,.lst s1 s2,s3,s4⟩)
    exact k _ M H5 Q P
   |_=>cases A
  ·cases e1
end
section
def G9{j pos'}(g:PV G X a ca):LY G X (.Compare a [.Is] [.Constant .none j pos'] pos) (Ik ca) :=
 PT.weak (Cb (E3 g)) λM H Q h=>Ey h (λU m r e=>by
  obtain⟨x,_,e⟩:=Zz.mp e;cases e;exact⟨_,rfl⟩) λQ f=>by
   obtain⟨O,U,m,r,s,e,q⟩:=f;obtain⟨⟨n,x⟩,i,e⟩:=Zz.mp e;cases e;refine⟨O,U,n,x,s,i,λv d F e1 r1 f1=>?_⟩;show Q (.bl (decide (v=.non))) d;rw[xw r1];exact q _ d _ e1 (.bl _) Fp.nil
def nU{j pos'}(g:PV G X a ca):LY G X (.Compare a [.IsNot] [.Constant .none j pos'] pos) (ie ca) :=
 PT.weak (Cb (D5 g)) λM H Q h=>Ey h (λU m r e=>by
  obtain⟨x,_,e⟩:=Zz.mp e;cases e;exact⟨_,rfl⟩) λQ f=>by
   obtain⟨O,U,m,r,s,e,q⟩:=f;obtain⟨⟨n,x⟩,i,e⟩:=Zz.mp e;cases e;refine⟨O,U,n,x,s,i,λv d F e1 r1 f1=>?_⟩;show Q (.bl (!decide (v=.non))) d;rw[xw r1];exact q _ d _ e1 (.bl _) Fp.nil
def pN(i:Nat)(k e:Ex)(U:VS.Env):Option Out:=(e U).bind λv=>match U[i]? with
 |some (some (.ow (.dct 0 l)))=>(k U).bind λd=>if fm d.2/\J3 v.2/\l.length<fq then Z (.nx (U.set i (Z (.ow (.dct 0 (dput l d.2 v.2)))))) else L
 |_=>L
def BB{X:Cx}{pos:Pos}(i:Nat)(hr:JY kr X.A)(hk:PV G X b ck)(he:PV G X e ce)(hN:X.N[i]?=Z x)(hv:L6 X.env.scope x)(hd:K3 x)(Ks:K4 x)(ha:∀v,assign (.Subscript (.Name x p1) b pos') X.env v=(do
   let f ← holding [v] (eval (.Name x p1) X.env)
   let iv ← holding [v,f] (eval b X.env)
   standAt pos'
   holding [v,f,iv] (setItem f iv v)
   release [v,f,iv] []))(hs:swapsWithSole [.Subscript (.Name x p1) b pos'] e pos.line X.env=pure B)(hw:swappedStores [.Subscript (.Name x p1) b pos'] e X.env=pure L)(h1:(assignEach [.Subscript (.Name x p1) b pos'] X.env).map (·.2)=[assign (.Subscript (.Name x p1) b pos') X.env]):PSV G X (.Assign [.Subscript (.Name x p1) b pos'] e pos) (pN i ck ce) :=
 PS.weak (rK he (sJ (dS hN hv hd Ks) hk (yf (j3 hr)) ha) hs hw h1) λD M H hq=>by
  obtain⟨O,U,out,s,e,k⟩:=hq;obtain⟨⟨mv,n⟩,ev,e⟩:=Zz.mp e;split at e
  ·rename_i l j;obtain⟨⟨mk,tk⟩,MH,e⟩:=Zz.mp e;split at e
   ·rename_i hc;obtain⟨c1,c2,c3⟩:=hc;cases e;obtain⟨w,t,S⟩:=s.rp _ _ j;have m:=s.nd i _ j;refine⟨O,U,mv,n,s,ev,λxv H1 Fv F rv fv=>⟨w,t,O,U,mk,tk,s.same F,MH,λkv P Fk C rk fk=>?_⟩⟩;have h:=F.trans C;have y:=rv.same C;have eF:=y.J3 c2;subst eF;obtain⟨a,ns,Y,o,Fs,rfl,u,J7,hl,rfl,p⟩:=dc S;rw[u]at m;obtain⟨r,rfl,M8⟩:=dB rk c1;subst M8;have E:=h a _ J7;have q:J8 (P a):=by rw[E];exact True.intro
    have nd:=Zb.mp m;obtain⟨QL,LW,Lg,LJ,q1,q2,q3,q4,d⟩:=sF y hl (p.same h);refine .inr ⟨a,_,rfl,uk.k E (by
     have:((ns.map aD).zip o).length<16777216:=c3;rw[Yv,Zt]at this;rw[Yv];have:=p.len.1;have:(KM:Nat)=16777216:=rfl;lia),?_⟩
    have g:Chg G H (.ref a) (O i) (.dct 0 (dput ((ns.map aD).zip o) (aD r) n)) (upd P a (.dK (putK (ns.zip Y) r xv))) (a :: LJ.flatten):=by
     rw[u,q1,q3];refine Chg.upd h Zx q (.dct aq q2 (q4.off q λz=>nd.1 (d.subset z))) ?_ ?_
     ·exact Zb.mpr ⟨λz=>nd.1 (d.subset z),nd.2.sublist d⟩
     ·intro bb hb;rcases Zo.mp hb with rfl | hb
      ·exact .inl Zx
      ·exact .inl (Zy _ (d.subset hb))
    obtain⟨R,Q⟩:=s.mut j t g;exact k _ M _ R Q
   ·cases e
  ·cases e
end
end VS
end
section
namespace DP
open PySem PySem.Spec PyProof.Rows
def Dr:typeLookup (.type "tuple") "keys" = pure L:=by rw[Vz,Wg];kernel_rfl
def D8{A:SC}{h:UF}{os}(l:h.get? a=Z { cls:=.type "tuple",dict:=L,data:=.seq i k,slots:=j })(q:A.handled=L)(p:∀f b e,Heap.NewExcOf h f e "AttributeError" → E (.ref e) ⟨f,g,d,b,os⟩):Pi (KF prog w) A (getAttrBy (.ref a) (.str "keys" u) B) Q E ⟨h,g,d,o,os⟩:=by
 have m:∀b,(⟨h,g,d,b,os⟩:KB).TypeIs (.ref a) "tuple" := λ_=>⟨_,l,rfl⟩
 have f1:=sub_AttributeError;have x:=WI.lookup;have v:=WI.bind (.ref a);have t:=am_tuple_getattr_none
 repeat (any_goals (first | assumption | exact m _ | ((with_reducible show Pi _ _ (call (Value.builtin "tuple.__getattribute__") _ _) _ _ _);refine call_meets WI (m _) am_entry_tuple_getattribute (F.args_tuple_getattribute_2 _ _) (meets_getattribute_miss_tuple a i k j "keys" _ Dr (by decide +kernel)) ⟨l,q,λf b e n=>?_⟩) | wp_step))
 obtain⟨s,r,he⟩:=n.there;unfold getattributeRaised
 repeat (any_goals (first | assumption | wp_step))
 exact p _ _ _ n.of
end DP
end
section
namespace DP
open PySem PySem.Spec PyProof.Rows L2
def yY{A:SC}{h:UF}{os}(o:h.get? a=Z { cls:=.type "tuple",dict:=L,data:=.seq j k,slots:=m })(s:A.handled=L)(p:∀b i e,Heap.NewExcOf h b e "AttributeError" → Q L ⟨b,g,d,i,os⟩):Pi (KF prog w) A (getAttr? (.ref a) "keys") Q E ⟨h,g,d,l,os⟩:=by
 have f1:=sub_AttributeError
 repeat (any_goals (first | assumption | (with_reducible refine D8 o (by assumption) λb i e f=>?_) | wp_step))
 obtain⟨⟨oc,r,n,t⟩,q,ge,ce,_,_⟩:=f.there;dsimp only at ce;subst ce
 repeat (any_goals (first | assumption | wp_step))
 exact p _ _ _ f
def pF:entryFor table "dict.update.loop" = Z Builtin.«dict.update.loop» := entryFor_of_tree (by kernel_rfl)
def i3:plainId "dict.update.loop" = J:=by decide +kernel
section
theorem loop{prog:SB}{w:UV}{A:SC}{R:Result->KB->Prop}{I:On}{fp wr:Wc}{G:Array GenState->Array GenState->Prop}{n:Nat}{P:Nat->PP->Prop}{St:Nat->KB->Prop}(W:WalksS prog w A.in1 I fp wr G n P St)(d:On)(NL:d∉fp)(Y:UF)(a:Nat->Key×PP)(hP:∀i v,P i v->∃p m X u,v=.ref p/\Y.get? p=Z { cls:=.type "tuple",dict:=L,data:=.seq #[u,(a i).2] m,slots:=X }/\(aU prog w).is (a i).1 u=J/\p∉d :: wr)(f:n<=KM) :
  ∀(k i:Nat)(s:KB),n-i=k->i<=n->St i s->(∀b o,b∉d :: wr->Y.get? b=Z o->s.heap.get? b=Z o)->s.heap.DictOf (aU prog w) d (merged [] ((List.range i).map a)) →
   (∀g,Moved (d :: wr) G s g->g.heap.DictOf (aU prog w) d (merged [] ((List.range n).map a))->R (.ok (.ret .none)) g) →
   codeAny (KF prog w) A (.builtin "dict.update.loop" ⟨[.ref d,.ref I,rawInt i,.none],[]⟩) R s:=by
 have Te:=λh=>NL (W.sub _ h);have x:∀b∈wr,b∈d :: wr:=λb f=>Zy _ f;intro k
 induction k with
 |zero =>
  intro i s hk hi U H hS M;have La:i=n:=by lia
  subst La;refine Yj pF ?_;rw[Z7 i3 _];refine Zv (W.done s _ _ U λg j=>?_);refine Zv (Zl ?_);exact Zl (M g (j.mono x) (by
   obtain⟨o,O,S,D,rest⟩:=hS;exact⟨o,O,S,j.heap d _ Te D,rest⟩))
 |succ k ih =>
  intro i s hk hi U H hS M;have Kq:i<n:=by omega
  refine Yj pF ?_;rw[Z7 i3 _];refine Zv (W.item i s _ _ Kq U λv g N MC j=>?_);obtain⟨p,m,X,u,rfl,hp,F,l⟩:=hP i v N;have RI:=j.heap p _ (λz=>l (x p z)) (H p _ l hp);refine Zv (Yl ?_);refine Zv (thn (Q:=λr C=>r=[u,(a i).2]/\C=g) ?pair λr C hr=>?rest)
  case pair =>
   refine YB ?_
   repeat (any_goals (first | assumption | wp_step))
   exact⟨rfl,rfl⟩
  case rest =>
   obtain⟨rfl,rfl⟩:=hr;refine Yl ?_;refine wpAny_dictSet_pairs F (by
   obtain⟨o,O,S,D,rest⟩:=hS;exact⟨o,O,S,j.heap d _ Te D,rest⟩) (λh' dd y=>?_) (by have:=merged_length_le [] ((List.range i).map a);simp at this;lia)
   have e1:((i:Int)+1)=((i+1:Nat):Int):=by lia
   rw[e1];refine Zl ⟨YZ i3 _,ih (i+1) _ (by omega) Kq (W.frame _ C _ _ MC (Y6 _) λb f o e=>?_) (λb o f e=>?_) (by
    rw[List.range_succ,Z8,show merged ([]:List (Key×PP)) ((List.range i).map a++[i].map a)=stored (merged [] ((List.range i).map a)) (a i).1 (a i).2 by unfold merged;rw[List.foldl_append];rfl];exact dd) λSf q t=>?_⟩
   ·rw[y.2 b (λh:b=d=>NL (by rw[← h];exact f))];exact e
   ·rw[y.2 b (λh:b=d=>f (by rw[h];exact Zx))];exact j.heap b _ (λz=>f (x b z)) (H b o f e)
   ·refine M Sf (Moved.trans W.gtrans ((j.mono x).then_heap (Y6 _) λb o f e=>?_) q) t;rw[y.2 b (λh:b=d=>f (by rw[h];exact Zx))];exact e
end
end DP
end
section
namespace DP
open PySem PySem.Spec PyProof.Rows L2
def uJ:mroOf (.type "dict")=pure [.type "dict",.type "object"]:=by rw[mroOf_type];kernel_rfl
def nO:typeLookup (.type "dict") "__new__" = pure (Z (.builtin "dict.__new__")):=by rw[Vz,Wg];kernel_rfl
def uN:TypeCalled "dict" "dict.__new__" "dict.__init__" :=
 ⟨by decide +kernel,by decide +kernel,⟨_,_,uJ⟩,madeBy_type uJ nO (by decide +kernel),by decide +kernel,by rw[Vu];kernel_rfl,F.slot_dict_init⟩
def nK(a:PP):checkTypeCall "dict" ⟨[a],[]⟩=pure ():=by kernel_rfl
def oO(a:PP):checkBuiltinCall "dict.__new__" ⟨[.type "dict",a],[]⟩=pure ():=by kernel_rfl
def oR:entryFor table "dict.__new__" = Z Builtin.«dict.__new__» := entryFor_of_tree (by kernel_rfl)
def jF:plainId "dict.__new__" = J:=by decide +kernel
def pS:isSubtype (.type "dict") (.type "dict")=pure J:=by rw[Vu];kernel_rfl
def p9{s:KB}(a:PP)(h:b (.ref s.heap.objs.size) { s with heap:=s.heap.push { cls:=.type "dict",data:=.dict #[] } }) :
  codeAny (KF prog w) A (.call (.builtin "dict.__new__") ⟨[.type "dict",a],[]⟩) (wants b E) s:=by
 refine codeAny_of_tree (Zv (Vv (oO a) (Zl ⟨YZ jF _,Yj oR ?_⟩)));rw[Z7 jF];have own:=pS;cases s
 wp_walk
 exact h
def zb{A:SC}{s:KB}{kv:Nat->Key×PP}(M:A.handled=L)(H:s.heap.get? a=Z { cls:=.type "tuple",dict:=L,data:=.seq f G,slots:=u })(U:f.size<=KM)(hp:∀(i:Nat)(v:PP),f[i]?=Z v->∃p m x r,v=.ref p/\s.heap.get? p=Z { cls:=.type "tuple",dict:=L,data:=.seq #[r,(kv i).2] m,slots:=x }/\(aU prog w).is (kv i).1 r=J)(h:∀(n:UF)(C:Nat),n.DictOf (aU prog w) s.heap.objs.size (merged [] ((List.range f.size).map kv))->(∀b o,s.heap.get? b=Z o->n.get? b=Z o)->Q (.ref s.heap.objs.size) { s with heap:=n,toks:=C }) :
  Pi (KF prog w) A (call (.type "dict") [.ref a]) Q E s:=by
 refine callType_codes (Q₁:=λobj D=>obj=.ref s.heap.objs.size/\D={ s with heap:=s.heap.push { cls:=.type "dict",data:=.dict #[] } }) uN (nK _) F.entry_dict_init (p9 _ ⟨rfl,rfl⟩) λobj D hq=>?_;obtain⟨rfl,rfl⟩:=hq;refine⟨(⟨_,Zc _ Y,rfl⟩),F.args_dict_init_2 _ _,?_⟩;obtain⟨j,g,d,C,os⟩:=s;have O:=Zm { cls:=.type "dict",data:=.dict #[] } H;unfold Builtin.«dict.__init__» Builtin.Dict.updateCommon Builtin.Dict.updateFrom;generalize eP:pyIter=itr;generalize eG:getAttr?=ga
 repeat (any_goals (first | assumption | wp_step))
 subst eG;refine yY O (by simp[M]) λy R e ne=>?_;refine Zv (wpAny_rule ?_);subst eP;have t:=ZY (ne.keeps j.objs.size { cls:=.type "dict",data:=.dict #[] } (Zc _ Y));have z:∀{b:On}{o:Obj},j.get? b=Z o->b<j.objs.size:=λe=>ZY e;have l:∀b o,j.get? b=Z o->y.get? b=Z o:=λb o e=>ne.keeps _ _ (Zm _ e);have tup:y.IsTuple a f:=⟨_,(ne.keeps _ _ O),rfl,G,rfl⟩
 refine Zv (wpAny_pyIter_tuple tup (Zl ⟨YZ i3 _,?_⟩));have alt:=z H;refine loop ((Walks.tuple (by simp[M]) y.objs.size a (Zf (X7 alt t)) f).toS) j.objs.size (by simp only[Zo,Xi,or_false,not_or];exact⟨Zf t,XO alt⟩) j kv (λi v X=>?_) U f.size 0 _ (by lia) (Yk _) ?_ (λb o hb e=>Zm _ (l b o e)) (by
  obtain⟨o,es,ep,ho,rest⟩:=(Heap.DictOf.new (knd:=aU prog w) j)
  exact⟨o,es,ep,Zm _ (ne.keeps _ _ ho),rest⟩) λS mv dd=>?_
 ·obtain⟨p,m,x,r,rfl,N,g2⟩:=hp i v X;have:=z N;exact⟨p,m,x,r,rfl,N,g2,by simp only[Zo,Xi,or_false,not_or];exact⟨Zf this,Zf (X7 this t)⟩⟩
 ·exact⟨⟨_,Zc _ Y,rfl,rfl⟩,tup.push _⟩
 ·obtain⟨n,g',d',NX,RB⟩:=S;have e1:g'=g:=mv.gens;have e2:d'=d:=mv.drawn;have e3:=mv.os;subst e1 e2 e3;refine⟨rfl,h n NX dd λb o e=>mv.heap b o (λP=>?_) (Zm _ (l b o e))⟩;have:=z e;simp only[Zo,Xi,or_false]at P;rcases P with q | q
  ·exact Zf this q
  ·exact Zf (X7 this t) q
end DP
end
section
namespace L2
open PySem PySem.Spec PyProof.Rows
section
abbrev NQ:=On×Key×V
def CK(I:Inv X a M H s){q:NQ}(h:H q.1=Z (.tup [kV q.2.1,q.2.2])):∃b m e d,RelV q.2.2 b/\s.heap.get? q.1=Z { cls:=.type "tuple",dict:=L,data:=.seq #[d,b] m,slots:=e }/\(aU X.prog X.w).is q.2.1 d=J:=by
 obtain⟨_,p,f,nd,⟨oc,r,i,o⟩,g,l,n,j⟩:=(I.JZ _ _ h)
 have hd:=nd _ g;subst l j hd;obtain⟨d,b,rfl,r1,r2⟩:=vals2 f;exact⟨b,n,o,d,r2,g,lU r1⟩
theorem t4(I:Inv X a M H s):∀(ps:List NQ),(∀q∈ps,H q.1=Z (.tup [kV q.2.1,q.2.2])) →
  ∃f:List (Key×PP),Paired (λ(q:NQ) (d:Key×PP)=>q.2.1=d.1/\RelV q.2.2 d.2/\∃m e b,s.heap.get? q.1=Z { cls:=.type "tuple",dict:=L,data:=.seq #[b,d.2] m,slots:=e }/\(aU X.prog X.w).is d.1 b=J) ps f
 |[],_=>⟨[],.nil⟩
 |q :: ps,h=>by
  obtain⟨i,m,e,b,r,g,k⟩:=CK I (h q Zx);obtain⟨f,p⟩:=t4 I ps λx j=>h x (Zy _ j);exact⟨(q.2.1,i) :: f,.cons ⟨rfl,r,m,e,b,g,k⟩ p⟩
theorem qN(f:∀q d,R q d->q.2.1=d.1/\RelV q.2.2 d.2):∀{ps:List NQ}{e:List (Key×PP)},Paired R ps e->∀{a:List (Key×V)}{b:List (Key×PP)},KV a b->KV (ps.foldl (λacc q=>putK acc q.2.1 q.2.2) a) (merged b e)
 |_,_,.nil,_,_,r=>r
 |_,_,.cons (a:=q) (b:=d) h t,a,b,r=>by
  obtain⟨e1,e2⟩:=f _ _ h;have:=qN f t (r.put d.1 e2);simp only[YD,merged];rw[e1];exact this
theorem uc:∀(ps:List NQ)(a:List (Key×V)),(ps.foldl (λacc q=>putK acc q.2.1 q.2.2) a).length<=a.length+ps.length
 |[],a=>Zk _
 |q :: ps,a=>by
  have d:=uc ps (putK a q.2.1 q.2.2);have b:=fX a q.2.1 q.2.2;simp only[YD,Zi];lia
def Paired.at_{α β:Type}{R:α->β->Prop}:∀{l:List α}{m:List β},Paired R l m->∀(i:Nat){a:α},l[i]?=Z a->∃b,m[i]?=Z b/\R a b:=by
 intro l m p
 induction p with
 |nil=>intro i a h;cases h
 |cons r t d =>
  intro i a h;cases i with
  |zero=>cases h;exact⟨_,rfl,r⟩
  |succ i=>exact d i h
def vZ{X:Cx}(F:X.calm=J):dA X (.type "dict") (λe H Q=>∃(p:On)(ps:List NQ),e=[.ref p]/\H p=Z (.tup (ps.map λq=>V.ref q.1))/\(∀q∈ps,H q.1=Z (.tup [kV q.2.1,q.2.2])) ∧
  ∀l,H l=L->Q (.ref l) (upd H l (.dK (ps.foldl (λacc q=>putK acc q.2.1 q.2.2) [])))):=by
 intro j s M H e S Q I y h;obtain⟨p,ps,rfl,E,D,q⟩:=h;obtain⟨u,rfl,z⟩:=y.one;cases z;obtain⟨r,o,f,nd,⟨oc,Y,A,Nu⟩,g,N,n,G⟩:=(I.JZ _ _ E)
 have hd:=nd _ g;subst N G hd;obtain⟨b,pr⟩:=t4 I ps D;have l1:o.length=ps.length:=by have:=f.length;simpa using this.symm
 have l2:=pr.length.symm;rw[Zt]at r;have R:(List.range o.toArray.size).map (λi=>(b[i]?).getD (.inl 0,.none))=b:=by
  apply Wy;intro i;rw[Zd];by_cases a:i<b.length
  ·rw[Wf (by simp;lia),Zu a];simp[a]
  ·rw[ZF (by simp;lia),ZF (by exact ZO a)];rfl
 refine DP.zb (kv:=λi=>(b[i]?).getD (.inl 0,.none)) (I.ok.hd F) g (by simp;lia) (λi v d=>?_) λh' U t kp=>?_
 ·rw[Wr]at d;have a:i<ps.length:=by have:=(Ze.mp d).1;lia
  obtain⟨w,e1,e2⟩:=Paired.at_ f i (by rw[Zd,Zu a];rfl);rw[d]at e1;cases e1;obtain⟨kv,e3,e4,_,m,x,C,P,O⟩:=Paired.at_ pr i (Zu a);rw[e3];exact⟨ps[i].1,m,x,C,e2,P,O⟩
 ·rw[R]at t;have ln:=uc ps [];exact⟨.ref s.heap.objs.size,_,I.laid kp (Zk _) (pD (by simp at ln;exact ZJ ln r) (beq_eq_false_iff_ne.mpr (Yy (Zf I.big))) (qN (λ_ _ h=>⟨h.1,h.2.1⟩) pr (.nil:KV [] [])) t),rfl,q _ (I.JZ.fresh (Zk _))⟩
end
end L2
end
section
namespace VS
open PySem PySem.Spec PyProof.Rows L2
def rj:Vb->Option (List (T×T))
 |[]=>Z []
 |.tup [k,v] :: r=>if fm k/\J3 v then (rj r).map ((k,v) :: ·) else L
 |_=>L
def o5:Vd->Vc
 |[(_,.tup l)]=>(rj l).map λps=>(.fr,.dct 0 (ps.foldl (λd q=>dput d q.1 q.2) []))
 |_=>L
section
def DJ(h:rj (t :: l)=Z d):∃k v a,t=.tup [k,v]/\fm k=J/\J3 v=J/\rj l=Z a/\d=(k,v) :: a:=by
 unfold rj at h;split at h
 ·rename_i b;cases b
 ·rename_i k v r b;cases b;split at h
  ·rename_i c;obtain⟨a,e1,e2⟩:=Zw.mp h;exact⟨k,v,a,rfl,c.1,c.2,e1,e2.symm⟩
  ·cases h
 ·cases h
theorem uw:∀{d:Vb}{g:List V}{Gs:Xy}{a:List (T×T)},RpL G H g d Gs->rj d=Z a →
  ∃ps:List NQ,g=ps.map (λq=>V.ref q.1)/\(∀q∈ps,H q.1=Z (.tup [kV q.2.1,q.2.2]))/\Paired (λ(q:NQ) (x:T×T)=>x.1=aD q.2.1/\Rp G H q.2.2 x.2 []) ps a
 |[],_,_,a,r,h=>by
  cases r;cases (h);exact⟨[],rfl,λq o=>by simp at o,.nil⟩
 |t :: d,_,_,a,r,h=>by
  obtain⟨k,v,l,rfl,s,n,u,rfl⟩:=DJ h;cases r with
  |cons r1 r2 =>
   obtain⟨ps,e1,e2,e3⟩:=uw r2 u;obtain⟨b,z,A,rfl,hb,q⟩:=Rp.Mw r1;cases q with
   |cons j q =>
    cases q with
    |cons i q =>
     cases q;obtain⟨m,rfl,w⟩:=dB j s;have y:=i.J3 n;subst y;refine⟨(b,m,_) :: ps,by rw[e1];rfl,λx f=>?_,.cons ⟨w,i⟩ e3⟩;rcases Zo.mp f with rfl | f
     ·exact hb
     ·exact e2 x f
theorem tJ:∀{ps:List NQ}{u:List (T×T)},Paired (λ(q:NQ) (x:T×T)=>x.1=aD q.2.1/\Rp G H q.2.2 x.2 []) ps u->∀{ns:List Key}{f:List V}{g:Vb}{i:Xy},ns.length=f.length->RpL G H f g i->i.flatten=[] →
  ∃(n:List Key)(j:List V)(o:Vb)(s:Xy),ps.foldl (λacc q=>putK acc q.2.1 q.2.2) (ns.zip f)=n.zip j/\u.foldl (λd q=>dput d q.1 q.2) ((ns.map aD).zip g)=(n.map aD).zip o/\n.length=j.length/\RpL G H j o s/\s.flatten=[]
 |_,_,.nil,ns,f,g,i,l,r,m=>⟨ns,f,g,i,rfl,rfl,l,r,m⟩
 |_,_,.cons (a:=q) (b:=x) h t,ns,f,g,i,l,r,m=>by
  obtain⟨Q,j,o,s,C,A,z,y,v⟩:=sF h.2 l r;rw[m]at v;obtain⟨D,w,t2,P,O,N,M,F,E⟩:=tJ t A y (List.sublist_nil.mp v);refine⟨D,w,t2,P,?_,?_,M,F,E⟩
  ·rw[YD,C];exact O
  ·rw[YD,h.1,z];exact N
def AZ:fz G (λn H Q=>∃(p:On)(ps:List NQ),n=[.ref p]/\H p=Z (.tup (ps.map λq=>V.ref q.1))/\(∀q∈ps,H q.1=Z (.tup [kV q.2.1,q.2.2])) ∧
  ∀l,H l=L->Q (.ref l) (upd H l (.dK (ps.foldl (λacc q=>putK acc q.2.1 q.2.2) [])))) o5:=by
 intro O U P H l E R m t Q A e k;unfold o5 at e;split at e
 ·rename_i N M;obtain⟨o,e1,e2⟩:=Zw.mp e;cases e2;obtain⟨v,F,rfl,rfl,r⟩:=(A.rp).one;obtain⟨b,D,Gs,rfl,hb,q⟩:=Rp.Mw r;obtain⟨ps,rfl,a,pr⟩:=uw q e1;refine⟨b,ps,rfl,hb,a,λl j=>?_⟩;obtain⟨ns,h,z,C,y,x,w,u,s⟩:=tJ pr (ns:=[]) Y .nil Y;have g:ps.foldl (λacc q=>putK acc q.2.1 q.2.2) []=ns.zip h:=y;have f:o.foldl (λd q=>dput d q.1 q.2) []=(ns.map aD).zip z:=x;rw[g];have i:aI H (upd H l (.dK (ns.zip h))):=bB j;refine k _ _ (l :: C.flatten) i (by rw[f];exact .dct aq w (u.same i)) ?_;rw[s];exact Fp.new (A.same.free j) (by simp) Fp.nil
 ·cases e
def wY:bootBuiltins ("dict" : Str)=Z (.type "dict"):=by decide +kernel
def Ec{X:Cx}(a:X.mg "dict" = L)(f:Lc G X [e] cs)(b:{`q2,Gl X "dict"})(d:{`q2,X.calm=J})(he:{`q2,K1 e [] X}):PV G X (.Call (.Name "dict" p) [e] [] pos) (eN o5 cs) :=
 j9 (vZ d) AZ b a wY f (he:=he)
end
end VS
end
section
namespace L2
open PySem PySem.Spec PyProof.Rows
section
variable{H:Hp}
def Inv.R6(I:Inv X pins M H s)(e:H d=Z (.frz o u))(w:∀o u,X.H₀ d≠Z (.frz o u))(v:∀y,u ≠ .own y:=by exact λ_ z=>nomatch z):Inv X pins M (upd H d u) s:=by
 have up:∀{b:On},H b=L->upd H d u b=L:=λ{b} n=>by rw[aw ((λb n z=>by rw[z,e]at n;cases n) b n)];exact n
 have r:∀a b,H b=Z (.own a)->upd H d u b=Z (.own a):=λa b q=>by rw[aw λz=>by rw[z,e]at q;cases q];exact q
 have j:∀b f,H b=Z (.tup f)->upd H d u b=Z (.tup f):=λb f q=>by rw[aw λz=>by rw[z,e]at q;cases q];exact q
 have t:∀b h y,H b=Z (.frz h (.own y))->upd H d u b=Z (.frz h (.own y)):=λb h y q=>by rw[aw λz=>by rw[z,e]at q;cases q;exact v y Y];exact q
 refine⟨I.ok,I.os,I.bare,⟨I.base.keep,I.base.slot,λb o q n A=>up (I.base.free b o q n A),I.base.there,λb f q=>j b f (I.base.Mf b f q),λb m l q=>?_,λb ps q=>?_⟩,I.loc,I.cell,up I.free,λx c q=>up (I.KI x c q),λp C=>?_,λb h q=>?_,I.len⟩
 ·rw[aw (λz=>w m l (by rw[← z];exact q))];exact I.base.LS b m l q
 ·have i:=I.base.LK b ps q;rw[aw λz=>by rw[z,e]at i;cases i];exact i
 ·obtain⟨F,E,D⟩:=I.pin p C;exact⟨F,up E,D⟩
 ·by_cases hb:b=d
  ·subst hb;rw[aq]at q;cases q;exact da.Mh ((I.JZ b _ e).2) (λ_ _ _ g=>g) (λc=>r b c) j t
  ·rw[aw hb]at q;exact da.Mh (I.JZ b _ q) (λ_ _ _ g=>g) (λc=>r b c) j t
def rT(I:Inv X pins M H s)(e:H d=Z (.dK a))(g:s.heap.get? d=Z o):Inv X pins M (upd H d (.frz o (.dK a))) s :=
 lD I (by rw[e];exact True.intro) ⟨rfl,λ_ _=>rfl⟩ ⟨o,g⟩ ⟨g,I.JZ d _ e⟩
end
def UU(d:On)(o:Obj)(a:List (Key×V)):It :=
 ⟨λi H=>H d=Z (.frz o (.dK a))/\i<a.length,λi H x b=>b=H/\∃p,a[i]?=Z p/\x=kV p.1,λi H=>H d=Z (.frz o (.dK a))/\a.length<=i⟩
def Cq(h:nG k v=J):RelV (kV k) v:=by
 rcases bK h with⟨i,t,rfl,rfl⟩ | ⟨x,t,rfl,rfl⟩
 ·exact⟨t,rfl⟩
 ·exact⟨t,rfl⟩
def qk{P:SB}{w:UV}{a:List DictEntry}{m:List (Key×PP)}(r:Pairs (aU P w) a m){i:Nat}{e:DictEntry}(h:a[i]?=Z e):∃q,m[i]?=Z q/\nG q.1 e.key=J:=by
 induction r generalizing i with
 |nil=>simp at h
 |@cons l b a g f j _ d =>
  cases i with
  |zero =>
   simp at h;subst h;exact⟨b,rfl,f⟩
  |succ i=>simpa using d (by simpa using h)
def FC{l:List (Key×V)}{m:List (Key×PP)}(r:KV l m){i:Nat}{q:Key×PP}(h:m[i]?=Z q):∃p,l[i]?=Z p/\p.1=q.1:=by
 induction r generalizing i with
 |nil=>simp at h
 |@cons a f ps e d t b =>
  cases i with
  |zero=>simp at h;subst h;exact⟨a,rfl,d.1⟩
  |succ i=>simpa using b (by simpa using h)
section
def FN{K:X3}(d f:On){G:Array DictEntry}(a:KV Q N)(he:Pairs (aU P w) G.toList N) :
  Turn P w K tg (UU d (ST.dO G U) Q) [f] f (λi h=>h.get? f=Z (ST.kO d i G.size U)) where
 mem:=by simp
 obj:=λi h st b hb=>by
  rw[Zj.mp hb];exact⟨_,st,λv z=>by cases z⟩
 keep:=λi h x st k=>k f (by simp) _ st
 item:=by
  intro X t hw u r i j s M H E I m st hg;subst t hw u;obtain⟨D,f1,f2,C,A,y⟩:=m f (by simp);refine ST.tR (I.ok.hd r) st ((I.JZ d _ hg.1).1) (λe l x O g=>?_) λR=>?_
  ·rw[← Yx]at l;obtain⟨q,n,S⟩:=qk he l;obtain⟨p,hp,hb⟩:=FC a n;exact⟨_,rfl,tY g Y Y Y ⟨kV p.1,H,(I.turned (t':=s.toks) (λb o hb e=>(O.2 b hb).trans e) D f1 C A y),by rw[hb];exact Cq S,⟨rfl,p,hp,rfl⟩,g,λb hb=>(m b hb).1⟩⟩
  ·exfalso;rw[← Yx,YS,he.length,← X6 a]at R;exact absurd hg.2 (by lia)
 done:=by
  intro X t hw u r i j s M H E I m st hg;subst t hw u;obtain⟨D,f1,f2,C,A,y⟩:=m f (by simp);refine ST.tR (I.ok.hd r) st ((I.JZ d _ hg.1).1) (λe l x O g=>?_) λR x kp=>⟨rfl,I.turned (λb o hb e=>kp b o hb e) D f1 C A y⟩
  exfalso;rw[← Yx]at l;obtain⟨q,n,S⟩:=qk he l;have:=(Ze.mp n).1;have h2:=hg.2;rw[X6 a]at h2;lia
 self:=λ_ _ _ _ _ st hQ=>WH ⟨_,st,rfl⟩ F.slot_dict_keyiterator_iter (Xs F.slot_dict_keyiterator_iter ⟨_,st,rfl⟩ F.entry_dict_keyiterator_iter (Zl ⟨_,rfl, "dict_keyiterator",_,⟨_,st,rfl⟩,XR.lookup,hQ⟩) (F.args_dict_keyiterator_iter_1 _))
def iDk(e:TE):TI:=λM H R=>e M H λx b=>∃d a,x=.ref d/\b d=Z (.dK a)/\∀o,R (UU d o a) (upd b d (.frz o (.dK a)))
def EO(m:PE X l i):PI X tg l (iDk i):=by
 intro a s M H R I h;refine thn (m a s M H _ I h) λv s1 ⟨x,A,f,r1,j⟩=>?_;obtain⟨d,r,ex,e,q⟩:=j;subst ex;cases r1;obtain⟨z,y,p,rel,o,u,w,g,ex,hd,_,he,t⟩:=qg f.JZ e;have eo:=Bp ex hd;subst eo;refine ST.A5 y g ?_;refine⟨s1.heap.objs.size,[s1.heap.objs.size],_,_,_,rfl,(rT f e g).kept λb o e=>Zm _ e,FN d _ rel he,Zc _ Y,λb hb=>?_,q _⟩;have n:b=s1.heap.objs.size:=by simpa using hb
 subst n;exact(rT f e g).M0 (Zk _) ((rT f e g).JZ.fresh (Zk _))
end
end L2
namespace VS
open PySem PySem.Spec PyProof.Rows L2
noncomputable def Se:T->Bool
 |.non=>J
 |.bl _=>J
 |.int _=>J
 |.str _=>J
 |_=>B
def wX(h:Se t=J)(r:Rp G H v t F):F=[]/\Rp G a v t []:=by
 cases r with
 |non=>exact⟨rfl,.non⟩
 |bl b=>exact⟨rfl,.bl b⟩
 |int i=>exact⟨rfl,.int i⟩
 |str s ok=>exact⟨rfl,.str s ok⟩
 |_=>cases h
end VS
end
section
namespace L2
def FE{α:Type}{b:List α}(d:b.length=n+1):∃a t,b=a :: t/\t.length=n:=by
 obtain⟨a,t,e⟩:=List.exists_cons_of_length_eq_add_one d;subst e;exact⟨a,t,rfl,Vs d⟩
def pY{α:Type}{b:List α}(d:b.length=1):∃a,b=[a]:=List.length_eq_one_iff.mp d
def di{α:Type}{d:List α}(f:d.length=2):∃a b,d=[a,b]:=by
 obtain⟨a,t,rfl,e⟩:=FE f;obtain⟨b,rfl⟩:=pY e;exact⟨a,b,rfl⟩
def vY{α:Type}{d:List α}(f:d.length=3):∃a b c,d=[a,b,c]:=by
 obtain⟨a,t,rfl,e⟩:=FE f;obtain⟨b,c,rfl⟩:=di e;exact⟨a,b,c,rfl⟩
def JD{α:Type}{e:List α}(g:e.length=4):∃a b c d,e=[a,b,c,d]:=by
 obtain⟨a,t,rfl,f⟩:=FE g;obtain⟨b,c,d,rfl⟩:=vY f;exact⟨a,b,c,d,rfl⟩
end L2
end
section
namespace VS
open PySem PySem.Spec PyProof.Rows L2
inductive Res where | ok (v:Val) | ex (x:Str)
inductive OutX where | ok (o:Out) | ex (x:Str) (U:VS.Env)
abbrev ExX:=VS.Env->Option Res
abbrev SxX:=VS.Env->Option OutX
end VS
end
section
namespace TS
open PySem PySem.Spec PyProof.Rows
def y8(o:∀v∈f,∃x t,v=Value.str x t){d:Array Pv}(g:d.Perm (pairsOf f))(p:SortedToK strKind d (pairsOf f).size):((d.map (·.2)).toList.map strOf).Pairwise (λa b=>¬b.cps.toList<a.cps.toList):=by
 obtain⟨n,m⟩:=qG g;rw[WV,List.pairwise_iff_getElem];intro i j r l u;have key:∀i (h:i<(d.map (·.2)).toList.length),KK strKind d i=(strOf (d.map (·.2)).toList[i]).cps.toList:=λi h=>by
  have e:d[i]?=Z ((d.map (·.2)).toList[i],(d.map (·.2)).toList[i]):=by
   rw[← Yx,← m,Zd,Zu h];rfl
  obtain⟨x,t,ex⟩:=o _ (n.mem_iff.mp (ZC h));unfold KK;rw[e];rw[ex];rfl
 have q:=p i j (Y5 u) (by rw[← g.size_eq];simpa using l);rw[key i r,key j l]at q;exact of_decide_eq_false q
def rn{A:SC}(q:∀(n:SC)(y:Z0),n.handled=A.handled->Pi (KF prog w) n (collect x) (λd s1=>(∀v∈d,∃x t,v=Value.str x t)/\d.length<64/\∀(out:Wa)(g:UF)(e:Nat),out.Perm d->(out.map strOf).Pairwise (λa b=>¬b.cps.toList<a.cps.toList)->(∀b o,s1.heap.get? b=Z o->g.get? b=Z o)->g.get? s1.heap.objs.size=Z (seqObj "list" out.toArray e)->Q (.ref s1.heap.objs.size) { s1 with heap:=g }) y s) :
  Pi (KF prog w) A (call (.builtin "sorted") [x]) Q E s:=by
 refine Calls.call_function_entry kind_sorted plain_sorted entry_sorted (args_sorted1 _) (?_);refine Zv (Zl (Zv (YX (q A.in1 (λ_ _=>False) Y) ?_ λ_ _ e=>e.elim)));rintro j s1 ⟨f,r,h⟩;refine Zv (wpAny_newList ?_ (by rw[XX];omega));have i:(s1.heap.push (seqObj "list" j.toArray 0)).get? s1.heap.objs.size=Z (seqObj "list" j.toArray 0):=Zc _ Y;refine Zv (Yl (Xs slot_list_sort ⟨_,i,rfl⟩ entry_list_sort (list_sort_treeK strKind_oneLt i (strsAre_map _ f).keysOf (λC z rest e=>keyKind_strs (by rw[← e];exact strsAre_map _ f)) r λu m p=>⟨_,rfl,?_⟩) (args_list_sort _)));obtain⟨e,he⟩:=sortedHeap_at i;exact Zl ⟨_,rfl,h ((arrOf u).map (·.2)).toList _ e (qG m).1 (y8 f m p) (λb o l=>by
  have hb:=ZY l;rw[sortedHeap_old (Zf hb) (by rw[size_push'];exact Yq hb),Heap.get?_push_ne _ _ _ (Zf hb)];exact l) he⟩
end TS
namespace L2
open PySem PySem.Spec PyProof.Rows TS
section
def kY{X:Cx}(hc:X.calm=J):dA X (.builtin "sorted") (λD H Q=>∃p,∃(d:List Str)(j:List V),D=[.ref p]/\d.length<64/\d.length=j.length/\H p=Z (.dK ((d.map Sum.inr).zip j)) ∧
  ∀(l:On)(C:List Str),H l=L->C.Perm d->C.Pairwise (λa b=>¬b.cps.toList<a.cps.toList)->Q (.ref l) (upd H l (.lst (C.map V.str)))):=by
 intro f s M H D us Q I R h;obtain⟨p,d,j,rfl,RQ,hl,hq,q⟩:=h;obtain⟨u,rfl,S⟩:=R.one;cases S;obtain⟨Y,hS,E,rel,A⟩:=qg I.JZ hq;obtain⟨ep,A⟩:=A.dictAt;have o:E.length=d.length:=by
  have:=rel.length;rw[Yv,Zt]at this;lia
 refine TS.rn λA' E' hA=>PySem.W.kdu_collect (PySem.W.kdl_dict hS) (hA.trans (I.ok.hd hc)) A (by rw[Yv,Zt]at Y;lia) λG P acc kp N=>?_;have O:Inv X f M H { s with heap:=G,toks:=P }:=I.kept kp;have r:acc.toList.length=d.length:=by rw[Z9,N.1,o]
 have each:∀i v,acc.toList[i]?=Z v->∃x t,v=Value.str x t/\d[i]?=Z x:=λi v g=>by
  rw[Yx]at g;obtain⟨k,x,e1,e2⟩:=N.2 i v g;have e3:=(λi=>by
  have F:((E.map (·.1)))[i]?=(d.map (Sum.inr:Str->Key))[i]?:=by
   rw[← rel.keys];rw[WO (by rw[Zt];exact XH hl)]
  rw[Zd,Zd]at F;exact F) i
  rw[e1]at e3;cases z:d[i]? with
  |none=>rw[z]at e3;cases e3
  |some y =>
   rw[z]at e3;have e5:=Zh e3;subst e5;obtain⟨t,rfl⟩:=Value.isStrOf_shape (e2);exact⟨y,t,rfl,z⟩
 have g:∀v∈acc.toList,∃x t,v=Value.str x t:=λv n=>by
  obtain⟨i,hi,e⟩:=W7 n;obtain⟨x,t,e1,_⟩:=each i v (by rw[Zu hi,e]);exact⟨x,t,e1⟩
 have es:acc.toList.map strOf=d:=by
  apply Wy;intro i;rw[Zd];cases e:acc.toList[i]? with
  |none =>
   have:=YS.mp e;rw[YS.mpr (by lia)];rfl
  |some v =>
   obtain⟨x,t,rfl,e1⟩:=each i v e;rw[e1];rfl
 refine⟨g,by omega,λout h2 e m U NG he=>?_⟩;exact⟨.ref G.objs.size,_,O.laid NG (Zk _) (show da X.prog X.w _ h2 _ (.lst ((out.map strOf).map V.str)) from⟨(by rw[Zt,Zt,m.length_eq,r,XX];omega),out,e,sY (λv n=>g v (m.mem_iff.mp n)),he⟩),rfl,q _ _ (O.JZ.fresh (Zk _)) (by rw[← es];exact m.map _) U⟩
end
end L2
namespace VS
open PySem PySem.Spec PyProof.Rows L2
section
def iz:Vd->Vc
 |[(_,.dct 0 l)]=>(strs? (l.map (·.1))).bind λa=>if a.length<64/\a.all P9=J then Z (.fr,.lst ((gb a).map .str)) else L
 |_=>L
def Cg:fz G (λn H Q=>∃p,∃(d:List Str)(f:List V),n=[.ref p]/\d.length<64/\d.length=f.length/\H p=Z (.dK ((d.map Sum.inr).zip f)) ∧
  ∀(l:On)(g:List Str),H l=L->g.Perm d->g.Pairwise (λa b=>¬b.cps.toList<a.cps.toList)->Q (.ref l) (upd H l (.lst (g.map V.str)))) iz:=by
 intro O U C H l f D m t Q A e k;unfold iz at e;split at e
 ·rename_i z x;obtain⟨d,e1,e2⟩:=Zz.mp e;split at e2
  ·rename_i hb;cases e2;obtain⟨v,F,rfl,rfl,q⟩:=(A.rp).one;obtain⟨a,ks,j,o,Gs,rfl,rfl,w,h,rfl,r⟩:=dc q;have y:ks.length=o.length:=by rw[h,r.len.1]
   rw[(WO (by rw[Zt];exact XH y))]at e1;have i:=keys_str e1;refine⟨a,d.map sx,j,rfl,by rw[Zt];exact hb.1,?_,by rw[← i];exact w,AQ k A.same λs u=>Ce (Za.mp hb.2 s u)⟩;rw[← h,i,Zt,Zt,Zt]
  ·cases e2
 ·cases e
def xj{X:Cx}(a:X.mg "sorted" = L)(f:Lc G X [e] cs)(b:{`q2,Gl X "sorted"})(g:{`q2,X.K=G.K})(d:{`q2,X.calm=J})(he:{`q2,K1 e [] X}):PV G X (.Call (.Name "sorted" p) [e] [] pos) (eN iz cs) :=
 jG (kY d) Cg b a qc f (he:=he)
end
noncomputable def Uz:T->Bool
 |.bl true=>J
 |_=>B
mutual
def ja:T->Bool
 |.tup l=>cz l
 |.lst l=>cz l
 |.dct _ l=>vd l
 |.obj _ l=>jw l
 |_=>J
def cz:Vb->Bool
 |[]=>J
 |t :: r=>ja t&&cz r
def vd:List (T×T)->Bool
 |[]=>J
 | (_,v) :: r=>ja v&&vd r
def jw:List (Nat×T)->Bool
 |[]=>J
 | (n,v) :: r=>(ja v && !(n==0&&Uz v))&&jw r
end
theorem iH:∀{ks:Vb}{a:Vb},ks.length=a.length->vd (ks.zip a)=J->cz a=J
 |[],[],_,_=>rfl
 |_ :: _,[],h,_=>nomatch h
 |[],_ :: _,h,_=>nomatch h
 |k :: ks,t :: a,h,e=>by
  have e:=ZZ.mp (e);exact ZZ.mpr ⟨e.1,iH (Vs h) e.2⟩
theorem iG:∀{ks:Vh}{a:Vb},ks.length=a.length->jw (ks.zip a)=J->cz a=J
 |[],[],_,_=>rfl
 |_ :: _,[],h,_=>nomatch h
 |[],_ :: _,h,_=>nomatch h
 |k :: ks,t :: a,h,e=>by
  have e:=ZZ.mp (e);exact ZZ.mpr ⟨(ZZ.mp e.1).1,iG (Vs h) e.2⟩
section
variable{H:Hp}
theorem Rp.at{v:V}(m:Me)(r:Rp G H v t F):ja t=J->Rp (G.at m) H v t F :=
 Rp.rec (G:=G) (H:=H) (motive_2:=λvs e Fs _=>cz e=J->RpL (G.at m) H vs e Fs)
  (λ_=>.non) (λb _=>.bl b) (λi _=>.int i) (λs h _=>.str s h) (λh _=>.scr h) (λh _ d f=>.tup h (d f)) (λh _ d f=>.lst h (d f))
  (λh l q d f=>.dct h l (d (iH (by rw[Zt,l];exact q.len.1) f))) (λh l q d f=>.dctT h l (d (iH (by rw[Zt,l];exact q.len.1) f)))
  (λh l n q d f=>.dctN h l n (d (iH (by rw[Zt,l];exact q.len.1) f))) (λh l q d f=>.dctZ h l (d (iH (by rw[Zt,l];exact q.len.1) f))) (λh o _=>.exc h o)
  (λ{c a u b ks vs e Fs} h l p q d f=>by
   have f:=ZZ.mp (f);have hb:b=B:=by
    cases b with
    |false=>rfl
    |true=>exact nomatch f.1
   refine .ins h l (λz=>?_) (d (iG (by rw[l];exact q.len.1) f.2));rw[hb]at z;cases z)
  (λ_ _ _ f=>nomatch f)
  (λ_=>.nil) (λ_ _ j g f=>by
   have f:=ZZ.mp f;exact .cons (j f.1) (g f.2)) r
theorem RpL.at(m:Me):∀{vs:List V}{a:Vb}{Fs:Xy},RpL G H vs a Fs->cz a=J->RpL (G.at m) H vs a Fs:=by
 intro vs a
 induction a generalizing vs with
 |nil=>intro Fs r f;cases r;exact .nil
 |cons t a b =>
  intro Fs r f;cases r with
  |cons r q=>exact .cons (r.at m (ZZ.mp f).1) (b q (ZZ.mp f).2)
mutual
theorem o9:∀t:T,J3 t=J->ja t=J
 |.non,_=>rfl
 |.bl _,_=>rfl
 |.int _,_=>rfl
 |.str _,_=>rfl
 |.scr _,_=>rfl
 |.tup l,h=>ya l h
 |.lst _,h=>by cases h
 |.dct _ _,h=>by cases h
 |.obj _ _,h=>by cases h
theorem ya:∀l:Vb,fZ l=J->cz l=J
 |[],_=>rfl
 |t :: l,h=>by
  have h:=ZZ.mp h;exact ZZ.mpr ⟨o9 t h.1,ya l h.2⟩
end
end
def zi(k:Nat):T->Option T
 |.obj (_+1) (_ :: fs)=>(fs.findIdx? λp=>p.1==k).bind λi=>(fs[i]?).map (·.2)
 |_=>L
def bY(k:Nat)(a:Ex):Ex:=λU=>(a U).bind λx=>(zi k x.2).map λt=>sub x.1 t
section
def w_fld{X:Cx}(J:l6 G)(F:LU G X.K k f)(ha:PV G X a ca)(w:{`q8,XAA a f X.env (eval a X.env)=eval a X.env}):PV G X (.Attribute a f pos) (bY k ca) :=
 PE.weak (A4 ha w) λM H Q hq=>by
  obtain⟨O,U,m,t,s,e,kq⟩:=hq;obtain⟨⟨mx,y⟩,ea,e1⟩:=Zz.mp e;obtain⟨z,d,e2⟩:=Zw.mp e1;refine⟨O,U,mx,y,s,ea,λv H' F' Y r1 f1=>?_⟩;unfold zi at d;split at d
  ·rename_i c q0 fs hy;subst hy;obtain⟨j,C,e3⟩:=Zz.mp d;obtain⟨p,A,e4⟩:=Zw.mp e3;subst e4;obtain⟨c',a,dx,b,ns,vs,S,Fs,ec,rfl,rfl,rfl,rfl,hA,r,w,q⟩:=h9 r1;cases ec;obtain⟨l,g,E,D,g3,g4⟩:=jt (λn=>n==k) (r.trans q.len.1) C;have ek:l=k:=by simpa using g3
   subst ek;have ep:p=(l,g):=by
    have:(ns.zip S)[j]?=Z (l,g):=by rw[Yn];exact⟨E,D⟩
    rw[this]at A;exact(Zh A).symm
   subst ep;obtain⟨u,Fi,R,P,h⟩:=q.get j D;have N:=u7 (G:=G) (c:=c+1) J r C E R;rw[F.nm c]at N;refine⟨a,_,dx,_,u,rfl,hA,F.cl c,F.no c,N,?_⟩;have fp:=((f1.sub (Yd _ _)).sub (bC P)).up h;unfold VS.sub at e2;rw[e2]at fp;have et:g=t:=congrArg Prod.snd e2;rw[et]at h;exact kq u H' Fi Y h fp
  ·cases d
def wJ(i k:Nat)(e:Ex)(U:VS.Env):Option Out:=(e U).bind λv=>match U[i]? with
 |some (some (.ow (.obj (c+1) (q :: fs))))=>(fit v).bind λt=>if fs.length<900/\(fs.all λp=>!(p.1==k))=J then Z (.nx (U.set i (Z (.ow (.obj (c+1) (q :: (fs++[(k,t)]))))))) else L
 |_=>L
theorem uf{k:Nat}{v:V}(J:∀k l:Nat,g k=g l->k=l):∀{ks:Vh}{b:List V}{d:Vb},ks.length=b.length->ks.length=d.length->((ks.zip d).all λp=>!(p.1==k))=true->jA (g k) v ((ks.map g).zip b)=((ks++[k]).map g).zip (b++[v])
 |[],[],_,_,_,_=>rfl
 |[],_ :: _,_,h,_,_=>by simp at h
 |_ :: _,[],_,h,_,_=>by simp at h
 |_ :: _,_ :: _,[],_,h,_=>by simp at h
 |s :: ks,q :: b,r :: d,n,m,j=>by
  rw[ZQ,Xz,Z1]at j;rw[Zg,ZQ,jA,Zn (λz=>by
   have:=J _ _ z;subst this;simp at j),uf J (by simpa using n) (by simpa using m) j.2]
  rfl
def vJ{X:Cx}{pos:Pos}(i k:Nat)(J:l6 G)(F:LU G X.K k f)(he:PV G X e ce)(hN:X.N[i]?=Z x)(hv:L6 X.env.scope x)(hd:K3 x)(Ks:K4 x)(hs:swapsWith e (Z (.Attribute (.Name x p1) f pos')) pos.line X.env=pure B):PSV G X (.Assign [.Attribute (.Name x p1) f pos'] e pos) (wJ i k ce) :=
 PS.weak (GT (dS hN hv hd Ks) he hs) λD M H hq=>by
  obtain⟨O,U,out,s,e,kq⟩:=hq;obtain⟨⟨mv,j⟩,ev,e⟩:=Zz.mp e;split at e
  ·rename_i c q0 fs w;obtain⟨t,et,e⟩:=Zz.mp e;cases (nW et);split at e
   ·rename_i l;cases e;obtain⟨v,P,g2⟩:=s.rp _ _ w;refine⟨O,U,.fr,j,s,ev,λy H1 Fy q ry n=>⟨v,P,?_⟩⟩;obtain⟨c',a,S,b,ns,vs,p,Fs,ec,rfl,rfl,rfl,R,C,A,hb,r⟩:=h9 g2;cases ec;have nd:=s.nd i _ w;rw[R]at nd;have E:=Zb.mp nd;have d:=q a _ C;have u:J8 (H1 a):=by rw[d];exact True.intro
    have Y:=A.trans r.len.1;have na:a∉Fy:=λz=>by rw[n.2 a z]at C;cases C
    refine⟨a,_,S,_,rfl,d,F.cl c,F.no c,(by
     have:=l.1;rw[Yv]at this ⊢;rw[Zt];lia),?_⟩
    have Q:=uf (k:=k) (v:=y) (J (c+1)) A Y l.2;rw[F.nm c]at Q;rw[Q];have off:=λh hb hw=>J8.JX (r.Kd h hb) (n.2 h hw);have g:Chg G H (.ref a) (O i) (.obj (c+1) ((0,.bl b) :: (ns.zip p++[(k,j)]))) (upd H1 a (.ins (G.ct (c+1)).1 S (((ns++[k]).map (G.ct (c+1)).2).zip (vs++[y])))) (a :: (Fs++[Fy]).flatten):=by
     rw[R,show ns.zip p++[(k,j)]=(ns++[k]).zip (p++[j]) from by rw[Wh Y];rfl];refine Chg.upd q Zx u (.ins aq (by simp[A]) hb (((r.same q).off u E.1).append (.cons (ry.keep (Kept.upd (.inl u)) λh hb o ho=>by rw[aw (λz=>na (by rw[← z];exact hb))];exact ho) .nil))) ?_ ?_
     ·rw[Yg];refine Zb.mpr ⟨λm=>?_,ZL.mpr ⟨E.2,by simpa using n.1,λb hb c l z=>?_⟩⟩
      ·rcases ZW.mp m with m | m
       ·exact E.1 m
       ·exact na (by simpa using m)
      ·subst z;exact off b hb (by simpa using l)
     ·intro h hb;rcases Zo.mp hb with rfl | hb
      ·exact .inl Zx
      ·rw[Yg]at hb;rcases ZW.mp hb with hb | hb
       ·exact .inl (Zy _ hb)
       ·exact .inr (n.2 h (by simpa using hb))
    obtain⟨z1,z2⟩:=s.mut w P g;exact kq _ M _ z1 z2
   ·cases e
  ·cases e
end
noncomputable abbrev vN:=List (Nat×T)
noncomputable def Nv(a:On):Me:=λk=>if k=0 then Z (.ref a) else L
abbrev Mt:=vN->Vb->Option (vN×T)
noncomputable def KO:List Bool->Xy->Wc
 |b :: bs,F :: a=>(if b then F else [])++KO bs a
 |_,_=>[]
noncomputable def MS:List Bool->Xy->Wc
 |b :: bs,F :: a=>(if b then [] else F)++MS bs a
 |_,_=>[]
theorem ik:∀{mv:List Bool}{e:Xy}{j:Nat}{F:Wc},mv[j]?=Z J->e[j]?=Z F->F.Sublist (KO mv e)
 |[],_,_,_,h,_=>by simp at h
 |_ :: _,[],_,_,_,h=>by simp at h
 |b :: bs,f :: e,0,F,d,a=>by
  simp at d a;subst d a;rw[KO,Zp Y];exact List.sublist_append_left _ _
 |b :: bs,f :: e,j+1,F,d,a=>by
  rw[KO];exact(ik (by simpa using d) (by simpa using a)).trans (Xr _ _)
theorem rQ:∀{mv:List Bool}{e:Xy}{j:Nat}{F:Wc},mv[j]?=Z B->e[j]?=Z F->F.Sublist (MS mv e)
 |[],_,_,_,h,_=>by simp at h
 |_ :: _,[],_,_,_,h=>by simp at h
 |b :: bs,f :: e,0,F,d,a=>by
  simp at d a;subst d a;rw[MS];exact List.sublist_append_left _ _
 |b :: bs,f :: e,j+1,F,d,a=>by
  rw[MS];exact(rQ (by simpa using d) (by simpa using a)).trans (Xr _ _)
theorem wI:∀{mv:List Bool}{d:Xy}{i j:Nat}{F m:Wc},(KO mv d).Nodup->mv[i]?=Z J->mv[j]?=Z J->d[i]?=Z F->d[j]?=Z m->i≠j->∀a∈F,a∉m
 |[],_,_,_,_,_,_,h,_,_,_,_=>by simp at h
 |_ :: _,[],_,_,_,_,_,_,_,h,_,_=>by simp at h
 |b :: bs,q :: d,0,0,F,m,_,_,_,_,_,n=>absurd Y n
 |b :: bs,q :: d,0,j+1,F,m,nd,l,g,f,e,n=>λa o p=>by
  simp at l f;subst l f;rw[KO,Zp Y,ZL]at nd;exact nd.2.2 a o a ((ik (by simpa using g) (by simpa using e)).subset p) Y
 |b :: bs,q :: d,i+1,0,F,m,nd,l,g,f,e,n=>λa o p=>by
  simp at g e;subst g e;rw[KO,Zp Y,ZL]at nd;exact nd.2.2 a p a ((ik (by simpa using l) (by simpa using f)).subset o) Y
 |b :: bs,q :: d,i+1,j+1,F,m,nd,l,g,f,e,n=>by
  rw[KO,ZL]at nd;exact wI nd.2.1 (by simpa using l) (by simpa using g) (by simpa using f) (by simpa using e) (by lia)
theorem wo:∀{mv:List Bool}{d:Xy}{a:On},a∈KO mv d->∃(j:Nat)(F:Wc),mv[j]?=Z J/\d[j]?=Z F/\a∈F
 |[],_,_,h=>by simp[KO]at h
 |_ :: _,[],_,h=>by simp[KO]at h
 |b :: bs,i :: d,a,h=>by
  rw[KO]at h;rcases ZW.mp h with h | h
  ·cases b with
   |true=>exact⟨0,i,rfl,rfl,h⟩
   |false=>simp at h
  ·obtain⟨j,F,g,f,e⟩:=wo h;exact⟨j+1,F,by simpa using g,by simpa using f,e⟩
noncomputable def kj(b:Bool)(t:T):Ve:=Z (if b then .ow t else .pu t)
def AF(c:Nat)(U:VS.Env):Option vN:=match (U[(0:Nat)]?:Option (Ve)) with
 |some (some (.ow (.obj a ((0,.bl true) :: fs))))=>if a=c+1 then Z fs else L
 |_=>L
def MT(c e g:Nat)(f:List Bool)(a:Sx):Mt:=λfs b=>if b.length+1=e/\f.length=b.length then
 (a ((Z (.ow (.obj (c+1) ((0,.bl J) :: fs))) :: List.zipWith kj f b)++List.replicate (g-e) L)).bind λo=>match o with
  |.rt v U=>(AF c U).bind λd=>if J3 v.2 then Z (d,v.2) else L
  |.nx U=>(AF c U).map λd=>(d,.non)
  |_=>L else L
def OT(G:Gx)(c:Nat)(d:List Bool)(g:Mt):Sp:=λl H Q _=>∃(a:On)(i:List V)(fs:vN)(f:Vb)(F:Wc)(e:Xy)(j:vN)(x:T),l=.ref a :: i/\Rp (G.at (Nv a)) H (.ref a) (.obj (c+1) ((0,.bl J) :: fs)) F ∧
 RpL (G.at (Nv a)) H i f e/\d.length=f.length/\(F++KO d e).Nodup/\(∀b∈F++KO d e,b∉MS d e)/\g fs f=Z (j,x) ∧
 ∀u h m,Chg (G.at (Nv a)) H (.ref a) (F++KO d e) (.obj (c+1) ((0,.bl J) :: j)) h m->Rp (G.at (Nv a)) h u x []->Q u h
section
variable{H:Hp}
def uT{f:List Bool}(r0:Rp G H v t F)(r:RpL G H E d l)(hm:f.length=d.length)(x:(F++KO f l).Nodup)(S:∀b∈F++KO f l,b∉MS f l)(n U:Nat)(hn:U=E.length+1) :
  SR G (λi=>(F :: l).getD i []) ((Z (.ow t) :: List.zipWith kj f d)++List.replicate (n-(d.length+1)) L) ((v :: E).map Z++List.replicate (n-U) L) H ∧
  ∀a,bL (λi=>(F :: l).getD i []) ((Z (.ow t) :: List.zipWith kj f d)++List.replicate (n-(d.length+1)) L) a->a∈F++KO f l:=by
 subst hn;have hl:=r.len;have N:(List.zipWith kj f d).length=d.length:=by rw[List.length_zipWith,hm,XM]
 have back:∀{i:Nat}{c:Cell},((Z (Cell.ow t) :: List.zipWith kj f d)++List.replicate (n-(d.length+1)) L)[i]?=Z (Z c)->(i=0/\c=.ow t)\/∃(j:Nat)(b:Bool)(u:T),i=j+1/\f[j]?=Z b/\d[j]?=Z u/\c=(if b then .ow u else .pu u):=λ{i c} h=>by
  cases i with
  |zero=>exact .inl ⟨rfl,(Zh (Zh h)).symm⟩
  |succ j =>
   rw[Xh,WN]at h;by_cases M:j<d.length
   ·rw[Yu (by rw[N];exact M),List.getElem?_zipWith]at h;have e1:=Zu (by rw[hm];exact M);have e2:=Zu M;rw[e1,e2]at h;exact .inr ⟨j,_,_,rfl,e1,e2,(Zh (Zh h)).symm⟩
   ·rw[Yf (by rw[N];exact ZO M),YY]at h;split at h<;>cases h
 have fp:∀{j:Nat}{u:T},d[j]?=Z u->∃w s,E[j]?=Z w/\l[j]?=Z s/\Rp G H w u s:=λ{j u} h=>r.get j h;have ow:∀{i:Nat}{u:T},((Z (Cell.ow t) :: List.zipWith kj f d)++List.replicate (n-(d.length+1)) L)[i]?=Z (Z (.ow u))->i=0\/∃j:Nat,i=j+1/\f[j]?=Z J/\d[j]?=Z u:=λ{i u} h=>by
  rcases back h with⟨p,g⟩ | ⟨j,b,R,p,g,o,y⟩
  ·exact .inl p
  ·cases b with
   |true=>cases y;exact .inr ⟨j,p,g,o⟩
   |false=>cases y
 rw[ZL]at x;refine⟨⟨?_,λi c h=>?_,λi u h=>?_,λi j u c p g n=>?_⟩,λa ⟨i,u,p,g⟩=>?_⟩
 ·simp[N];lia
 ·rcases back h with⟨rfl,rfl⟩ | ⟨j,b,u,rfl,g,o,y⟩
  ·exact⟨v,rfl,r0⟩
  ·obtain⟨w,s,A,e,C⟩:=fp o;refine⟨w,?_,?_⟩
   ·rw[Zg,Xh,WN,Yu (by rw[Zt];exact(Ze.mp A).1),Zd,A];rfl
   ·rw[Xl,Zs,e,y];cases b<;>exact C
 ·rcases ow h with rfl | ⟨j,rfl,g,o⟩
  ·exact x.1
  ·obtain⟨w,s,A,e,C⟩:=fp o;rw[Xl,Zs,e];exact x.2.1.sublist (ik g e)
 ·rcases ow p with rfl | ⟨X,rfl,Q,a3⟩
  ·rcases back g with⟨rfl,_⟩ | ⟨j',b,R,rfl,D,P,_⟩
   ·exact absurd Y n
   ·obtain⟨w,s,A,e,C⟩:=fp P;intro a m;rw[Xl,Zs,e];intro q;cases b with
    |true=>exact x.2.2 a m a ((ik D e).subset q) Y
    |false=>exact S a (Ye _ m) ((rQ D e).subset q)
  ·obtain⟨w,Fi,A,e,C⟩:=fp a3;have ei:(F :: l).getD (X+1) []=Fi:=by rw[Xl,Zs,e];rfl
   show ∀a∈(F :: l).getD (X+1) [],_;rw[ei];rcases back g with⟨rfl,_⟩ | ⟨j',b,R,rfl,D,P,_⟩
   ·exact λa m q=>x.2.2 a q a ((ik Q e).subset m) Y
   ·obtain⟨w',s,k1,O,k3⟩:=fp P;intro a m;rw[Xl,Zs,O];intro q;cases b with
    |true=>exact wI x.2.1 Q D e O (λz=>n (by rw[z])) a m q
    |false=>exact S a (ZP _ ((ik Q e).subset m)) ((rQ D O).subset q)
 ·rcases ow p with rfl | ⟨j,rfl,o,y⟩
  ·exact Ye _ g
  ·obtain⟨w,s,A,e,C⟩:=fp y;have Mn:a∈(F :: l).getD (j+1) []:=g;rw[Xl,Zs,e]at Mn;exact ZP _ ((ik o e).subset Mn)
def zB(h:AF c U=Z a):U[0]?=Z (Z (.ow (.obj (c+1) ((0,.bl J) :: a)))):=by
 unfold AF at h;split at h
 ·rename_i d f e;split at h
  ·rename_i b;cases h;rw[e,b]
  ·cases h
 ·cases h
end
section
variable{K:X3}
def JA{G:Gx}{U:List Str}(ok:∀{sp:Sp},(∀j H Q E,sp j H Q E->j.length=U.length)->(∀(n:PP)(A:SC)(outer:List PySem.Env)(s:KB)(H:Hp)(j:List V)(Q:VK)(E:XK),JY k (A.deeper (envOfC d (ah p) s.heap.objs.size f n))->sp j H Q E →
   ∃t,LZ (jC KL P w K mg base N d (ah p) f n A outer s H E).My (bg p) t/\t { nx:=λ_ g=>Q .non g,rt:=Q } (L2.start N j) H)->FnOk P w K mg base KL (k+1) f fd U sp)(hp:U.length=np)(hn:N.length=M)(hb:∀(a:On)(n:PP)(A:SC)(outer:List PySem.Env)(s:KB)(H:Hp)(E:XK),JY k (A.deeper (envOfC d (ah p) s.heap.objs.size f n))->gq (G.at (Nv a)) (jC KL P w K mg base N d (ah p) f n A outer s H E).My (bg p) l) :
  FnOk P w K mg base KL (k+1) f fd U (OT G c X (MT c np M X l)):=by
 refine ok (λj H Q E h=>?_) λn A outer s H j Q E hr h=>?_
 ·obtain⟨a,D,fs,ts,F,Fs,Mp,y,rfl,r0,r,hm,nd,sp,e,q⟩:=h;unfold MT at e;split at e
  ·rename_i hl;rw[Zi,r.len.1,hl.1,hp]
  ·cases e
 ·obtain⟨a,D,fs,ts,F,Fs,Mp,y,rfl,r0,r,hm,nd,sp,e,q⟩:=h;refine⟨_,hb a n A outer s H E hr,?_⟩;unfold MT at e;split at e
  ·rename_i hl;obtain⟨o,e1,e2⟩:=Zz.mp e;obtain⟨s0,Mm⟩:=uT r0 r hm nd sp M (D.length+1) Y;rw[hl.1]at s0 Mm;have e3:L2.start N (V.ref a :: D)=(V.ref a :: D).map Z++List.replicate (M-(D.length+1)) L:=by
    unfold L2.start;rw[hn];rfl
   rw[e3];have fin:∀{m:VS.Env}{C:J5}{M':L2.St}{g:Hp},AF c m=Z Mp->SR (G.at (Nv a)) C m M' g->Kh (λi=>(F :: Fs).getD i []) ((Z (.ow (.obj (c+1) ((0,.bl J) :: fs))) :: List.zipWith kj X ts)++List.replicate (M-np) L) H C m g →
     Chg (G.at (Nv a)) H (.ref a) (F++KO X Fs) (.obj (c+1) ((0,.bl J) :: Mp)) g (C 0):=λ{m C M' g} QV x fr=>by
    have h0:=zB QV;obtain⟨v',g1,g2⟩:=x.rp 0 _ h0;have RR:=g2;obtain⟨c',a',dx,b,ns,j,Lg,LJ,ec,rfl,eb,_,eF,hA,hl',S,ra⟩:=h9 RR;have NO:b=J:=by cases eb;rfl
    cases (S NO);refine⟨fr.kept,λR o' S ho=>(fr.keep R o' ho λz=>S (Mm R z)).1,fr.Kd,RR,x.nd 0 _ h0,λR S=>?_⟩;rcases fr.ow R ⟨0,_,h0,S⟩ with z | z
    ·exact .inl (Mm R z)
    ·exact .inr z
   refine⟨_,_,o,s0,e1,?_⟩;cases o with
   |nx m =>
    obtain⟨fs2,e4,O⟩:=Zw.mp e2;cases O;intro C M' g x fr;exact q .non g _ (fin e4 x fr) .non
   |rt v m =>
    obtain⟨fs2,e4,O⟩:=Zz.mp e2;split at O
    ·rename_i hi;cases O;intro u g F' C M' x fr r' rf;have:=r'.J3 hi;subst this;exact q u g _ (fin e4 x fr) r'
    ·cases O
   |bk m=>cases e2
   |ct m=>cases e2
  ·cases e
def fnM{G:Gx}(F:J4 K x d g f n)(S:oe N h (ah g))(p:h.length=i)(q:N.length=j)(r:∀(a:On)(o:PP)(A:SC)(outer:List PySem.Env)(s:KB)(H:Hp)(E:XK),JY k (A.deeper (envOfC d (ah g) s.heap.objs.size f o))->gq (G.at (Nv a)) (jC KL P w K mg base N d (ah g) f o A outer s H E).My (bg g) e) :
  FnOk P w K mg base KL (k+1) f n h (OT G c m (MT c i j m e)):=JA (λl b=>F.ok S l b) p q r
end
def argsOk:List Bool->Vd->Bool
 |[],[]=>J
 |b :: bs,v :: a=>(if b then v.1 == .fr else J3 v.2)&&argsOk bs a
 |_,_=>B
def ye(c:Nat)(e:List Bool)(g:Mt)(a:Vd):T->Option (T×Val)
 |.obj d ((0,.bl b) :: fs)=>if d=c+1/\jw fs=J/\argsOk e a=J/\cz (trees a)=J then (g fs (trees a)).bind λz=>if jw z.1=J/\J3 z.2=J then Z (.obj d ((0,.bl b) :: z.1),(.fr,z.2)) else L else L
 |_=>L
def c8(i:Nat)(a:List MI)(c:Nat)(d:List Bool)(g:Mt)(e:Ko)(U:VS.Env):Option (Val×VS.Env):=match (U[i]?:Option (Ve)) with
 |some (some (.ow t))=>(keys a U).bind λks=>(e U).bind λb=>(pm (ye c d g b) ks t).map λz=>(z.2,U.set i (Z (.ow z.1)))
 |_=>L
def tX(G:Gx)(x:Xx):TE:=λM H Q=>∃O U v b,SR G O U M H/\x U=Z (v,b)/\J3 v.2=J/\∀u a d,SR G d b M a->Kh O U H d b a->Rp G a u v.2 []->Q u a
def PX(G:Gx)(X:Cx)(e:Expr)(x:Xx):Prop:=PE X e (tX G x)
theorem pq:∀{mv:List Bool}{a:Vd},argsOk mv a=J->mv.length=a.length
 |[],[],_=>rfl
 |[],_ :: _,h=>nomatch h
 |_ :: _,[],h=>nomatch h
 |b :: bs,v :: d,h=>by
  rw[Zi,Zi,pq (ZZ.mp h).2]
theorem sZ:∀{mv:List Bool}{d:Vd}{Fs:Xy},argsOk mv d=J->(KO mv Fs).Sublist (Lv d Fs)
 |[],[],_,_=>by simp[KO]
 |[],_ :: _,_,h=>nomatch h
 |_ :: _,[],_,h=>nomatch h
 |b :: bs,v :: e,[],h=>by simp[KO]
 |b :: bs,(m,t) :: e,F :: Fs,h=>by
  have h:=ZZ.mp h;have a:=sZ (Fs:=Fs) h.2;rw[KO];cases b with
  |true =>
   have:m=.fr:=by simpa using h.1
   subst this;exact List.Sublist.append (Ww _) a
  |false =>
   rw[Zn ZX,YK];cases m with
   |fr=>exact a.trans (Xr _ _)
   |pu=>exact a
   |bo=>exact a
theorem xG:∀{mv:List Bool}{a:Vd}{e:List V}{d:Xy},argsOk mv a=J->RpL G H e (trees a) d->MS mv d=[]
 |[],[],_,_,_,_=>by simp[MS]
 |[],_ :: _,_,_,h,_=>nomatch h
 |_ :: _,[],_,_,h,_=>nomatch h
 |b :: bs,(m,t) :: g,_,_,h,r=>by
  have h:=ZZ.mp h;cases r with
  |cons f q =>
   rw[MS,xG h.2 q,ZS];cases b with
   |true=>rfl
   |false=>exact f.J3 (by simpa using h.1)
def DC(h:argsOk e d=J)(f:P4 O U H d m):∀a∈KO e m,H a=L:=λa o=>by
 obtain⟨j,F,g,q,p⟩:=wo o;have key:∀{e:List Bool}{d:Vd}{j:Nat},argsOk e d=J->e[j]?=Z J->∃v,d[j]?=Z v/\v.1=.fr:=by
  intro e
  induction e with
  |nil=>intro d j _ h;simp at h
  |cons b bs n =>
   intro d j h g;cases d with
   |nil=>exact nomatch h
   |cons v r =>
    have h:=ZZ.mp h;cases j with
    |zero =>
     simp at g;subst g;exact⟨v,rfl,by simpa using h.1⟩
    |succ j =>
     obtain⟨w,l,i⟩:=n h.2 (by simpa using g);exact⟨w,by simpa using l,i⟩
 obtain⟨v,l,i⟩:=key h g;have:=f.each j v F l q;rw[i]at this;exact this.2 a p
section
def An(J:l6 G)(hn:∀k,(G.ct (c+1)).2 k≠m)(ht:∀O U p M H (R:List V->Hp->Prop),SR G O U M H->cs U=Z p->(∀j l Fs,aI H l->RpL G l j (trees p) Fs->P4 O U H p Fs->R j l)->t M H R)(h:tX G (c8 i way c mv g cs) M H Q):yi (G.ct (c+1)).1 m (OT G c mv g) [] E (Ub G i way) t M H Q:=by
 obtain⟨O,U,v,U',s,e,Pe,kq⟩:=h;unfold c8 at e;split at e
 ·rename_i t0 F;obtain⟨ks,ek,e3⟩:=Zz.mp e;obtain⟨p,el,e4⟩:=Zz.mp e3;obtain⟨⟨t',x2⟩,e5,e6⟩:=Zw.mp e4;cases e6;obtain⟨v0,h1,h2⟩:=s.rp _ _ F;obtain⟨w,x,F1,x3,w1,w2,w3,q,w5⟩:=pE ks J h2 (s.nd i t0 F) e5;unfold ye at q;split at q
  ·rename_i c1 b fs;split at q
   ·rename_i hc;obtain⟨rfl,Od,N,Y⟩:=hc;obtain⟨⟨Mp,y⟩,eg,e7⟩:=Zz.mp q;split at e7
    ·rename_i SO;cases e7;obtain⟨c',a,dx,b',ns,j,ts,Fs,ec,rfl,eb,rfl,eF,hA,hl,hb,ra⟩:=h9 w2;cases ec;cases eb;have N7:=hl.trans ra.len.1;refine⟨O,U,t0,ks,v0,.ref a,s,F,h1,ek,w1,λH1 D=>⟨a,dx,_,rfl,D a _ hA,?_,?_⟩⟩
     ·have key:∀(ns:Vh)(j:List V),((ns.map (G.ct (c+1)).2).zip j).lookup m=L:=by
       intro ns
       induction ns with
       |nil=>intro j;simp
       |cons n ns ih =>
        intro j;cases j with
        |nil=>simp
        |cons v j =>
         rw[Zg,ZQ,YT];have:(m==(G.ct (c+1)).2 n)=B:=by
          rw[beq_eq_false_iff_ne];exact λz=>hn n z.symm
         rw[this];exact ih j
      exact key ns j
     ·refine ht O U p M H1 _ (s.same D) el λus H2 Gs K6 Uj UL=>?_;have A:=D.trans K6;have VR:=DC N (⟨λn v' P a1 a2=>(UL.each n v' P a1 a2).back D,UL.nd⟩);refine⟨a,us,ns.zip ts,trees p,F1,Gs,Mp,y,by rw[ZS],?_,Uj.at (Nv a) Y,?_,?_,?_,eg,λu l P r ru=>?_⟩
      ·rw[eF];exact .ins (A a _ hA) hl (λ_=>rfl) ((ra.same A).at (Nv a) (iG N7 Od))
      ·rw[pq N];simp[trees]
      ·refine ZL.mpr ⟨w3,UL.nd.sublist (sZ N),λd C b2 NN z=>?_⟩;subst z;exact J8.JX (w2.Kd d C) (VR d NN)
      ·rw[xG N Uj];exact λd _ z=>nomatch z
      ·have back:Rp G l (.ref a) (.obj (c+1) ((0,.bl b) :: Mp)) P:=by
        obtain⟨c2,a2,dx2,b2,ns2,OO,ts2,Rw,Tv,ea2,eb2,ef2,eF2,hA2,MY,NN,NZ⟩:=h9 r.rp;cases Tv;cases ea2;subst ef2;rw[eF2];exact .ins hA2 MY hb (NZ.at G.me (iG (MY.trans NZ.len.1) SO.1))
       obtain⟨F2,g2⟩:=w5 l P (⟨(Kept.of A).trans r.kept,λd o1 C S=>r.keep d o1 (λz=>(ZW.mp z).elim C λz=>by rw[VR d z]at S;cases S) (A d o1 S),λd h=>r.Kd d λz=>h (A.free z),back,r.nd,λd C=>by
        rcases r.sub d C with z | z
        ·rcases ZW.mp z with z | z
         ·exact .inl z
         ·exact .inr (VR d z)
        ·exact .inr (A.free z)⟩)
       obtain⟨z1,z2⟩:=s.mut F h1 g2;exact kq u l _ z1 z2 (ru.at G.me (o9 y SO.2))
    ·cases e7
   ·cases q
  ·cases q
 ·cases e
def Cp(J:l6 G)(p:∀k,(G.ct (c+1)).2 k≠m)(n:Na G X o i way)(t:LV X.K (G.ct (c+1)).1)(q:Meth X.K (G.ct (c+1)).1 m f)(F:FnOk X.prog X.w X.K X.mg X.base KL k f fd ps (OT G c mv g))(l:JY k' X.A)(r:k<=k')(u:Binds X.K fd ps [])(v:Lc G X (e :: es) cs)(x:K1 e es X)(y:K2 pos es X)(j:eval (.Call (.Attribute o m apos) (e :: es) [] pos) X.env=(do
   let a ← eval o X.env
   standAt apos.atName
   let (f,first) ← holding [a] (getMethod a m d)
   callWith pos f first (backTo pos (P3 (e :: es) X.env)) (backToKw pos (SL [] X.env)))):PX G X (.Call (.Attribute o m apos) (e :: es) [] pos) (c8 i way c mv g cs) :=
 PE.weak (yc n t q F (l.mono r) u .nil qr v x y j) λM H Q h=>An J p (λO U b M H R s e k=>⟨O,U,b,s,e,k⟩) h
def Ui(x:Xx):Sx:=λU=>(x U).bind λz=>if J3 z.1.2 then Z (.nx z.2) else L
def eJ(j:Nat)(x:Xx):Sx:=λU=>(x U).bind λz=>if J3 z.1.2=J/\j<z.2.length then Z (.nx (z.2.set j (Z (.pu z.1.2)))) else L
def nq(x:Xx):Sx:=λU=>(x U).bind λz=>if J3 z.1.2 then Z (.rt (.fr,z.1.2) z.2) else L
def u6{pos:Pos}(h:PX G X e x)(n:swapsWith e L pos.line X.env=pure B):PSV G X (.Expr e pos) (Ui x) :=
 PS.weak (hZ h n) λD M H b=>by
  obtain⟨O,U,out,s,e,k⟩:=b;obtain⟨⟨v,j⟩,e1,e2⟩:=Zz.mp e;split at e2
  ·rename_i d;cases e2;exact⟨O,U,v,j,s,e1,d,λu p l a f r=>k l M p a f⟩
  ·cases e2
def xY(h:PX G X e x):PSV G X (.Return (Z e) pos) (nq x) :=
 PS.weak (r6 h) λD M H d=>by
  obtain⟨O,U,out,s,e,k⟩:=d;obtain⟨⟨v,l⟩,e1,e2⟩:=Zz.mp e;split at e2
  ·rename_i j;cases e2;exact⟨O,U,v,l,s,e1,j,λu p n b f r=>k u p [] n M b f r ⟨Yt,λa h=>nomatch h⟩⟩
  ·cases e2
def fe{pos:Pos}(h:PX G X e x)(C:X.N.Nodup)(l:X.N[j]?=Z d)(w:Loc X.env.scope d)(y:{`q8,swapsWith e (Z (.Name d b)) pos.line X.env=pure B})(A:X.fn d=J\/X.env.scope.names.lookup d=Z .local:=by exact .inl Y) :
  PSV G X (.Assign [.Name d b] e pos) (eJ j x) :=
 PS.weak (mS C l w h y A) λD M H z=>by
  obtain⟨O,U,out,s,e,k⟩:=z;obtain⟨⟨v,E⟩,e1,e2⟩:=Zz.mp e;split at e2
  ·rename_i l;cases e2;refine⟨O,U,v,E,s,e1,l.1,λu n F p f r=>?_⟩;obtain⟨t,q⟩:=p.val (m:=.fr) l.2 (aI.refl n) r ⟨Yt,λa h=>nomatch h⟩ (.inl ⟨rfl,by decide⟩);exact k _ _ n t (f.trans q)
  ·cases e2
def qT(i:Nat)(a:List MI)(k:Ex)(x:Xx):Sx:=λU=>(x U).bind λz=>if J3 z.1.2 then jY i a k (λ_=>Z (.fr,z.1.2)) z.2 else L
def Au{mv:Md}(J:l6 G)(s:SR G O U M H)(R:U[i]?=Z (Z (.ow t)))(ek:keys way U=Z Q)(MH:ck U=Z (mk,b))(e5:pm (ux (mk,b) (mv,p)) Q t=Z (t',y'))(Y:aI H H1)(rv:Rp G H1 xv p Fv)(S:Fp O U H mv Fv)(k:∀O' H',SR G O' (U.set i (Z (.ow t'))) M H'->Kh O U H O' (U.set i (Z (.ow t'))) H'->D M H'):HV (Ub G i way) (tE G ck) En xv M H1 D:=by
   obtain⟨v,g1,g2⟩:=s.rp _ _ R;obtain⟨w,x,F1,x3,w1,w2,w3,C,w5⟩:=pE Q J g2 (s.nd i t R) e5;refine⟨O,U,t,Q,v,w,s.same Y,R,g1,ek,w1.same Y,λH2 K6=>⟨O,U,mk,b,(s.same Y).same K6,MH,λkv H3 Fk Lr rk fk=>?_⟩⟩;have q:=(Y.trans K6).trans Lr;have Ox:=(rv.same K6).same Lr;have fin:∀N A,Chg G H w F1 x3 N A->D M N:=λN A g=>by
    obtain⟨F2,RR⟩:=w5 N A g;obtain⟨z1,z2⟩:=s.mut R g1 RR;exact k _ N z1 z2
   refine L2.iq λP_ k_=>?_;cases x with
   |lst l =>
    cases b with
    |int n =>
     obtain⟨tt,et,e7⟩:=Zz.mp (C);obtain⟨j,ej,e8⟩:=Zw.mp e7;cases e8;cases (nW et);obtain⟨a,vs,Fs,rfl,rfl,F,u⟩:=w2.lst_inv;have E:=q a _ F;have nd:=Zb.mp w3;have na:a∉Fv:=λz=>by rw[S.2 a z]at F;cases F
     have y:J8 (H3 a):=by rw[E];exact True.intro
     have off:=λd hb hv=>J8.JX (u.Kd d hb) (S.2 d hv);refine k_ ?_;refine .inl ⟨a,vs,n,j,rfl,rk.int_inv,E,by rw[← vR,u.len.1];exact ej,fin _ (a :: (Fs.set j Fv).flatten) ?_⟩;refine Chg.upd q Zx y (.lst aq ((((u.same q).off y nd.1)).putAt j ((λr hn=>r.keep (Kept.upd (.inl y)) λd hb o' MW=>by rw[aw (λz=>hn (by rw[← z];exact hb))];exact MW) Ox na))) ?_ ?_
     ·rw[Zb];refine⟨λh=>?_,dk nd.2 S.1 λi' A _ hi d hb=>off d (cE hi hb)⟩;rcases b9 h with z | ⟨i',A,_,h1,h2⟩
      ·exact na z
      ·exact nd.1 (cE h1 h2)
     ·intro d hb;rcases Zo.mp hb with rfl | hb
      ·exact .inl Zx
      ·rcases b9 hb with z | ⟨i',A,_,h1,h2⟩
       ·exact .inr (S.2 d z)
       ·exact .inl (Zy _ (cE h1 h2))
    |_=>cases C
   |dct kd l =>
    cases kd with
    |zero =>
     have hc:(fm b=true/\J3 p=true/\l.length<fq)/\x3=.dct 0 (dput l b p):=by
      have P8:(if fm b/\J3 p/\l.length<fq then Z (T.dct 0 (dput l b p),()) else L)=Z (x3,y'):=C;split at P8
      ·rename_i hc;cases P8;exact⟨hc,rfl⟩
      ·cases P8
     obtain⟨⟨c1,c2,c3⟩,rfl⟩:=hc;have eF:=Ox.J3 c2;subst eF;obtain⟨a,ns,vs,ts,Fs,rfl,rfl,F,hl,rfl,u⟩:=dc w2;obtain⟨kk,rfl,M8⟩:=dB rk c1;subst M8;have E:=q a _ F;have y:J8 (H3 a):=by rw[E];exact True.intro
     have nd:=Zb.mp w3;obtain⟨QL,LW,Lg,LJ,q1,q2,q3,q4,P⟩:=sF Ox hl (u.same q);refine k_ ?_;refine .inr ⟨a,_,rfl,uk.k E (by
      have:((ns.map aD).zip ts).length<16777216:=c3;rw[Yv,Zt]at this;rw[Yv];have:=u.len.1;have:(KM:Nat)=16777216:=rfl;lia),fin _ (a :: LJ.flatten) ?_⟩
     rw[q1,q3];refine Chg.upd q Zx y (.dct aq q2 (q4.off y λz=>nd.1 (P.subset z))) ?_ ?_
     ·exact Zb.mpr ⟨λz=>nd.1 (P.subset z),nd.2.sublist P⟩
     ·intro d hb;rcases Zo.mp hb with rfl | hb
      ·exact .inl Zx
      ·exact .inl (Zy _ (P.subset hb))
    |succ n=>cases C
   |_=>cases C
def xD{X:Cx}{pos:Pos}(J:l6 G)(C:JY w X.A)(F:Na G X o i way)(N:PV G X b l)(he:PX G X e x)(Q:∀v,assign (.Subscript o b d) X.env v=(do
   let j ← holding [v] (eval o X.env)
   let iv ← holding [v,j] (eval b X.env)
   standAt d
   holding [v,j,iv] (setItem j iv v)
   release [v,j,iv] []))(z:swapsWithSole [.Subscript o b d] e pos.line X.env=pure B)(hw:swappedStores [.Subscript o b d] e X.env=pure L)(R:(assignEach [.Subscript o b d] X.env).map (·.2)=[assign (.Subscript o b d) X.env]):PSV G X (.Assign [.Subscript o b d] e pos) (qT i way l x) :=
 PS.weak (rK he (sJ F N (yf (j3 C)) Q) z hw R) λD M H E=>by
  obtain⟨O,U,out,s,e,k⟩:=E;obtain⟨⟨v,U'⟩,e1,e2⟩:=Zz.mp e;split at e2
  ·rename_i P;refine⟨O,U,v,U',s,e1,P,λu H' O' q f r=>?_⟩;obtain⟨⟨mv,tv⟩,ev,e2⟩:=Zz.mp e2;cases ev;split at e2
   ·rename_i t y;obtain⟨ks,S,e2⟩:=Zz.mp e2;obtain⟨⟨mk,tk⟩,MH,e2⟩:=Zz.mp e2;obtain⟨⟨t',y'⟩,e5,Y⟩:=Zw.mp e2;cases Y;exact Au J q y S MH e5 (aI.refl H') r ⟨Yt,λa h=>nomatch h⟩ λO2 H2 p n=>k _ M H2 p (f.trans n)
   ·cases e2
  ·cases e2
end
end VS
end
section
namespace L2
open PySem PySem.Spec PyProof.Rows
def vV:dA X (.type "dict") (λf H Q=>∃(d:On)(a:List (Key×V)),f=[.ref d]/\H d=Z (.dK a)/\∀l,H l=L->Q (.ref l) (upd H l (.dK a))):=by
 intro g s M H f w Q I m h;obtain⟨d,a,rfl,hd,q⟩:=h;obtain⟨u,rfl,n⟩:=m.one;cases n;obtain⟨i,t,v,rel,p⟩:=qg I.JZ hd;refine PySem.kt_call_dict t p (by rw[← X6 rel];exact i) λx r j=>?_;exact⟨.ref s.heap.objs.size,_,I.laid (λb o e=>(j.2 b (Zf (ZY e))).trans (Zm _ e)) (Zk _) (pD i (beq_eq_false_iff_ne.mpr (Yy (Zf I.big))) rel r),rfl,q _ (I.JZ.fresh (Zk _))⟩
end L2
namespace VS
open PySem PySem.Spec PyProof.Rows L2
def pK:Vd->Vc
 |[(_,.dct 0 l)]=>if fZ (l.map (·.2))=J then Z (.fr,.dct 0 l) else L
 |_=>L
section
def BF:fz G (λs H Q=>∃(d:On)(h:List (Key×V)),s=[.ref d]/\H d=Z (.dK h)/\∀l,H l=L->Q (.ref l) (upd H l (.dK h))) pK:=by
 intro O U D H l x E m t Q A e k;unfold pK at e;split at e
 ·rename_i z C;split at e
  ·rename_i n;cases e;obtain⟨v,F,rfl,rfl,r⟩:=(A.rp).one;obtain⟨a,ns,u,y,Gs,rfl,rfl,w,j,rfl,f⟩:=dc r;refine⟨a,_,rfl,w,λq i=>?_⟩;have g:aI H (upd H q (.dK (ns.zip u))):=bB i;rw[Vj (by rw[Zt,j,f.len.1];exact Zk _)]at n;refine k _ _ (q :: Gs.flatten) g (.dct aq j (f.same g)) ?_;rw[(f.J3 n)];exact Fp.new (A.same.free i) (by simp) Fp.nil
  ·cases e
 ·cases e
def Cz{X:Cx}(d:X.mg "dict" = L)(g:Lc G X [e] cs)(f:Gl X "dict")(he:K1 e [] X):PV G X (.Call (.Name "dict" p) [e] [] pos) (eN pK cs) :=
 j9 vV BF f d wY g (he:=he)
def Gu{i d:Int}:PV G X (.Dict [Z (.Constant (.int i) j q)] [.Constant (.int d) h g] pos) (pZ 0 [(Q3 i,Q3 d)]) :=
 PE.weak (yd (uG rD rD xA) Y Y (by simp) (by show 1<=15;decide)) λM H Q l=>by
  obtain⟨O,U,m,r,s,e,k⟩:=l;cases (e);intro p f;refine⟨aq,[(Sum.inl i,.int d)],rfl,(by show 1<=15;decide),?_⟩;rw[Dy];have:Rp G (upd H p (.dK [(Sum.inl i,V.int d)])) (.ref p) (.dct 0 ((([Sum.inl i]:List Key).map aD).zip [.int d])) (p :: ([[]]).flatten) :=
   .dct aq Y (.cons (.int d) .nil)
  exact k _ _ _ (bB f) this ⟨by simp,λb hb=>by simp at hb;rw[hb];exact f⟩
def yN(x y:Val):Vc:=match x.2 with
 |.dct 0 l=>if fm y.2 then Z (match dn l y.2 with | some t=>sub x.1 t | none=>(.fr,.non)) else none
 |_=>L
def w_get{X:Cx}{apos:Pos}(E:JY kr X.A)(P:PV G X o ca)(he:PV G X e cb)(Ka:XAA o "get" X.env (eval o X.env)=eval o X.env)(Kr:((backTo pe (P3 [e] X.env)).all (λx=>!x.1)&&(backToKw pe (SL [] X.env)).all (λx=>x.1.isSome)
   && decide (([e]:List Expr).length+([]:List Keyword).length+(if ([]:List Keyword).isEmpty then 0 else 1)<30))=J)(J6:(apos.endLine==pe.line)=J)(h:backTo pe (P3 [e] X.env)=[(B,eval e X.env)]):PV G X (.Call (.Attribute o "get" apos) [e] [] pe) (e2 yN ca cb) :=
 PE.weak (zL (j3 E) P he ⟨Ka,Kr,J6,h⟩) λM H Q N=>by
  obtain⟨O,U,m,r,s,e,u⟩:=N;obtain⟨⟨C,x⟩,ea,e⟩:=Zz.mp e;obtain⟨⟨z,y⟩,eb,e⟩:=Zz.mp e;unfold yN at e;split at e
  ·rename_i l D;subst D;split at e
   ·rename_i S;have d:=Zh e;refine⟨O,U,C,_,s,ea,λv H1 F1 t r1 f1=>?_⟩;obtain⟨a,ks,vs,ts,Fs,rfl,rfl,j,R,rfl,q⟩:=dc r1;refine⟨a,rfl,.inl ⟨_,.inl j⟩,O,U,z,y,s.same t,eb,λv2 w F2 g r2 f2=>?_⟩;obtain⟨kk,rfl,ek⟩:=dB r2 S;rw[ek]at d;rcases j4 R (q.same g) with⟨h1,Y⟩ | ⟨i,v,t2,F,a1,a2,a3,a4,n⟩
    ·rw[h1]at d;cases d;refine⟨_,iN.k (g a _ j),?_⟩;rw[Y];exact u .non w [] (t.trans g) .non Fp.nil
    ·rw[a1]at d;refine⟨_,iN.k (g a _ j),?_⟩;rw[a2];have f:=((f1.sub (Yd _ _)).sub (bC a4)).up n;unfold VS.sub at d;dsimp only at d;rw[d]at f;have et:t2=r:=congrArg Prod.snd d;rw[et]at n;exact u v w F (t.trans g) n f
   ·cases e
  ·cases e
def mE(x y:Val):Vc:=match x.2 with
 |.dct 3 l=>if fm y.2 then (dn l y.2).map (sub x.1) else L
 |_=>L
def o7(r:Rp G H v (.dct 3 l) F):∃(a:On)(o:Obj)(ks:List Key)(d:List V)(f:Vb)(i:Xy),v=.ref a/\F=i.flatten/\H a=Z (.frz o (.dK (ks.zip d)))/\ks.length=d.length/\l=(ks.map aD).zip f/\RpL G H d f i:=by
 generalize g:T.dct 3 l=z at r;cases r with
 |dctZ h j q=>cases g;exact⟨_,_,_,_,_,_,rfl,rfl,h,j,rfl,q⟩
 |_=>cases g
def FP:fY G (Ie G.K) mE:=by
 intro O U S H x y u w F1 F2 m t Q d e k;obtain⟨P,x⟩:=x;unfold mE at e;split at e
 ·rename_i l h;subst h;split at e
  ·rename_i n;obtain⟨N,e1,e2⟩:=Zw.mp e;obtain⟨a,o,ks,E,M,Y,rfl,rfl,r,j,rfl,q⟩:=o7 d.r1;obtain⟨g,rfl,z⟩:=dB d.r2 n;rw[z]at e1;rcases j4 j q with⟨s,_⟩ | ⟨i,v,t2,F,D,C,R,A,f⟩
   ·rw[s]at e1;cases e1
   ·rw[D]at e1;cases e1;cases e2;refine .inr ⟨a,v,rfl,.inl ⟨_,g,.inr ⟨o,r⟩,rfl,C.symm⟩,?_⟩;exact k v H F (aI.refl _) f ((d.f1.sub (bC A)).up f)
  ·cases e
 ·cases e
def xW{X:Cx}(f:JY kr X.A)(i:PV G X a ca)(g:PV G X b cb)(d:fH b:=by exact λ_ _=>rfl)(j:{`q8,X.K=G.K}):PV G X (.Subscript a b pos) (e2 mE ca cb) :=
 PE.weak (lM (LI.or kB (sL (j3 f))) i g d) λM H Q h=>by rw[j];exact mR FP h
end
def eNew(c:Nat)(g:Mt)(b:Ko):Ex:=λU=>(b U).bind λa=>if cz (trees a)=J then (g [] (trees a)).bind λz=>if jw z.1=J/\RG z.2=J then Z (.fr,.obj (c+1) ((0,.bl B) :: z.1)) else L else L
def jk(c:Nat)(g:Fn)(d:Ex)(b:Ko):Ex:=λU=>(d U).bind λx=>match x.2 with
 |.obj e (_ :: _)=>if e=c+1 then (b U).bind λa=>(g (x.2 :: trees a)).bind λr=>match r.1 with
  |.fr=>Z r
  |_=>L else L
 |_=>L
theorem BX{α:Type}:∀(l:List α)(a:Xy),KO (l.map λ_=>B) a=[]
 |[],_=>by simp[KO]
 |_ :: _,[]=>by simp[KO]
 |_ :: l,F :: a=>by
  rw[Zg,KO,Zn ZX,YK];exact BX l a
theorem zQ:∀(mv:List Bool)(d:Xy),∀a∈MS mv d,a∈d.flatten
 |[],_,a,h=>by simp[MS]at h
 |_ :: _,[],a,h=>by simp[MS]at h
 |b :: bs,F :: d,a,h=>by
  rw[MS]at h;rw[ZK];rcases ZW.mp h with h | h
  ·cases b with
   |true=>simp at h
   |false=>exact Ye _ (by simpa using h)
  ·exact ZP _ (zQ bs d a h)
section
def C0{G:Gx}(r:Rp G H u t F)(h:RG t=J):u=.non:=by
 cases r with
 |non=>rfl
 |_=>cases h
def GX{X:Cx}(F:∀n,FnOk X.prog X.w X.K X.mg X.base KL k f fd ps (OT G c (List.replicate n B) g)->True)(ht:∀O U d M H (R:List V->Hp->Prop),SR G O U M H->cs U=Z d->(∀C A Fs,aI H A->RpL G A C (trees d) Fs->P4 O U H d Fs->R C A)->t M H R)(n:Nat)(hn:∀U d,cs U=Z d->d.length=n)(hq:tE G (eNew c g cs) M H Q):Ew (G.ct (c+1)).1 (OT G c (List.replicate n B) g) [] E t M H Q:=by
 obtain⟨O,U,mo,r,s,e,kq⟩:=hq;obtain⟨d,el,e1⟩:=Zz.mp e;split at e1
 ·rename_i P;obtain⟨⟨Mp,y⟩,eg,e2⟩:=Zz.mp e1;split at e2
  ·rename_i hc;cases e2;refine ht O U d M H _ s el λC H1 Gs Kw j UM a dx S N ne=>?_;have l:=Kw.free S;have K6:aI H1 (upd (upd H1 dx (.own a)) a (.ins (G.ct (c+1)).1 dx [])):=λb D q=>by
    rw[aw (λz=>by rw[z,S]at q;cases q),aw (λz=>by rw[z,N]at q;cases q)];exact q
   have em:List.replicate n B=(List.range n).map λ_=>B:=by rw[List.map_const',ZT]
   have VT:KO (List.replicate n B) Gs=[]:=by rw[em];exact BX _ _
   refine⟨a,C,[],trees d,[a],Gs,Mp,y,by rw[ZS],.ins (ks:=[]) aq Y (λ_=>rfl) .nil,(j.same K6).at (Nv a) P,?_,?_,?_,eg,λu A F' v ru=>⟨C0 ru hc.2,?_⟩⟩
   ·simp[trees,(hn U d el)]
   ·rw[VT];simp
   ·rw[VT];intro b hb KC;have:b=a:=by simpa using hb
    subst this;exact J8.JX (j.Kd b (zQ _ _ b KC)) S
   ·rw[VT,ZS]at v;refine kq (.ref a) A F' (λb D q=>v.keep b D (λz=>?_) (K6 b D (Kw b D q))) (by
     obtain⟨c2,a2,dx2,b2,ns2,OO,ts2,Rw,Tv,ea2,eb2,ef2,eF2,hA2,MY,NN,NZ⟩:=h9 v.rp;cases Tv;cases ea2;subst ef2;rw[eF2];exact .ins hA2 MY (λz=>nomatch z) (NZ.at G.me (iG (MY.trans NZ.len.1) hc.1))) ⟨v.nd,λb hb=>?_⟩
    ·have:b=a:=by simpa using z
     rw[this,l]at q;cases q
    ·rcases v.sub b hb with z | z
     ·have:b=a:=by simpa using z
      rw[this];exact l
     ·exact(λb z=>Kw.free (K6.free z)) b z
  ·cases e2
 ·cases e1
def Gw{G:Gx}{X:Cx}(q:Mk X.K (G.ct (c+1)).1 f)(F:FnOk X.prog X.w X.K X.mg X.base KL k f fd ps (OT G c [] g))(b:JY k' X.A)(j:k+1<=k')(l:Gl X x)(d:X.mg x=Z (.ref (G.ct (c+1)).1))(n:Binds X.K fd ps [])(r:K3 x):PV G X (.Call (.Name x p) [] [] pos) (eNew c g aj) :=
 PE.weak (Am q F (b.mono j) l d n .nil qr r) λM H Q h=>GX (X:=X) (k:=k) (f:=f) (fd:=fd) (ps:=ps) (λ_ _=>True.intro) (λO U a M H R s e k=>by
  cases (e);exact k [] H [] (aI.refl _) .nil ⟨λi v F h=>by simp at h,by simp[Lv]⟩) 0 (λU a e=>by
  cases (e);rfl) h
theorem xV{g:Nat->Str}(b:∀k,g k≠m):∀(ns:Vh)(a:List V),((ns.map g).zip a).lookup m=L
 |[],a=>by simp
 |_ :: _,[]=>by simp
 |n :: ns,v :: a=>by
  rw[Zg,ZQ,YT];have:(m==g n)=B:=by
   rw[beq_eq_false_iff_ne];exact λz=>b n z.symm
  rw[this];exact xV b ns a
def xu{G:Gx}(hn:∀k,(G.ct (c+1)).2 k≠m)(S:∀O U d M H (R:List V->Hp->Prop),SR G O U M H->cs U=Z d->(∀l j z,aI H j->RpL G j l (trees d) z->P4 O U H d z->R l j)->t M H R)(Y:tE G (jk c h ca cs) M H Q):yi (G.ct (c+1)).1 m (MK G h) [] E (tE G ca) t M H Q:=by
 obtain⟨O,U,mo,r,s,e,N⟩:=Y;obtain⟨⟨F,y⟩,ea,e1⟩:=Zz.mp e;split at e1
 ·rename_i c' q0 fs P;subst P;split at e1
  ·rename_i hc;subst hc;obtain⟨d,el,e2⟩:=Zz.mp e1;obtain⟨⟨n,D⟩,eg,e3⟩:=Zz.mp e2;refine⟨O,U,F,_,s,ea,λv H1 F1 q r1 f1=>?_⟩;obtain⟨c2,a,dx,b,ns,l,ts,z,ec,rfl,eb,ef,eF,hA,hl,hb,ra⟩:=h9 r1;cases ec;refine⟨a,dx,_,rfl,hA,xV hn _ _,S O U d M H1 _ (s.same q) el λus H2 Gs w Uj UL=>?_⟩;rw[ZS];refine⟨_ :: trees d,F1 :: Gs,n,D,.cons (r1.same w) Uj,eg,λu j F' Lr C A=>?_⟩;cases n with
   |fr =>
    cases e3;exact N u j F' ((q.trans w).trans Lr) C ⟨A.1,λb hb=>q.free (w.free (A.2 b hb))⟩
   |pu=>cases e3
   |bo=>cases e3
  ·cases e1
 ·cases e1
def FV{G:Gx}(r:∀k,(G.ct (c+1)).2 k≠m)(n:PV G X o ca)(v:LV X.K (G.ct (c+1)).1)(t:Meth X.K (G.ct (c+1)).1 m f)(F:FnOk X.prog X.w X.K X.mg X.base KL k f fd ps (MK G h))(l:JY k' X.A)(u:k<=k')(y:Binds X.K fd ps [])(z:Lc G X (e :: es) cs)(C:K1 e es X)(D:K2 pos es X)(j:eval (.Call (.Attribute o m apos) (e :: es) [] pos) X.env=(do
   let a ← eval o X.env
   standAt apos.atName
   let (f,first) ← holding [a] (getMethod a m d)
   callWith pos f first (backTo pos (P3 (e :: es) X.env)) (backToKw pos (SL [] X.env)))):PV G X (.Call (.Attribute o m apos) (e :: es) [] pos) (jk c h ca cs) :=
 PE.weak (yc n v t F (l.mono u) y .nil qr z C D j) λM H Q q=>xu r (λO U b M H R s e k=>⟨O,U,b,s,e,k⟩) q
def CS{G:Gx}(n:∀k,(G.ct (c+1)).2 k≠m)(l:PV G X o ca)(u:LV X.K (G.ct (c+1)).1)(r:Meth X.K (G.ct (c+1)).1 m f)(F:FnOk X.prog X.w X.K X.mg X.base KL k f fd ps (MK G h))(j:JY k' X.A)(t:k<=k')(y:Binds X.K fd ps [])(d:eval (.Call (.Attribute o m apos) [] [] pos) X.env=(do
   let a ← eval o X.env
   standAt apos.atName
   let (f,first) ← holding [a] (getMethod a m b)
   callWith pos f first (backTo pos (P3 [] X.env)) (backToKw pos (SL [] X.env)))):PV G X (.Call (.Attribute o m apos) [] [] pos) (jk c h ca aj) :=
 PE.weak (BW l u r F (j.mono t) y .nil qr d) λM H Q q=>xu n (λO U z M H R s e k=>by
  cases (e);exact k [] H [] (aI.refl _) .nil ⟨λi v F h=>by simp at h,by simp[Lv]⟩) q
end
def rg(i:Nat)(a:List MI)(j:Nat)(U:VS.Env):Option Out:=match (U[i]?:Option (Ve)),(U[j]?:Option (Ve)) with
 |some (some (.ow t)),some (some (.ow u))=>if i≠j then (keys a U).bind λks=>(pm (λx=>aJ x [(.fr,u)]) ks t).map λz=>.nx ((U.set j L).set i (Z (.ow z.1))) else L
 |_,_=>L
open Classical in
noncomputable def less(H:Hp)(F:Wc):Hp:=λb=>if b∈F then L else H b
section
def rB(h:b∈F):less H F b=L:=Zp h
def iK(h:b∉F):less H F b=H b:=Zn h
def iF{o:HO}(h:less H F b=Z o):H b=Z o/\b∉F:=by
 by_cases q:b∈F
 ·rw[rB q]at h;cases h
 ·rw[iK q]at h;exact⟨h,q⟩
def yW(h:∀b∈F,J8 (H b)):Kept H (less H F) :=
 ⟨λb a e=>by
  rw[iK (λz=>by have:=h b z;rw[e]at this;exact this)];exact e,λb o u e=>by
  rw[iK (λz=>by have:=h b z;rw[e]at this;exact this)];exact e⟩
def D2{apos pos:Pos}(J:l6 G)(ho:Na G X o i way)(hK:X.K=G.K)(hN:X.N[j]?=Z y)(hv:L6 X.env.scope y)(hd:K3 y)(Ks:K4 y)(Ka:XAA o "append" X.env (eval o X.env)=eval o X.env)(Kr:((backTo pe (P3 [.Name y p1] X.env)).all (λx=>!x.1)&&(backToKw pe (SL [] X.env)).all (λx=>x.1.isSome)
   && decide ([Expr.Name y p1].length+([]:List Keyword).length+(if ([]:List Keyword).isEmpty then 0 else 1)<30))=true)(J6:(apos.endLine==pe.line)=true)(hs:P3 [.Name y p1] X.env=(B,eval (.Name y p1) X.env) :: P3 [] X.env)(J2:(backTo pe (P3 [] X.env)).any (·.1)=B)(Lm:swapsWith (.Call (.Attribute o "append" apos) [.Name y p1] [] pe) L pos.line X.env=pure B) :
  PSV G X (.Expr (.Call (.Attribute o "append" apos) [.Name y p1] [] pe) pos) (rg i way j) :=
 PS.weak (hZ (lI Y7 Y4 Y3 fC ho (bW (dS hN hv hd Ks) dP hs) Ka Kr J6 hs J2) Lm) λD M H hq=>by
  obtain⟨O,U,out,s,e,k⟩:=hq;unfold rg at e;split at e
  ·rename_i t u ht C;split at e
   ·rename_i SX;obtain⟨ks,ek,e3⟩:=Zz.mp e;obtain⟨⟨Q,x2⟩,e5,e6⟩:=Zw.mp e3;cases e6;obtain⟨vj,j1,j2⟩:=s.rp _ _ C;have A:=j2;have ndj:=s.nd j u C;have kp:=yW A.Kd;have s0:SR G O (U.set j L) M (less H (O j)):=⟨(s.drop j).len,λS c' h=>by
     obtain⟨n,h'⟩:=cU h;obtain⟨v,Y,h2⟩:=s.rp S c' h';exact⟨v,Y,h2.keep kp λb hb d hob=>by rw[iK ((λS c' n h b hb KC=>s.sep j S u c' C h (Yy n) b KC hb) S c' n h' b hb)];exact hob⟩,(s.drop j).nd,(s.drop j).sep⟩
    have V8:(U.set j L)[i]?=Z (Z (.ow t)):=by
     rw[Yr (Yy SX)];exact ht
    obtain⟨v,Y,h2⟩:=s0.rp _ _ V8;obtain⟨w,x,F1,x3,w1,w2,w3,P,w5⟩:=pE ks J h2 (s0.nd i t V8) e5;unfold aJ at P;split at P
    ·rename_i l yv heq;cases heq;obtain⟨z,ez,e7⟩:=Zz.mp P;cases (ez);split at e7
     ·rename_i hl;cases e7;obtain⟨a,us,Gs,rfl,rfl,ha,ra⟩:=w2.lst_inv;obtain⟨g,E⟩:=iF ha;refine⟨O,U,t,ks,v,.ref a,s,ht,Y,ek,(by
       have:∀{ks:List Ky}{v w:V},LH G (less H (O j)) ks v w->LH G H ks v w:=by
        intro ks v w p
        induction p with
        |nil v=>exact .nil v
        |fld h l _ f=>exact .fld (iF h).1 l f
        |ix h l m _ f=>exact .ix (iF h).1 l m f
        |key h l _ f=>exact .key (iF h).1 l f
        |un _ f=>exact .un f
       exact this w1),λH0 r=>⟨.inl ⟨rfl,us,by rw[hK];exact Kb.of (r a _ g)⟩,vj,j1,a,us,vj,rfl,rfl,r a _ g,by rw[ra.len.1];exact hl,?_⟩⟩
      have R:J8 (H0 a):=by rw[r a _ g];exact True.intro
      have Sq:=Zb.mp w3;have VH:=λb hb KC=>by
       have:=ra.Kd b hb;rw[rB KC]at this;exact this
      have F:∀b d,less H (O j) b=Z d->H0 b=Z d:=λb d h=>r b d (iF h).1;have kl:Kept (less H (O j)) H0:=⟨λb xs h=>F b _ h,λb d u h=>F b _ h⟩
      obtain⟨F2,g2⟩:=w5 _ _ (by
       refine⟨kl.trans (Kept.upd (.inl R)),λb d hb h=>by rw[aw (λz=>hb (by rw[z];exact Zx))];exact F b d h,λb h z=>?_,.lst aq ((RpL.off (ra.keep kl λb hb d h=>F b d h) R Sq.1).append (.cons (((A.same r)).keep (Kept.upd (.inl R)) λb hb d ho=>by rw[aw (λz=>E (by rw[← z];exact hb))];exact ho) .nil)),?_,λb hb=>?_⟩
       ·by_cases q:b=a
        ·rw[q,aq]at z;cases z
        ·rw[aw q]at z;cases e:less H (O j) b with
         |none=>exact h e
         |some d=>rw[F b d e]at z;cases z
       ·rw[Yg];refine Zb.mpr ⟨λm=>?_,ZL.mpr ⟨Sq.2,by simpa using ndj,λb hb c hc z=>?_⟩⟩
        ·rcases ZW.mp m with m | m
         ·exact Sq.1 m
         ·exact E (by simpa using m)
        ·subst z;exact VH b hb (by simpa using hc)
       ·rcases Zo.mp hb with rfl | hb
        ·exact .inl Zx
        ·rw[Yg]at hb;rcases ZW.mp hb with hb | hb
         ·exact .inl (Zy _ hb)
         ·exact .inr (rB (by simpa using hb)))
      obtain⟨z1,z2⟩:=s0.mut V8 Y g2;have back:∀b,less H (O j) b=L->bL O U b\/H b=L:=λb h=>by
       by_cases q:b∈O j
       ·exact .inl ⟨j,u,C,q⟩
       ·rw[iK q]at h;exact .inr h
      have Mm:∀b,bL O (U.set j L) b->bL O U b:=λb ⟨j',Q,q1,q2⟩=>⟨j',Q,(cU q1).2,q2⟩
      have Uo:∀b,df O (U.set j L) b->df O U b:=λb ⟨j',Q,q1,q2⟩=>⟨j',Q,(cU q1).2,q2⟩
      refine k _ M _ z1 ⟨λb d h n=>?_,λb h z=>?_,λb h=>?_,λb h=>?_,(Kept.of r).trans (Kept.upd (.inl R))⟩
      ·exact z2.keep b d (by rw[iK (λz=>n ⟨j,u,C,z⟩)];exact h) λz=>n (Mm b z)
      ·by_cases q:b=a
       ·rw[q,aq]at z;cases z
       ·rw[aw q]at z;exact h (r.free z)
      ·rcases z2.ow b h with h | h
       ·exact .inl (Mm b h)
       ·exact back b h
      ·rcases z2.pu b h with h | h | h
       ·exact .inl (Uo b h)
       ·exact .inr (.inl (Mm b h))
       ·exact(back b h).elim (λz=>.inr (.inl z)) λz=>.inr (.inr z)
     ·cases e7
    ·cases P
   ·cases e
  ·cases e
end
end VS
end
section
namespace VS
open PySem PySem.Spec PyProof.Rows L2
noncomputable def isInt:T->Bool
 |.int _=>J
 |_=>B
def wm(i:Nat):Ms:=λU=>match (U[i]?:Option (Ve)) with
 |some (some (.pu (.dct 3 l)))=>if (l.all λp=>isInt p.1)=J then Z (.fr,l.map (·.1)) else L
 |_=>L
def A0(i:Nat)(a:Tg)(b:Ex):Sx:=λU=>match (U[i]?:Option (Ve)) with
 |some (some (.ow (.dct 0 l)))=>(bD 1 a (wm i) L b (U.set i (Z (.pu (.dct 3 l))))).bind λv=>match v.1 with
  |.fr=>Z (.rt v (U.set i L))
  |_=>L
 |_=>L
theorem zip_inj{α β:Type}:∀{a c:List α}{b d:List β},a.length=b.length->c.length=d.length->a.zip b=c.zip d->a=c
 |[],[],_,_,_,_,_=>rfl
 |[],_ :: _,_,[],_,h,_=>by simp at h
 |[],_ :: _,[],_ :: _,_,_,h=>by simp at h
 |[],_ :: _,_ :: _,_ :: _,h,_,_=>by simp at h
 |_ :: _,_,[],_,h,_,_=>by simp at h
 |_ :: _,[],_ :: _,[],_,_,h=>by simp at h
 |_ :: _,[],_ :: _,_ :: _,_,h,_=>by simp at h
 |_ :: _,_ :: _,_ :: _,[],_,h,_=>by simp at h
 |x :: a,y :: c,z :: b,w :: d,f,e,h=>by
  rw[ZQ,ZQ]at h;obtain⟨e1,e2⟩:=Vy h;rw[zip_inj (by simpa using f) (by simpa using e) e2,(X4 e1).1]
section
def Gr{X:Cx}(i:Nat)(N:List Str)(Kf:X.calm=J)(hN:X.N[i]?=Z x)(hv:L6 X.env.scope x)(hd:K3 x)(Ks:K4 x)(La:pf 1 g)(hg:∀cl C s H fp,OJ G (bq X N sc cl C s H fp) tg g)(he:∀cl C s H fp,PV G (bq X N sc cl C s H fp) elt ce)(KW:iO X.env sc=J)(Ls:kh sc (N.drop 1) X.N=J)(L4:1<=N.length)(hs:∀y,XAB (.Name x p1) X.env y=pure y) :
  PSV G X (.Return (Z (.ListComp elt [⟨tg,.Name x p1,[],0⟩] sc pos)) pos') (A0 i g ce) :=
 PS.weak (r6 (nY Kf (EO (dS hN hv hd Ks)) KW Ls L4 (λcl C s H fp=>⟨hg cl C s H fp,jK,he cl C s H fp⟩) hs)) λD M H hq=>by
  obtain⟨O,U,out,s,e,k⟩:=hq;unfold A0 at e;split at e
  ·rename_i l A;obtain⟨⟨mv,tv⟩,ev,e1⟩:=Zz.mp e;have NK:mv=.fr/\out=.rt (.fr,tv) (U.set i L):=by
    cases mv with
    |fr=>cases e1;exact⟨rfl,rfl⟩
    |pu=>cases e1
    |bo=>cases e1
   obtain⟨rfl,rfl⟩:=NK;obtain⟨v,g1,g2⟩:=s.rp _ _ A;obtain⟨a,ns,E,S,Fs,rfl,eF,ha,Nw,rfl,ra⟩:=dc g2;have nd:=s.nd i _ A;rw[eF]at nd;refine⟨.ref a,g1,a,ns.zip E,rfl,ha,λo=>?_⟩;have mu:J8 (H a):=by rw[ha];exact True.intro
   have kp:Kept H (upd H a (.frz o (.dK (ns.zip E)))):=Kept.upd (.inl mu);have es:M.set i (Z (.ref a))=M:=by
    obtain⟨h,e⟩:=Ze.mp g1;rw[← e];exact Ws h
   have aΦ:a∈O i:=by rw[eF];exact Zx
   have sub:∀b∈Fs.flatten,b∈O i:=λb hb=>by rw[eF];exact Zy _ hb
   have s1:SR G (jv O i Fs.flatten) (U.set i (Z (.pu (.dct 3 ((ns.map aD).zip S))))) M (upd H a (.frz o (.dK (ns.zip E)))):=by
    have:=s.put (c:=.pu (.dct 3 ((ns.map aD).zip S))) ((Ze.mp A).1) (.dctZ aq Nw (ra.off mu (Zb.mp nd).1)) (λj c' n Y w q=>q.keep kp λb hb ob ho=>by
     rw[aw (λz=>s.sep i j _ c' A Y (Yy n) a aΦ (by rw[← z];exact hb))];exact ho) (λ_ z=>nomatch z) (λ_ z=>nomatch z) λj u n Y b hb KC=>s.sep j i u _ Y A n b hb (sub b KC)
    rw[es]at this;exact this
   obtain⟨O2,U2,m2,l2,s2,e2,k2⟩:=lK La (by
    refine⟨_,_,.fr,tv,s1,ev,λu H' F R r f=>?_⟩;have ee:(U.set i (Z (.pu (.dct 3 ((ns.map aD).zip S))))).set i L=U.set i L:=by rw[List.set_set]
    have sd:=(s1.drop i).same R;rw[ee]at sd;have Mm:∀b,bL (jv O i Fs.flatten) (U.set i L) b->bL O U b:=λb ⟨j,t,m,d⟩=>by
     obtain⟨n,Sh⟩:=cU m;rw[d7 n]at d;exact⟨j,t,Sh,d⟩
    refine k u H' F _ M sd ⟨λb ob h n=>?_,λb h z=>?_,λb h=>.inl (Mm b h),λb ⟨j,t,m,d⟩=>?_,kp.trans (Kept.of R)⟩ r ⟨f.1,λb hb=>.inl ?_⟩
    ·have nb:b≠a:=λz=>n ⟨i,_,A,by rw[z];exact aΦ⟩;exact⟨R b ob (by rw[aw nb];exact h),λz=>n (Mm b z)⟩
    ·have Q:=R.free z;by_cases q:b=a
     ·rw[q,aq]at Q;cases Q
     ·rw[aw q]at Q;exact h Q
    ·obtain⟨n,Sh⟩:=cU m;rw[d7 n]at d;exact .inl ⟨j,t,Sh,d⟩
    ·have:=f.2 b hb;by_cases q:b=a
     ·rw[q,aq]at this;cases this
     ·rw[aw q]at this;exact this)
   refine k2 (UU a o (ns.zip E)) _ [] (aI.refl _) ?_ (λb hb=>nomatch hb);unfold wm at e2;split at e2
   ·rename_i l3 h3;split at e2
    ·rename_i hint;cases e2;obtain⟨v3,m,d⟩:=s2.rp _ _ h3;rw[g1]at m;cases m;obtain⟨a3,o3,ks3,UZ,R8,Fs3,ea3,_,LR,Pc,rfl,NZ⟩:=o7 d;cases ea3;rw[aq]at LR;have ek:=zip_inj Nw Pc (HO.dK.inj (HO.frz.inj (Zh LR)).2);subst ek;have em:((ns.map aD).zip R8).map (·.1)=ns.map aD:=WO (by rw[Zt,Pc,NZ.len.1];exact Zk _);have zl:(ns.zip E).length=ns.length:=by rw[Yv,Nw,XM]
     refine⟨λH2 NG _=>⟨λn t P=>?_,λn P=>?_⟩,λb hb=>nomatch hb⟩
     ·rw[em,Zd]at P;obtain⟨kk,Oz,Pd⟩:=Zw.mp P;have SQ:=(Ze.mp Oz).1;refine⟨⟨NG.frz _ _ _ aq,by rw[zl];exact SQ⟩,λy H3 hy=>?_⟩;obtain⟨rfl,p,hp,rfl⟩:=hy;refine⟨aI.refl _,[],?_,λb hb=>nomatch hb⟩;have SM:p.1=kk:=by
       have MU:=hp;rw[Yn]at MU;rw[Oz]at MU;exact(Zh MU.1).symm
      have hi:isInt t=J:=by
       have:=Za.mp hint (t,R8[n]'(by rw[← NZ.len.1,← Pc];exact SQ)) (by
        refine Z5 (i:=n) ?_;rw[Yn];exact⟨by rw[Zd,Oz];exact congrArg Z Pd,Zu _⟩)
       exact this
      rw[SM,← Pd];rw[← Pd]at hi;cases kk with
      |inl n=>exact .int n
      |inr z=>cases hi
     ·refine⟨NG.frz _ _ _ aq,?_⟩;rw[em,Zt]at P;rw[zl];exact P
    ·cases e2
   ·cases e2
  ·cases e
end
noncomputable def PQ(a:List Str)(k:Nat):Str:=match a[k]? with
 |some x=>x
 |none=>⟨#[k]⟩
def Rk(a:List Str)(K:X3)(C D:On):Gx:=⟨K,λc=>(if c=2 then D else C,PQ a),λ_=>L⟩
def CC{a:List Str}(i:a.Nodup)(h:∀x∈a,x.cps.size≠1)(k b:Nat)(e:PQ a k=PQ a b):k=b:=by
 unfold PQ at e;by_cases f:k<a.length
 ·by_cases d:b<a.length
  ·rw[Zu f,Zu d]at e;exact(Vi i).mp e
  ·rw[Zu f,ZF (ZO d)]at e;have g:a[k]=(⟨#[b]⟩:Str):=e;exact absurd (by rw[g];rfl) (h _ (ZC f))
 ·by_cases d:b<a.length
  ·rw[ZF (ZO f),Zu d]at e;have g:(⟨#[k]⟩:Str)=a[b]:=e;exact absurd (by rw[← g];rfl) (h _ (ZC d))
  ·rw[ZF (ZO f),ZF (ZO d)]at e;cases e;rfl
def CN{a:List Str}{K:X3}(b:a.Nodup)(h:∀x∈a,x.cps.size≠1):l6 ((Rk a K C D).at m):=λ_ k d e=>CC b h k d e
def kG(h:x∉a)(d:x.cps.size≠1)(k:Nat):PQ a k≠x:=λe=>by
 unfold PQ at e;split at e
 ·rename_i y b;exact h (e ▸ Z5 b)
 ·exact d (by rw[← e];rfl)
def Hy{a:List Str}{K:X3}(b:a[k]?=Z f)(h:LV K C)(g:LV K D)(e:dz K C f)(d:dz K D f):LU ((Rk a K C D).at m) K k f :=
 ⟨λc=>by show PQ a k=f;unfold PQ;rw[b],λc=>by show LV K (if c+1=2 then D else C);split<;>assumption,λc=>by show dz K (if c+1=2 then D else C) f;split<;>assumption⟩
structure MtAt(P:SB)(w:UV)(K:X3)(mg:Wi)(base:UF)(k:Nat)(G:Gx)(c:Nat)(x:Str)(ps:List Str)(mv:List Bool)(g:Mt):Prop where
 ex:∃f fd,FnOk P w K mg base KL k f fd ps (OT G c mv g)/\Meth K (G.ct (c+1)).1 x f/\Binds K fd ps []
 cl:LV K (G.ct (c+1)).1
 no:∀k,(G.ct (c+1)).2 k≠x
structure MpAt(P:SB)(w:UV)(K:X3)(mg:Wi)(base:UF)(k:Nat)(G:Gx)(c:Nat)(x:Str)(ps:List Str)(h:Fn):Prop where
 ex:∃f fd,FnOk P w K mg base KL k f fd ps (MK G h)/\Meth K (G.ct (c+1)).1 x f/\Binds K fd ps []
 cl:LV K (G.ct (c+1)).1
 no:∀k,(G.ct (c+1)).2 k≠x
structure InAt(P:SB)(w:UV)(K:X3)(mg:Wi)(base:UF)(k:Nat)(G:Gx)(c n:Nat)(x:Str)(ps:List Str)(g:Mt):Prop where
 ex:∃f fd,FnOk P w K mg base KL k f fd ps (OT G c (List.replicate n false) g)/\Mk K (G.ct (c+1)).1 f/\Binds K fd ps []
 mg:mg x=some (.ref (G.ct (c+1)).1)
section
variable{K:X3}
theorem MtAt.at{m:Me}(h:MtAt P w K mg base k G c x ps mv g):MtAt P w K mg base k (G.at m) c x ps mv g:=⟨h.ex,h.cl,h.no⟩
theorem InAt.at{P:SB}{w:UV}{mg:Wi}{base:UF}{k c n:Nat}{G:Gx}{x:Str}{ps:List Str}{g:Mt}{m:Me}(h:InAt P w K mg base k G c n x ps g):InAt P w K mg base k (G.at m) c n x ps g:=⟨h.ex,h.mg⟩
def sP{G:Gx}(F:J4 K x b d f m)(q:Meth K (G.ct (c+1)).1 x f)(r:LV K (G.ct (c+1)).1)(v:∀k,(G.ct (c+1)).2 k≠x)(S:oe N ps (ah d))(o:ps.length=j)(p:N.length=l)(u:∀(kV doc pm:PP)(an:Option On)(h ct:PP)(i:Wa),i.length=ps.length->bindArgs (PySem.W.fnOf x b (d5 d) (bg d) (ah d) .none kV doc pm an h ct) ⟨i,[]⟩=pure (ps.zip i))(t:∀(a:On)(h:PP)(A:SC)(outer:List PySem.Env)(s:KB)(H:Hp)(E:XK),JY k (A.deeper (envOfC b (ah d) s.heap.objs.size f h))->gq (G.at (Nv a)) (jC KL P w K mg base N b (ah d) f h A outer s H E).My (bg d) e) :
  MtAt P w K mg base (k+1) G c x ps mv (MT c j l mv e):=⟨⟨f,m,fnM F S o p t,q,F.binds u⟩,r,v⟩
def G6{G:Gx}(F:J4 K y b d f m)(q:Mk K (G.ct (c+1)).1 f)(r:mg x=Z (.ref (G.ct (c+1)).1))(S:oe N ps (ah d))(o:ps.length=j)(p:N.length=l)(u:∀(kV doc pm:PP)(an:Option On)(h ct:PP)(i:Wa),i.length=ps.length->bindArgs (PySem.W.fnOf y b (d5 d) (bg d) (ah d) .none kV doc pm an h ct) ⟨i,[]⟩=pure (ps.zip i))(t:∀(a:On)(h:PP)(A:SC)(outer:List PySem.Env)(s:KB)(H:Hp)(E:XK),JY k (A.deeper (envOfC b (ah d) s.heap.objs.size f h))->gq (G.at (Nv a)) (jC KL P w K mg base N b (ah d) f h A outer s H E).My (bg d) e) :
  InAt P w K mg base (k+1) G c n x ps (MT c j l (List.replicate n B) e):=⟨⟨f,m,fnM F S o p t,q,F.binds u⟩,r⟩
def vn{G:Gx}(F:J4 K x a b f l)(p:Meth K (G.ct (c+1)).1 x f)(q:LV K (G.ct (c+1)).1)(u:∀k,(G.ct (c+1)).2 k≠x)(S:oe N ps (ah b))(m:ps.length=i)(o:N.length=j)(t:∀(kV doc pm:PP)(an:Option On)(e ct:PP)(h:Wa),h.length=ps.length->bindArgs (PySem.W.fnOf x a (d5 b) (bg b) (ah b) .none kV doc pm an e ct) ⟨h,[]⟩=pure (ps.zip h))(r:∀(e:PP)(A:SC)(outer:List PySem.Env)(s:KB)(H:Hp)(E:XK),JY k (A.deeper (envOfC a (ah b) s.heap.objs.size f e))->gq G (jC KL P w K mg base N a (ah b) f e A outer s H E).My (bg b) d) :
  MpAt P w K mg base (k+1) G c x ps (fn i j d):=⟨⟨f,l,fnV F S m o r,p,F.binds t⟩,q,u⟩
end
section
def i8{X:Cx}(J:l6 G)(F:MtAt X.prog X.w X.K X.mg X.base k G c m ps mv g)(q:JY k' X.A)(s:k<=k')(r:Na G X o i way)(t:Lc G X (e :: es) cs)(z:{`q8,K1 e es X})(C:{`q8,K2 pos es X})(l:{`q8,eval (.Call (.Attribute o m apos) (e :: es) [] pos) X.env=(do
   let a ← eval o X.env
   standAt apos.atName
   let (f,first) ← holding [a] (getMethod a m d)
   callWith pos f first (backTo pos (P3 (e :: es) X.env)) (backToKw pos (SL [] X.env)))}):PX G X (.Call (.Attribute o m apos) (e :: es) [] pos) (c8 i way c mv g cs):=by
 obtain⟨f,fd,y,v,u⟩:=F.ex;exact Cp J F.no r F.cl v y q s u t z C l
def DH{X:Cx}(F:MpAt X.prog X.w X.K X.mg X.base k G c m ps h)(q:JY k' X.A)(s:k<=k')(r:PV G X o ca)(t:Lc G X (e :: es) cs)(z:K1 e es X)(C:K2 pos es X)(l:eval (.Call (.Attribute o m apos) (e :: es) [] pos) X.env=(do
   let a ← eval o X.env
   standAt apos.atName
   let (f,first) ← holding [a] (getMethod a m d)
   callWith pos f first (backTo pos (P3 (e :: es) X.env)) (backToKw pos (SL [] X.env)))):PV G X (.Call (.Attribute o m apos) (e :: es) [] pos) (jk c h ca cs):=by
 obtain⟨f,fd,y,v,u⟩:=F.ex;exact FV F.no r F.cl v y q s u t z C l
def tK{X:Cx}(F:MpAt X.prog X.w X.K X.mg X.base k G c m ps h)(q:JY k' X.A)(s:k<=k')(r:PV G X o ca)(l:eval (.Call (.Attribute o m apos) [] [] pos) X.env=(do
   let a ← eval o X.env
   standAt apos.atName
   let (f,first) ← holding [a] (getMethod a m d)
   callWith pos f first (backTo pos (P3 [] X.env)) (backToKw pos (SL [] X.env)))):PV G X (.Call (.Attribute o m apos) [] [] pos) (jk c h ca aj):=by
 obtain⟨f,fd,v,u,t⟩:=F.ex;exact CS F.no r F.cl u v q s t l
def DQ{X:Cx}(F:InAt X.prog X.w X.K X.mg X.base k G c 0 x ps g)(a:JY k' X.A)(d:k+1<=k')(l:Gl X x)(t:K3 x):PV G X (.Call (.Name x p) [] [] pos) (eNew c g aj):=by
 obtain⟨f,fd,s,r,q⟩:=F.ex;exact Gw r s a d l F.mg q t
def Bw{apos pos:Pos}(J:l6 G)(d:Na G X o i way)(q:Lc G X [e] cs)(s:X.K=G.K)(y:XAA o "append" X.env (eval o X.env)=eval o X.env)(w:((backTo pe (P3 [e] X.env)).all (λx=>!x.1)&&(backToKw pe (SL [] X.env)).all (λx=>x.1.isSome)
   && decide ([e].length+([]:List Keyword).length+(if ([]:List Keyword).isEmpty then 0 else 1)<30))=true)(A:(apos.endLine==pe.line)=true)(a:K1 e [] X)(C:(backTo pe (P3 [] X.env)).any (·.1)=B)(u:swapsWith (.Call (.Attribute o "append" apos) [e] [] pe) L pos.line X.env=pure B) :
  PSV G X (.Expr (.Call (.Attribute o "append" apos) [e] [] pe) pos) (sX (nH i way aJ cs)) :=
 Aq J Y7 Y4 Y3 fC iJ (λH v t F l z r h=>fK r h) d q s y w A a C u
end
noncomputable def OW(m:Nat)(t:T):T:=.obj 0 [(0,.bl J),(m,t)]
noncomputable def NU:T->Option (Nat×T)
 |.obj 0 [(0,.bl true),(m,t)]=>Z (m,t)
 |_=>L
def nZ(h:NU t=Z (m,u)):t=OW m u:=by
 unfold NU at h;split at h
 ·cases h;rfl
 ·cases h
noncomputable def Bn(a:List V):Me:=λk=>match k with
 |0=>L
 |k+1=>a[k]?
def markL:Nat->List Bool->Vb->Vb
 |k,b :: bs,t :: a=>(if b then OW (k+1) t else t) :: markL (k+1) bs a
 |_,_,_=>[]
def ni(U:VS.Env):Nat->List Bool->Option (Vb)
 |_,[]=>Z []
 |k,true :: bs=>match (U[k]?:Option (Ve)) with
  |some (some (.ow t))=>(NU t).bind λz=>if z.1=k+1 then (ni U (k+1) bs).map (z.2 :: ·) else L
  |_=>L
 |k,false :: bs=>ni U (k+1) bs
noncomputable def eO{α:Type}:List Bool->List α->List α
 |true :: bs,x :: a=>x :: eO bs a
 |false :: bs,_ :: a=>eO bs a
 |_,_=>[]
noncomputable def QN(O:J5):Nat->List Bool->Xy
 |_,[]=>[]
 |k,true :: bs=>O k :: QN O (k+1) bs
 |k,false :: bs=>QN O (k+1) bs
noncomputable def BE:T->Bool
 |.str _=>J
 |_=>B
def Ah(b:Vb)(v:Val):Bool:=J3 v.2||(match b,v with
 |[.lst [.int _]],(.fr,.lst a)=>a.all BE
 |_,_=>B)
def C7(h:Ah b v=J):J3 v.2=J\/∃n a,b=[.lst [.int n]]/\v=(.fr,.lst a)/\a.all BE=J:=by
 rcases Bool.or_eq_true_iff.mp h with h | h
 ·exact .inl h
 ·split at h
  ·exact .inr ⟨_,_,rfl,rfl,h⟩
  ·cases h
def sV{a:Vb}(h:a.all BE=J):fZ a=J/\cz a=J:=by
 induction a with
 |nil=>exact⟨rfl,rfl⟩
 |cons t a b =>
  rw[Xz,Z1]at h;cases t<;>first | exact b h.2 | cases h.1
def Oa(e g:Nat)(a:List Bool)(b:Sx):Vb->Option (Vb×T)
 |f :: d=>if d.length+1=e/\a.length=d.length then
  (b ((Z (.ow (OW 1 f)) :: List.zipWith kj a (markL 1 a d))++List.replicate (g-e) L)).bind λo=>match o with
   |.rt v U=>(ni U 0 (J :: a)).bind λos=>if Ah os v=J/\cz os=J then Z (os,v.2) else L
   |.nx U=>(ni U 0 (J :: a)).bind λos=>if cz os=J then Z (os,.non) else L
   |_=>L else L
 |[]=>L
structure ChI(G:Gx)(H:Hp)(mv:List Bool)(vs:List V)(Fs:Xy)(os:Vb)(H2:Hp)(Gs:Xy):Prop where
 kept:Kept H H2
 keep:∀b o,b∉KO mv Fs->H b=some o->H2 b=some o
 Kd:∀b,H b≠none->H2 b≠none
 rp:RpL G H2 (eO mv vs) os Gs
 nd:Gs.flatten.Nodup
 sub:∀a∈Gs.flatten,a∈KO mv Fs\/H a=none
def Sb(G:Gx)(d:List Bool)(g:Vb->Option (Vb×T)):Sp:=λm H Q _=>∃(a:On)(i:List V)(j:T)(f:Vb)(F:Wc)(e:Xy)(os:Vb)(x:T),m=.ref a :: i/\Rp G H (.ref a) j F/\RpL G H i f e/\(∀v∈eO d i,∃b,v=.ref b)/\ja j=J/\cz f=J/\d.length=f.length ∧
 (F++KO d e).Nodup/\(∀b∈F++KO d e,b∉MS d e)/\g (j :: f)=Z (os,x)/\∀u l Gs h,ChI G H (J :: d) m (F :: e) os l Gs->Rp G l u x h->h.Nodup->(∀a∈h,a∉Gs.flatten)->(∀a∈h,H a=L\/a∈F++KO d e)->Q u l
section
variable{H:Hp}
def new_apart{n:Int}(r:RpL G H d [.lst [.int n]] Gs)(q:Rp w H u (.lst e) F)(f:e.all BE=J):∀a∈F,a∉Gs.flatten:=by
 cases r with
 |cons i r1 =>
  cases r1;obtain⟨a,d,z,rfl,rfl,t,s⟩:=i.lst_inv;obtain⟨p,x,y,rfl,rfl,h,g⟩:=q.lst_inv;rw[g.J3 (sV f).1];intro b hb v;rw[Zj]at hb;subst hb;cases s with
  |cons o m =>
   cases m;cases o;have:b=a:=by simpa using v
   subst this;rw[t]at h;cases h;cases g with
   |cons l j =>
    cases j;cases l;cases f
theorem xS{G:Gx}{m:Me}:∀{bs:List Bool}{d:List V}{e:Vb}{f:Xy}(k:Nat),RpL (G.at m) H d e f->(∀v∈eO bs d,∃b,v=.ref b)->(∀j,m (k+1+j)=d[j]?)->bs.length=e.length->RpL (G.at m) H d (markL k bs e) f
 |[],_,_,_,k,.nil,_,_,_=>.nil
 |[],_,_,_,k,.cons _ _,_,_,h=>by simp at h
 |_ :: _,_,_,_,k,.nil,_,_,h=>by simp at h
 |b :: bs,v :: d,t :: e,F :: f,k,.cons r q,i,l,n=>by
  have g:=xS (bs:=bs) (k+1) q (λw hw=>i w (by cases b<;>simp[eO,hw])) (λj=>by rw[show k+1+1+j=k+1+(j+1) by omega,l (j+1)];rfl) (by simpa using n);cases b with
  |false=>exact .cons r g
  |true =>
   obtain⟨a,rfl⟩:=i v (by simp[eO]);exact .cons (.mk (l 0) r) g
theorem vL{G:Gx}(s:SR (G.at (Bn f)) O U M H):∀(bs:List Bool)(k:Nat)(os:Vb),ni U k bs=Z os->cz os=J →
  RpL G H (eO bs (f.drop k)) os (QN O k bs)/\(QN O k bs).flatten.Nodup/\∀a∈(QN O k bs).flatten,∃j t,k<=j/\U[j]?=Z (Z (.ow t))/\a∈O j
 |[],k,os,h,_=>by
  cases h;refine⟨?_,Yt,λa h=>nomatch h⟩;cases f.drop k<;>exact .nil
 |false :: bs,k,os,h,g=>by
  obtain⟨d,o,n⟩:=vL s bs (k+1) os h g;refine⟨?_,o,λa C=>?_⟩
  ·rw[← List.drop_drop,List.drop_one]at d;cases q:f.drop k with
   |nil=>rw[q]at d;cases bs<;>(try rename_i b _;cases b)<;>exact d
   |cons v r=>rw[q]at d;exact d
  ·obtain⟨j,t,w,i⟩:=n a C;exact⟨j,t,by omega,i⟩
 |true :: bs,k,os,h,g=>by
  unfold ni at h;split at h
  ·rename_i t l;obtain⟨⟨m,u⟩,e1,e2⟩:=Zz.mp h;split at e2
   ·rename_i x;obtain⟨Q,e3,rfl⟩:=Zw.mp e2;have g:=ZZ.mp g;obtain⟨d,o,n⟩:=vL s bs (k+1) Q e3 g.2;have N:=nZ e1;subst N;subst x;obtain⟨v,R,F⟩:=s.rp k _ l;obtain⟨a,rfl,E,D⟩:=oH (F);have hd:f.drop k=.ref a :: f.drop (k+1):=by
     obtain⟨y,e⟩:=Ze.mp E;rw[YC y,e]
    refine⟨?_,?_,λb hb=>?_⟩
    ·rw[hd];exact .cons (D.at G.me g.1) d
    ·show (O k++(QN O (k+1) bs).flatten).Nodup;refine ZL.mpr ⟨s.nd k _ l,o,λb hb c A z=>?_⟩;subst z;obtain⟨j,p,w,i,P⟩:=n b A;exact s.sep k j _ _ l i (by omega) b hb P
    ·rcases ZW.mp (hb) with z | z
     ·exact⟨k,_,Zk _,l,z⟩
     ·obtain⟨j,p,w,i⟩:=n b z;exact⟨j,p,by omega,i⟩
   ·cases e2
  ·cases h
end
section
variable{K:X3}
def fnI{G:Gx}{st:Stmt}(F:J4 K x g st f fd)(S:oe N ps (ah st))(hp:ps.length=np)(hn:N.length=nn)(hb:∀(m:Me)(J9:PP)(A:SC)(outer:List PySem.Env)(s:KB)(H:Hp)(E:XK),JY k (A.deeper (envOfC g (ah st) s.heap.objs.size f J9))->gq (G.at m) (jC KL P w K mg base N g (ah st) f J9 A outer s H E).My (bg st) D) :
  FnOk P w K mg base KL (k+1) f fd ps (Sb G p (Oa np nn p D)):=by
 refine F.ok S (λvs H Q E h=>?_) λJ9 A outer s H vs Q E hr h=>?_
 ·obtain⟨a,l,t0,d,F0,Fs,os,y,rfl,r0,r,rf,no,nos,hm,nd,sp,e,q⟩:=h;dsimp only[Oa]at e;split at e
  ·rename_i hl;rw[Zi,r.len.1,hl.1,hp]
  ·cases e
 ·obtain⟨a,l,t0,d,F0,Fs,os,y,rfl,r0,r,rf,no,nos,hm,nd,sp,e,q⟩:=h;refine⟨_,hb (Bn (.ref a :: l)) J9 A outer s H E hr,?_⟩;dsimp only[Oa]at e;split at e
  ·rename_i hl;obtain⟨o,e1,e2⟩:=Zz.mp e;have hml:∀(bs:List Bool)(d:Vb)(k:Nat),bs.length=d.length->(markL k bs d).length=d.length:=by
    intro bs
    induction bs with
    |nil=>intro d k h;rw[Y8.mp h.symm];rfl
    |cons b bs ih =>
     intro d k h;cases d with
     |nil=>simp at h
     |cons t d=>exact congrArg (·+1) (ih d (k+1) (Vs h))
   have m1:=xS 1 (r.at (Bn (.ref a :: l)) nos) rf (λj=>by rw[show 1+1+j=(1+j)+1 by omega];rw[Vp 1 j];rfl) hm;obtain⟨s0,Mm⟩:=uT (Rp.mk (m:=1) (rfl) (r0.at (Bn (.ref a :: l)) no)) m1 (by rw[hml p d 1 hm];exact hm) nd sp nn (l.length+1) Y;rw[hml p d 1 hm,hl.1]at s0 Mm;have e3:L2.start N (V.ref a :: l)=(V.ref a :: l).map Z++List.replicate (nn-(l.length+1)) L:=by
    unfold L2.start;rw[hn];rfl
   rw[e3];have RA:=Mm;have fin:∀{M:VS.Env}{X:J5}{M':L2.St}{C:Hp}{os:Vb},ni M 0 (J :: p)=Z os->cz os=J->SR (G.at (Bn (.ref a :: l))) X M M' C->Kh (λi=>(F0 :: Fs).getD i []) ((Z (.ow (OW 1 t0)) :: List.zipWith kj p (markL 1 p d))++List.replicate (nn-np) L) H X M C →
     ChI G H (J :: p) (.ref a :: l) (F0 :: Fs) os C (QN X 0 (J :: p)):=λ{M X M' C os} ho Od R fr=>by
    obtain⟨h1,h2,h3⟩:=vL R (J :: p) 0 os ho Od;refine⟨fr.kept,λU o' KC ho=>(fr.keep U o' ho λz=>KC (RA U z)).1,fr.Kd,h1,h2,λU KC=>?_⟩;obtain⟨j,t,_,a2,a3⟩:=h3 U KC;rcases fr.ow U ⟨j,t,a2,a3⟩ with z | z
    ·exact .inl (RA U z)
    ·exact .inr z
   refine⟨_,_,o,s0,e1,?_⟩;cases o with
   |nx M =>
    obtain⟨os2,e4,O⟩:=Zz.mp e2;split at O
    ·rename_i hi;cases O;intro X M' C R fr;exact q .non C _ [] (fin e4 hi R fr) .non Yt (λa h=>nomatch h) λa h=>nomatch h
    ·cases O
   |rt v M =>
    obtain⟨os2,e4,O⟩:=Zz.mp e2;split at O
    ·rename_i hi;cases O;intro u C F' X M' R fr r' rf;rcases C7 hi.1 with z | ⟨n,Lg,rfl,rfl,z⟩
     ·have:=r'.J3 z;subst this;exact q u C _ [] (fin e4 hi.2 R fr) (r'.at G.me (o9 _ z)) Yt (λa h=>nomatch h) λa h=>nomatch h
     ·have ch:=fin e4 hi.2 R fr;exact q u C _ F' ch (r'.at G.me (sV z).2) rf.1 (new_apart ch.rp r' z) λa ha=>(rf.2 a ha).imp id (RA a)
    ·cases O
   |bk M=>cases e2
   |ct M=>cases e2
  ·cases e
end
section
def SR.VU{G:Gx}{O x:J5}{U P:VS.Env}{M:L2.St}{H F:Hp}{S:Nat->Prop}(s:SR G O U M H)(hl:P.length=U.length)(m:∀j,¬S j->P[j]?=U[j]?/\x j=O j)(D:∀j,S j->∃t Q v,U[j]?=Z (Z (.ow t))/\P[j]?=Z (Z (.ow Q))/\M[j]?=Z (Z v)/\Rp G F v Q (x j)/\(x j).Nodup)(ap:∀i j,S i->S j->i≠j->∀a∈x i,a∉x j)(y:Kept H F)(A:∀b o,(∀j,S j->b∉O j)->H b=Z o->F b=Z o)(Kd:∀b,H b≠L->F b≠L)(C:∀j,S j->∀a∈x j,(∃i,S i/\a∈O i)\/H a=L) :
  SR G x P M F/\Kh O U H x P F:=by
 have N:∀j c,¬S j->U[j]?=Z (Z c)->∀a∈O j,∀i,S i->a∉O i:=λj c d R a u i f E=>by
  obtain⟨t,_,_,l,_⟩:=D i f;exact s.sep i j t c l R (λe=>d (e ▸ f)) a E u
 have new:∀i,S i->∀a∈x i,∀j c,¬S j->U[j]?=Z (Z c)->a∉O j:=λi f a u j c d R E=>by
  rcases C i f a u with⟨k,hk,z⟩ | z
  ·exact N j c d R a E k hk z
  ·obtain⟨w,_,q⟩:=s.rp j c R;exact J8.JX (q.Kd a E) z
 refine⟨⟨hl.trans s.len,λi c h=>?_,λi t h=>?_,λi j t c l r n=>?_⟩,⟨λa o h n=>⟨A a o (λj d z=>?_) h,λz=>?_⟩,Kd,λa h=>?_,λa h=>?_,y⟩⟩
 ·by_cases f:S i
  ·obtain⟨t,Q,v,g,p,Y,X,_⟩:=D i f;rw[p]at h;cases h;exact⟨v,Y,X⟩
  ·obtain⟨g,p⟩:=m i f;rw[g]at h;obtain⟨v,q1,q2⟩:=s.rp i c h;rw[p];exact⟨v,q1,q2.keep y λa u o ho=>A a o (λj d=>N i c f h a u j d) ho⟩
 ·by_cases f:S i
  ·exact(D i f).choose_spec.choose_spec.choose_spec.2.2.2.2
  ·obtain⟨g,p⟩:=m i f;rw[g]at h;rw[p];exact s.nd i t h
 ·by_cases f:S i
  ·by_cases d:S j
   ·exact ap i j f d n
   ·obtain⟨g,p⟩:=m j d;rw[g]at r;rw[p];exact λa u=>new i f a u j c d r
  ·obtain⟨g,p⟩:=m i f;rw[g]at l;rw[p];by_cases d:S j
   ·exact λa u E=>new j d a E i _ f l u
   ·obtain⟨Y,X⟩:=m j d;rw[Y]at r;rw[X];exact s.sep i j t c l r n
 ·obtain⟨t,_,_,l,_⟩:=D j d;exact n ⟨j,t,l,z⟩
 ·obtain⟨j,t,l,r⟩:=z;by_cases d:S j
  ·rcases C j d a r with⟨i,f,z⟩ | z
   ·obtain⟨t,_,_,g,_⟩:=D i f;exact n ⟨i,t,g,z⟩
   ·rw[z]at h;cases h
  ·obtain⟨g,p⟩:=m j d;rw[g]at l;rw[p]at r;exact n ⟨j,t,l,r⟩
 ·obtain⟨j,t,l,r⟩:=h;by_cases d:S j
  ·rcases C j d a r with⟨i,f,z⟩ | z
   ·obtain⟨t,_,_,g,_⟩:=D i f;exact .inl ⟨i,t,g,z⟩
   ·exact .inr z
  ·obtain⟨g,p⟩:=m j d;rw[g]at l;rw[p]at r;exact .inl ⟨j,t,l,r⟩
 ·obtain⟨j,t,l,r⟩:=h;by_cases d:S j
  ·obtain⟨t,Q,v,g,p,_⟩:=D j d;rw[p]at l;cases l
  ·obtain⟨g,p⟩:=m j d;rw[g]at l;rw[p]at r;exact .inl ⟨j,t,l,r⟩
end
inductive Ia where | io (i:Nat) (un:Bool) | ex (c:Ex)
def SD(a:Bool):Option (Ve)->Option T
 |some (some (.ow t))=>if a then (NU t).map (·.2) else if oV t then Z t else L
 |_=>L
def exV(v:Val):Option T:=match v.1 with
 |.bo=>if J3 v.2 then Z v.2 else L
 |_=>Z v.2
def pV(U:VS.Env):List Ia->Option (Vb)
 |[]=>Z []
 |.io i un :: a=>(SD un U[i]?).bind λt=>(pV U a).map (t :: ·)
 |.ex c :: a=>(c U).bind λv=>(exV v).bind λt=>(pV U a).map (t :: ·)
noncomputable def Ll:List Ia->List Bool
 |[]=>[]
 |.io _ _ :: a=>J :: Ll a
 |.ex _ :: a=>B :: Ll a
noncomputable def KP:List Ia->Vh
 |[]=>[]
 |.io i _ :: a=>i :: KP a
 |.ex _ :: a=>KP a
def qL(a:Bool)(c:Option (Ve))(o:T):T:=if a then (match c with
 |some (some (.ow t))=>(match NU t with
  |some z=>OW z.1 o
  |none=>o)
 |_=>o) else o
def j0:List Ia->Vb->VS.Env->VS.Env
 |.io i un :: a,o :: os,U=>j0 a os (U.set i (Z (.ow (qL un U[i]? o))))
 |.ex _ :: a,os,U=>j0 a os U
 |_,_,U=>U
def oU(a:List Ia)(g:Vb->Option (Vb×T)):Xx:=λU=>(pV U a).bind λb=>if cz b=J/\(KP a).Nodup then (g b).map λz=>((.fr,z.2),j0 a z.1 U) else L
inductive Pk(O:J5)(U:VS.Env)(M:L2.St)(H:Hp):List Ia->List V->Xy->Prop
 |nil:Pk O U M H [] [] []
 |io {i:Nat} {un:Bool} {a:On} {as:List Ia} {vs:List V} {Fs:Xy}:M[i]?=some (some (.ref a))->Pk O U M H as vs Fs->Pk O U M H (.io i un :: as) (.ref a :: vs) (O i :: Fs)
 |ex {c:Ex} {v:V} {F:Wc} {as:List Ia} {vs:List V} {Fs:Xy}:(∀a∈F,H a=none\/df O U a)->Pk O U M H as vs Fs->Pk O U M H (.ex c :: as) (v :: vs) (F :: Fs)
section
def GL(r:Rp G H v t F)(h:oV t=J):∃a,v=.ref a:=by
 cases r<;>first | exact⟨_,rfl⟩ | (cases h)
end
section
variable{H:Hp}
structure IaF(G:Gx)(O:J5)(U:VS.Env)(M:L2.St)(H:Hp)(as:List Ia)(ts:Vb)(vs:List V)(Fs:Xy):Prop where
 ref:∀v∈eO (Ll as) vs,∃b,v=.ref b
 len:(Ll as).length=ts.length
 mv:∀a,a∈KO (Ll as) Fs ↔ ∃j∈KP as,a∈O j
 pu:∀a∈MS (Ll as) Fs,H a=none\/df O U a
 ow:∀i un,Ia.io i un∈as->∃t a,U[i]?=some (some (.ow t))/\M[i]?=some (some (.ref a))/\(un=true->∃m u,NU t=some (m,u)/\G.me m=some (.ref a))
 nd:(KP as).Nodup->(KO (Ll as) Fs).Nodup
theorem j5:∀{a:List Ia}{i:Nat},i∈KP a ↔ ∃un,Ia.io i un∈a
 |[],i=>⟨(λh=>nomatch h),λ⟨_,h⟩=>nomatch h⟩
 |.io j un :: a,i=>by
  show i∈j :: KP a↔_;rw[Zo,j5];constructor
  ·rintro (rfl | ⟨u,h⟩)
   ·exact⟨un,Zx⟩
   ·exact⟨u,Zy _ h⟩
  ·rintro⟨u,h⟩;rcases Zo.mp h with h | h
   ·cases h;exact .inl Y
   ·exact .inr ⟨u,h⟩
 |.ex c :: a,i=>by
  show i∈KP a↔_;rw[j5];exact⟨λ⟨u,h⟩=>⟨u,Zy _ h⟩,λ⟨u,h⟩=>by
   rcases Zo.mp h with h | h
   ·cases h
   ·exact⟨u,h⟩⟩
def zF(s:SR G O U M H):∀{g:List Ia}{y:Vb}{o:List V}{n:Xy},pV U g=Z y->Pk O U M H g o n->IaF G O U M H g y o n:=by
 intro g
 induction g with
 |nil =>
  intro y o n e r;cases e;cases r;exact⟨(λv h=>nomatch h),rfl,λa=>⟨(λh=>nomatch h),λ⟨_,h,_⟩=>nomatch h⟩,(λa h=>nomatch h),(λi un h=>nomatch h),λ_=>Yt⟩
 |cons x g Q =>
  intro y o n e r;cases r with
  |@io i un a _ o n h r =>
   obtain⟨t,e1,e2⟩:=Zz.mp (e);obtain⟨P,e3,rfl⟩:=Zw.mp e2;have f:=Q e3 r;have hi:∃p,U[i]?=Z (Z (.ow p))/\(un=J->∃m u,NU p=Z (m,u)/\G.me m=Z (.ref a)):=by
    unfold SD at e1;split at e1
    ·rename_i p q;refine⟨p,q,λN=>?_⟩;rw[N,Zp Y]at e1;obtain⟨⟨m,u⟩,A,g2⟩:=Zw.mp e1;obtain⟨v,R,h2⟩:=s.rp _ _ q;rw[h]at R;cases R;have S:=h2;rw[nZ A]at S;obtain⟨a',q1,q2,_⟩:=oH S;cases q1;exact⟨m,u,A,q2⟩
    ·cases e1
   obtain⟨p,q,N⟩:=hi;have C:∀b,b∈O i++KO (Ll g) n ↔ ∃j∈i :: KP g,b∈O j:=λb=>by
    rw[ZW,f.mv];constructor
    ·rintro (z | ⟨j,l,z⟩)
     ·exact⟨i,Zx,z⟩
     ·exact⟨j,Zy _ l,z⟩
    ·rintro⟨j,l,z⟩;rcases Zo.mp l with rfl | l
     ·exact .inl z
     ·exact .inr ⟨j,l,z⟩
   refine⟨λv E=>?_,?_,C,?_,λD w d=>?_,λnd=>?_⟩
   ·rcases Zo.mp (E) with rfl | E
    ·exact⟨a,rfl⟩
    ·exact f.ref v E
   ·show (Ll g).length+1=P.length+1;rw[f.len]
   ·exact λb hb=>f.pu b hb
   ·rcases Zo.mp d with d | d
    ·cases d;exact⟨p,a,q,h,N⟩
    ·exact f.ow D w d
   ·have X:=Zb.mp (nd);show (O i++KO (Ll g) n).Nodup;refine ZL.mpr ⟨s.nd i _ q,f.nd X.2,λb hb b' KC z=>?_⟩;subst z;obtain⟨j,l,z⟩:=(f.mv b).mp KC;obtain⟨w,MF⟩:=j5.mp l;obtain⟨t',_,A,_⟩:=f.ow j w MF;exact s.sep i j _ _ q A (λe=>X.1 (e ▸ l)) b hb z
  |@ex c v F _ o n h r =>
   obtain⟨⟨m,t⟩,e1,e2⟩:=Zz.mp (e);obtain⟨t',_,e4⟩:=Zz.mp e2;obtain⟨P,e5,rfl⟩:=Zw.mp e4;have f:=Q e5 r;refine⟨f.ref,?_,f.mv,λa ha=>?_,λD w d=>?_,f.nd⟩
   ·show (Ll g).length+1=P.length+1;rw[f.len]
   ·rcases ZW.mp (ha) with z | z
    ·exact h a z
    ·exact f.pu a z
   ·rcases Zo.mp d with d | d
    ·cases d
    ·exact f.ow D w d
def zg{G:Gx}{M:L2.St}:∀{d:List Ia}{vs:List V}{Fs:Xy}{os:Vb}{Gs:Xy}{U:VS.Env},(∀i un,Ia.io i un∈d->∃t a,U[i]?=Z (Z (.ow t))/\M[i]?=Z (Z (.ref a))/\(un=J->∃m u,NU t=Z (m,u)/\G.me m=Z (.ref a)))->(KP d).Nodup →
  (∀(n:Nat)(v:V),(eO (Ll d) vs)[n]?=Z v->∃i:Nat,(KP d)[n]?=Z i/\M[i]?=Z (Z v))->RpL G H2 (eO (Ll d) vs) os Gs->(eO (Ll d) vs).length=(KP d).length →
  (j0 d os U).length=U.length/\(∀j:Nat,j∉KP d->(j0 d os U)[j]?=U[j]?)/\∀(n j:Nat),(KP d)[n]?=Z j->∃(t l:T)(v:V)(F:Wc),U[j]?=Z (Z (Cell.ow t))/\(j0 d os U)[j]?=Z (Z (Cell.ow l))/\M[j]?=Z (Z v)/\Gs[n]?=Z F/\Rp G H2 v l F:=by
 intro d
 induction d with
 |nil=>intro vs Fs os Gs U _ _ _ r _;exact⟨rfl,λ_ _=>rfl,λn j h=>by simp[KP]at h⟩
 |cons x d A =>
  intro vs Fs os Gs U ow nd al r q;cases x with
  |ex c =>
   cases vs with
   |nil =>
    have e:(eO (Ll (.ex c :: d)) ([]:List V))=[]:=rfl;have e2:KP d=[]:=Y8.mp (by rw[e]at q;exact q.symm);rw[e]at r;cases r;obtain⟨N,s,E⟩:=A (vs:=[]) (Fs:=Fs) (λi un h=>ow i un (Zy _ h)) nd (λn v h=>by cases Ll d<;>(try rename_i b _;cases b)<;>simp[eO]at h) (by cases Ll d<;>(try rename_i b _;cases b)<;>exact .nil) (by rw[e2];cases Ll d<;>(try rename_i b _;cases b)<;>rfl);exact⟨N,s,E⟩
   |cons v vs=>exact A (Fs:=Fs) (λi un h=>ow i un (Zy _ h)) nd al r q
  |io i un =>
   have y:=Zb.mp (nd);cases vs with
   |nil=>simp[Ll,eO,KP]at q
   |cons v vs =>
    cases r with
    |@cons _ o F _ os Gs P r =>
     obtain⟨t,a,D,R,hu⟩:=ow i un Zx;have hv:v=.ref a:=by
      obtain⟨p,g,f⟩:=al 0 v Y;cases (g);rw[R]at f;cases f;rfl
     subst hv;obtain⟨N,s,E⟩:=A (Fs:=Fs) (U:=U.set i (Z (.ow (qL un U[i]? o)))) (λp S h=>by
      obtain⟨l,a',g,f⟩:=ow p S (Zy _ h);have ne:i≠p:=λe=>y.1 (e ▸ j5.mpr ⟨S,h⟩);exact⟨l,a',by rw[Yr ne];exact g,f⟩) y.2 (λn w h=>by
      obtain⟨p,g,f⟩:=al (n+1) w h;exact⟨p,g,f⟩) r (by simpa[Ll,eO,KP] using q)
     refine⟨by rw[show j0 (.io i un :: d) (o :: os) U=j0 d os (U.set i (Z (.ow (qL un U[i]? o)))) from rfl,N,Yo],λj Q=>?_,λn j C=>?_⟩
     ·have X:j≠i/\j∉KP d:=⟨λe=>Q (e ▸ Zx),λz=>Q (Zy _ z)⟩
      exact(s j X.2).trans (Yr (Yy X.1))
     ·cases n with
      |zero =>
       cases (C);refine⟨t,_,.ref a,F,D,(s i y.1).trans (YG ((Ze.mp D).1)),R,rfl,?_⟩;cases un with
       |false=>exact P
       |true =>
        obtain⟨m,u,g,f⟩:=hu Y;have:qL J U[i]? o=OW m o:=by
         unfold qL;rw[Zp Y,D];show (match NU t with | some z=>OW z.1 o | none=>o)=_;rw[g]
        rw[this];exact .mk f P
      |succ n =>
       obtain⟨l,t2,v',F',g,f,g3,g4,g5⟩:=E n j C;have ne:i≠j:=λe=>y.1 (e ▸ Z5 (C));rw[Yr ne]at g;exact⟨l,t2,v',F',g,f,g3,g4,g5⟩
def IZ:∀{b:List Ia}{d:List V}{f:Xy},Pk O U M j b d f->(∀(n:Nat)(v:V),(eO (Ll b) d)[n]?=Z v->∃i:Nat,(KP b)[n]?=Z i/\M[i]?=Z (Z v))/\(eO (Ll b) d).length=(KP b).length:=by
 intro b d f r
 induction r with
 |nil=>exact⟨λn v h=>by simp[Ll,eO]at h,rfl⟩
 |@io i un a b d f h _ e =>
  refine⟨λn v g=>?_,by simpa[Ll,eO,KP] using e.2⟩;cases n with
  |zero=>cases (g);exact⟨i,rfl,h⟩
  |succ n=>exact e.1 n v g
 |ex _ _ e=>exact e
end
section
structure TX(O:J5)(U:VS.Env)(H:Hp)(O':J5)(U':VS.Env)(F:Wc):Prop where
 nd:F.Nodup
 ap:∀j c,U'[j]?=some (some c)->∀a∈F,a∉O' j
 of:∀a∈F,H a=none\/bL O U a
noncomputable def U6(G:Gx)(x:Xx):TE:=λM H Q=>∃O U v a,SR G O U M H/\x U=Z (v,a)/\∀u b d F,SR G d a M b->Kh O U H d a b->Rp G b u v.2 F->TX O U H d a F->Q u b
def PXN(G:Gx)(X:Cx)(e:Expr)(x:Xx):Prop:=PE X e (U6 G x)
def PXN.px{x:Xx}(h:PXN G X e x):PX G X e x:=PE.weak h λM H Q b=>by
 obtain⟨O,U,v,j,s,e,d,k⟩:=b;exact⟨O,U,v,j,s,e,λu m l F a f r _=>k u m l a f (r.J3 d ▸ r)⟩
def TX.back(f:Kh O U H h b l)(n:TX h b l j d F):TX O U H j d F :=
 ⟨n.nd,n.ap,λa m=>(n.of a m).elim (λz=>.inl (f.none z)) λz=>(f.ow a z).elim .inr .inl⟩
def vz(s:SR G O U M H)(e:oU (.io i un :: as) g U=Z (v,U'))(e0:pV U (.io i un :: as)=Z ts)(Y:aI H H1)(rp:RpL G H1 vs ts Fs)(ia:Pk O U M H (.io i un :: as) vs Fs)(kq:∀u S O' F,SR G O' U' M S->Kh O U H O' U' S->Rp G S u v.2 F->TX O U H O' U' F->Q u S):Sb G (Ll as) g vs H1 Q E:=by
 unfold oU at e;rw[e0,Zr]at e;have e2:=e;split at e2
 ·rename_i P;obtain⟨⟨os,y⟩,eg,e3⟩:=Zw.mp e2
  ·cases e3;have r:=zF s e0 ia;have al:=IZ ia;cases ia with
   |@io _ _ a _ us Fs hσ ia =>
    cases rp with
    |@cons _ t0 _ _ Lg _ r0 rp =>
     have no:ja t0=J/\cz Lg=J:=by
      have:=P.1;exact(ZZ.mp this)
     refine⟨a,us,t0,Lg,O i,Fs,os,y,rfl,r0,rp,λv hv=>r.ref v (Zy _ hv),no.1,no.2,by simpa[Ll] using r.len,r.nd P.2,λb hb KC=>?_,eg,λu S Gs Fu ch ru fnd fap fof=>?_⟩
     ·obtain⟨j,d,z⟩:=(r.mv b).mp hb;obtain⟨Nq,R⟩:=j5.mp d;obtain⟨t,_,A,_⟩:=r.ow j Nq R;rcases r.pu b KC with q | ⟨j2,t2,N,D⟩
      ·exact J8.JX (s.KD ⟨j,t,A,z⟩) q
      ·refine s.sep j j2 t _ A N (λe=>?_) b z D;rw[e,N]at A;cases A
     ·obtain⟨p1,p2,p3⟩:=zg (Fs:=[]) r.ow P.2 al.1 ch.rp al.2;have at_:∀j,j∈KP (.io i un :: as)->∃n F,(KP (.io i un :: as))[n]?=Z j/\n=(KP (.io i un :: as)).idxOf j/\Gs[n]?=Z F:=λj d=>by
       have:(KP (.io i un :: as))[(KP (.io i un :: as)).idxOf j]?=Z j:=by
        rw[Zu (Yb.mpr d),Xd]
       obtain⟨_,_,_,F,_,_,_,q,_⟩:=p3 _ j this;exact⟨_,F,this,rfl,q⟩
      have Oe:∀j,j∈KP (.io i un :: as)->(if j∈KP (.io i un :: as) then Gs.getD ((KP (.io i un :: as)).idxOf j) [] else O j)=Gs.getD ((KP (.io i un :: as)).idxOf j) []:=λj d=>Zp d;obtain⟨z1,z2⟩:=s.VU p1 (λj d=>⟨p2 j d,Zn d⟩) (λj d=>by
       obtain⟨n,F,N,D,m⟩:=at_ j d
       obtain⟨t,t',v,F',w1,w2,w3,w4,w5⟩:=p3 n j N;rw[m]at w4;cases w4;have eF:(if j∈KP (.io i un :: as) then Gs.getD ((KP (.io i un :: as)).idxOf j) [] else O j)=F:=by rw[Oe j d,← D,Zs,m];rfl
       refine⟨t,t',v,w1,w2,w3,?_,?_⟩
       ·rw[eF];exact w5
       ·rw[eF];exact ch.nd.sublist (bC m)) (λj j' d R n a l C=>by
       rw[Oe j d]at l;rw[Oe j' R]at C;obtain⟨n1,F,N,D,m⟩:=at_ j d
       obtain⟨n2,F',Sh,VB,q3'⟩:=at_ j' R
       rw[← D,Zs,m]at l;rw[← VB,Zs,q3']at C;exact lH ch.nd m q3' (λe=>n (by rw[e,Sh]at N;exact(Zh N).symm)) l C) ((Kept.of Y).trans ch.kept) (λb o hb ho=>ch.keep b o (λz=>by
       obtain⟨j,d,z'⟩:=(r.mv b).mp z;exact hb j d z') (Y b o ho)) (λb h=>ch.Kd b λz=>h (Y.free z)) (λj d a l=>by
       rw[Oe j d]at l;obtain⟨n1,F,N,D,m⟩:=at_ j d
       rw[← D,Zs,m]at l;rcases ch.sub a ((bC m).subset l) with z | z
       ·exact .inl ((r.mv a).mp z)
       ·exact .inr (Y.free z))
      have To:∀a∈Fu,H a=L\/∃j t,j∈KP (.io i un :: as)/\U[j]?=Z (Z (.ow t))/\a∈O j:=λa l=>by
       rcases fof a l with z | z
       ·exact .inl (Y.free z)
       ·obtain⟨j,d,z'⟩:=(r.mv a).mp z;obtain⟨Nq,R⟩:=j5.mp d;obtain⟨t,_,A,_⟩:=r.ow j Nq R;exact .inr ⟨j,t,d,A,z'⟩
      refine kq u S _ Fu z1 z2 ru ⟨fnd,λj c P a l C=>?_,λa l=>(To a l).imp id λ⟨j,t,_,A,g2⟩=>⟨j,t,A,g2⟩⟩;by_cases d:j∈KP (.io i un :: as)
      ·rw[Oe j d]at C;obtain⟨n1,F,N,D,m⟩:=at_ j d
       rw[← D,Zs,m]at C;exact fap a l ((bC m).subset C)
      ·rw[Zn d]at C;rw[p2 j d]at P;rcases To a l with z | ⟨j2,t,g0,A,g2⟩
       ·obtain⟨w,_,q⟩:=s.rp j c P;exact J8.JX (q.Kd a C) z
       ·exact s.sep j2 j t c A P (λe=>d (e ▸ g0)) a g2 C
 ·cases e2
end
def Tz(c:Ex):Ex:=λU=>(c U).bind λv=>(NU v.2).map λz=>(v.1,z.2)
abbrev Xt:=VS.Env->Option (Bool×VS.Env)
noncomputable def tXT(G:Gx)(x:Xt):TT:=λM H Q=>∃O U b a,SR G O U M H/\x U=Z (b,a)/\∀d e,SR G e a M d->Kh O U H e a d->Q b d
def RU(G:Gx)(X:Cx)(e:Expr)(x:Xt):Prop:=PT X e (tXT G x)
def TV(G:Gx)(X:Cx)(e:Expr)(x:Xt):Prop:=PW X e (tXT G x)
noncomputable def Po(x:Xx):Xt:=λU=>(x U).bind λz=>match z.1.2 with
 |.bl b=>Z (b,z.2)
 |_=>L
noncomputable def vX(x:Xt)(a b:Sx):Sx:=λU=>(x U).bind λz=>if z.1 then a z.2 else b z.2
section
def Io(h:PV G X e c):PV G X e (Tz c):=PE.weak h λM H Q j=>by
 obtain⟨O,U,m,t,s,e,k⟩:=j;obtain⟨⟨i,y⟩,e1,e2⟩:=Zz.mp e;obtain⟨⟨n,u⟩,e3,l⟩:=Zw.mp e2;cases l;refine⟨O,U,i,y,s,e1,λv o F g r f=>k v o F g ?_ f⟩;have d:=r;rw[nZ (show NU y=Z (n,u) from e3)]at d;obtain⟨a,rfl,_,q⟩:=oH d;exact q
def TV.pxt(h:TV G X e xt):RU G X e xt:=PW.pt h
def BR(l:RU G X e xt)(n:gq G X h c1)(m:gq G X f c2):PSV G X (.If e h f pos) (vX xt c1 c2):=PS.weak (EC l n m) λD M H j=>by
 obtain⟨O,U,o,s,e,k⟩:=j;obtain⟨⟨g,d⟩,e1,e2⟩:=Zz.mp e;refine⟨O,U,g,d,s,e1,λp i s1 f1=>?_⟩;cases g with
 |true=>exact zo ⟨i,d,o,s1,e2,k.back f1⟩
 |false=>exact yw ⟨i,d,o,s1,e2,k.back f1⟩
end
structure IoAt(P:SB)(w:UV)(K:X3)(mg:Wi)(base:UF)(k:Nat)(x:Str)(ps:List Str)(G:Gx)(mv:List Bool)(g:Vb->Option (Vb×T)):Prop where
 ex:∃f fd,FnOk P w K mg base KL k f fd ps (Sb G mv g)/\mg x=some (.ref f)/\PySem.W.keepIn K (.ref f)=true/\Binds K fd ps []
section
variable{K:X3}
def q9{G:Gx}(F:J4 K x x a f i)(n:mg x=Z (.ref f))(S:oe N ps (ah a))(j:ps.length=g)(l:N.length=h)(p:∀(kV doc pm:PP)(an:Option On)(d ct:PP)(e:Wa),e.length=ps.length->bindArgs (PySem.W.fnOf x x (d5 a) (bg a) (ah a) .none kV doc pm an d ct) ⟨e,[]⟩=pure (ps.zip e))(o:∀(m:Me)(d:PP)(A:SC)(outer:List PySem.Env)(s:KB)(H:Hp)(E:XK),JY k (A.deeper (envOfC x (ah a) s.heap.objs.size f d))->gq (G.at m) (jC KL P w K mg base N x (ah a) f d A outer s H E).My (bg a) b) :
  IoAt P w K mg base (k+1) x ps G mv (Oa g h mv b):=⟨f,i,fnI F S j l o,n,F.kp,F.binds p⟩
end
end VS
end
section
namespace VS
open PySem PySem.Spec PyProof.Rows L2
def Aa(i:Nat)(k e:Ex)(U:VS.Env):Option Out:=(e U).bind λv=>match v.1,(U[i]?:Option (Ve)) with
 |.fr,some (some (.ow (.dct 0 ((b,_) :: l))))=>(k U).bind λa=>if fm a.2=J/\eqT b a.2=J/\(l.all λp=>!eqT p.1 a.2)=J/\l.length+1<fq then Z (.nx (U.set i (Z (.ow (.dct 0 ((b,v.2) :: l)))))) else L
 |_,_=>L
section
def E6{X:Cx}{pos:Pos}(i:Nat)(hr:JY kr X.A)(hk:PV G X b ck)(he:PV G X e ce)(hN:X.N[i]?=Z x)(hv:L6 X.env.scope x)(hd:K3 x)(Ks:K4 x)(ha:∀v,assign (.Subscript (.Name x p1) b pos') X.env v=(do
   let y ← holding [v] (eval (.Name x p1) X.env)
   let iv ← holding [v,y] (eval b X.env)
   standAt pos'
   holding [v,y,iv] (setItem y iv v)
   release [v,y,iv] []))(hs:swapsWithSole [.Subscript (.Name x p1) b pos'] e pos.line X.env=pure B)(hw:swappedStores [.Subscript (.Name x p1) b pos'] e X.env=pure L)(h1:(assignEach [.Subscript (.Name x p1) b pos'] X.env).map (·.2)=[assign (.Subscript (.Name x p1) b pos') X.env]):PSV G X (.Assign [.Subscript (.Name x p1) b pos'] e pos) (Aa i ck ce) :=
 PS.weak (rK he (sJ (dS hN hv hd Ks) hk (yf (j3 hr)) ha) hs hw h1) λD M H o=>by
  obtain⟨O,U,out,s,e,k⟩:=o;obtain⟨⟨mv,tv⟩,ev,e⟩:=Zz.mp e;split at e
  ·rename_i k0 t0 l S Q;subst S;obtain⟨⟨mk,tk⟩,MH,e⟩:=Zz.mp e;split at e
   ·rename_i hc;obtain⟨c1,c2,c3,c4⟩:=hc;cases e;obtain⟨w,g1,w2⟩:=s.rp _ _ Q;have t:=s.nd i _ Q;refine⟨O,U,.fr,tv,s,ev,λxv H1 Fv Kw rv fv=>⟨w,g1,O,U,mk,tk,s.same Kw,MH,λC H3 Fk Lr rk fk=>?_⟩⟩;have P:=Kw.trans Lr;obtain⟨a,ns,f,ts,Fs,rfl,r,J7,m,n,u⟩:=dc w2;rw[r]at t;obtain⟨kk,rfl,M8⟩:=dB rk c1;subst M8
    match ns,f,ts,Fs,u,m,n,J7,r,t with
    |[],_,_,_,_,_,n,_,_,_=>cases n
    |d :: ns,[],_,_,_,m,_,_,_,_=>cases m
    |d :: ns,v0 :: f,_,_,.cons (F:=F0) (ts:=ts) (Fs:=Fs) r0 u,m,n,J7,r,t =>
     rw[Zg,ZQ]at n;cases n;have R:=(jc kk d).mp c2;subst R;have p:ns.length=f.length:=by simpa using m
     have N7:=p.trans u.len.1;have off:∀{β:Type}(E:List β),ns.length=E.length->∀q∈ns.zip E,q.1≠d:=λ{β} E hu q o R=>by
      obtain⟨j,hj,ej⟩:=W7 ((WE o).1);have:(aD ns[j],ts[j]'(by omega))∈(ns.map aD).zip ts:=by
       refine Z5 (i:=j) ?_;rw[Yn];exact⟨by rw[Zd,Zu hj];rfl,Zu _⟩
      have h2:=Za.mp c3 _ this;rw[ej,R,(jc d d).mpr Y]at h2;cases h2
     have ep:putK ((d :: ns).zip (v0 :: f)) d xv=(d :: ns).zip (xv :: f):=by
      rw[ZQ,ZQ];unfold putK;rw[Zp (by rw[YH,ZR Y];rfl),Zg,Zp Y];congr 1;have:(ns.zip f).map (λC=>if C.1=d then (C.1,xv) else C)=(ns.zip f).map id:=YR λq o=>Zn (off f p q o);rw[this,List.map_id]
     have LR:=P a _ J7;have m3:J8 (H3 a):=by rw[LR];exact True.intro
     have nd:=Zb.mp t;have fl:(F0 :: Fs).flatten=F0++Fs.flatten:=rfl;rw[fl]at nd;have h:=fv.2;have Kd:=λb hb=>J8.JX (w2.Kd b (by rw[r,fl];exact hb));refine .inr ⟨a,_,rfl,uk.k LR (by
      have:((ns.map aD).zip ts).length+1<16777216:=c4;rw[Yv,Zt]at this;rw[Yv,Zi,Zi];have:(KM:Nat)=16777216:=rfl;omega),?_⟩
     have aF:a∉Fv++Fs.flatten:=λz=>by
      rcases ZW.mp z with z | z
      ·exact Kd a Zx (h a z)
      ·exact nd.1 (ZP _ z)
     have g:Chg G H (.ref a) (O i) (.dct 0 ((aD d,tv) :: (ns.map aD).zip ts)) (upd H3 a (.dK (putK ((d :: ns).zip (v0 :: f)) d xv))) (a :: (Fv :: Fs).flatten):=by
      rw[r,ep];refine Chg.upd P Zx m3 (.dct aq (by simpa using m) ((RpL.cons (rv.same Lr) (u.same P)).off m3 aF)) ?_ ?_
      ·refine Zb.mpr ⟨aF,ZL.mpr ⟨fv.1,(ZL.mp nd.2).2.1,λb hb c hc z=>?_⟩⟩;subst z;exact Kd b (Zy _ (ZP _ hc)) (h b hb)
      ·intro bb hb;rcases Zo.mp hb with rfl | hb
       ·exact .inl Zx
       ·rcases ZW.mp (hb) with z | z
        ·exact .inr (h bb z)
        ·exact .inl (Zy _ (ZP _ z))
     obtain⟨z1,z2⟩:=s.mut Q g1 g;exact k _ M _ z1 z2
   ·cases e
  ·cases e
def pd{b:Expr}(o:PV G X a g)(n:PV G X b f)(l:PV G X c d)(j:lastMarks [.Lt,.Lt] [b,c]=B):LY G X (.Compare a [.Lt,.Lt] [b,c] pos) (i9 oLt oLt g f d) :=
 PT.weak (tN oQ oQ o n l j) λM H Q h=>oZ h (λU m r e=>by
  obtain⟨x,v,e⟩:=Zz.mp e;obtain⟨y,u,e⟩:=Zz.mp e;obtain⟨⟨p,z⟩,s,e⟩:=Zz.mp e;cases z with
  |bl q =>
   cases q with
   |false=>cases e;exact⟨_,rfl⟩
   |true =>
    obtain⟨i,t,e⟩:=Zz.mp (e);exact jr y i m r e
  |_=>cases e) λQ h=>tu t5 t5 h
end
def xI(c:Ex):Xx:=λU=>(c U).bind λv=>if J3 v.2=J then Z ((.fr,v.2),U) else L
def x2(f:Val->Val->Vc)(a b:Xx):Xx:=λU=>(a U).bind λz=>(b z.2).bind λw=>(f (.fr,z.1.2) (.fr,w.1.2)).bind λv=>if J3 z.1.2=J/\J3 w.1.2=J/\J3 v.2=J then Z ((.fr,v.2),w.2) else L
def kz(c:Ex)(x:Xt):Xt:=λU=>(c U).bind λv=>(Ow v.2).bind λb=>if b then x U else Z (B,U)
def nB(c:Ex)(b:Xx):Xx:=λU=>(c U).bind λx=>match x with
 | (.fr,.lst a)=>(b U).bind λz=>match z.1.2 with
  |.int i=>(KU a.length i).bind λj=>(a[j]?).bind λt=>if fZ a=J/\J3 t=J then Z ((.fr,t),z.2) else L
  |_=>L
 |_=>L
def tZ(n:Nat)(b:Xx):Xx:=λU=>match (U[n]?:Option (Ve)) with
 |some (some _)=>(b U).bind λz=>match z.1.2,(z.2[n]?:Option (Ve)) with
  |.int i,some (some c)=>(match ku c with
   |.lst a=>(KU a.length i).bind λj=>(a[j]?).bind λt=>if J3 t=J then Z ((.fr,t),z.2) else L
   |_=>L)
  |_,_=>L
 |_=>L
section
def aR(h:PV G X e ca):PX G X e (xI ca):=PE.weak h λM H Q g=>by
 obtain⟨O,U,v,n,s,e,l,k⟩:=g;obtain⟨⟨m,t⟩,e1,e2⟩:=Zz.mp e;split at e2
 ·rename_i i;cases e2;refine⟨O,U,m,t,s,e1,λu j F d r f=>k u j O (s.same d) (Kh.same d) ?_⟩;have:=r.J3 i;subst this;exact r
 ·cases e2
def A8(u:fY G r f)(h:tX G (x2 f xa xb) M H Q):Rz r (tX G xa) (tX G xb) M H Q:=by
 obtain⟨O,U,v,P,s,e,E,k⟩:=h;obtain⟨z,A,e1⟩:=Zz.mp e;obtain⟨w,y,e2⟩:=Zz.mp e1;obtain⟨⟨m,t⟩,x,e3⟩:=Zz.mp e2;split at e3
 ·rename_i d;cases e3;refine⟨O,U,z.1,z.2,s,A,d.1,λp R C s1 f1 r1=>⟨C,z.2,w.1,w.2,s1,y,d.2.1,λo l j q f2 r2=>?_⟩⟩;refine u j w.2 l l (.fr,z.1.2) (.fr,w.1.2) p o [] [] m t Q ⟨aI.refl _,r1.keep f2.kept (λa h=>nomatch h),r2,Fp.nil,Fp.nil,λ_ _=>Yt⟩ x λn D F g i N=>k n D j (q.same g) ((f1.trans f2).trans (Kh.same g)) ?_;have:=i.J3 d.2.2;subst this;exact i
 ·cases e3
def qu(i:OpR X (binaryOp d) r)(g:fY G r f)(l:PX G X a xa)(j:PX G X b xb):PX G X (.BinOp a d b pos) (x2 f xa xb):=PE.weak (Ek i l j) λM H Q h=>A8 g h
def wW(j:OpR X (SZ d) r)(i:fY G r f)(o:PX G X a xa)(n:PX G X b xb)(l:behindInMarks d b=B):RU G X (.Compare a [d] [b] pos) (Po (x2 f xa xb)):=PT.weak (yb j o n l) λM H Q h=>by
 obtain⟨O,U,b,w,s,e,k⟩:=h;obtain⟨⟨⟨m,t⟩,v⟩,e1,e2⟩:=Zz.mp e;dsimp only at e2;split at e2
 ·cases e2;exact A8 i ⟨O,U,_,_,s,e1,rfl,λu q p g f r=>⟨b,r.KJ,k q p g f⟩⟩
 ·cases e2
def Iv(i:PX G X a xa)(g:PX G X b xb)(d:fH b)(j:X.K=G.K):PX G X (.Subscript a b pos) (x2 aC xa xb):=PE.weak (lM kB i g d) λM H Q h=>by
 rw[j];exact A8 vU h
def BO(h:RU G X e xt):TV G X (.BoolOp .And [e] pos) xt:=oa h
def CQ{G:Gx}{X:Cx}{a:Expr}{rest:List Expr}{ca:Ex}{xt:Xt}{pos:Pos}(n:LY G X a ca)(l:TV G X (.BoolOp .And (b :: rest) pos) xt):TV G X (.BoolOp .And (a :: b :: rest) pos) (kz ca xt):=PW.weak (BU n l) λM H Q j=>by
 obtain⟨O,U,r,o,s,e,k⟩:=j;obtain⟨⟨m,t⟩,e1,e2⟩:=Zz.mp e;obtain⟨h,e3,g⟩:=Zz.mp e2;refine⟨O,U,m,t,h,s,e1,e3,λq d=>?_⟩;cases h with
 |true=>exact zo ⟨O,U,r,o,s.same d,g,λu p i f=>k u p i ((Kh.same d).trans f)⟩
 |false =>
  cases g;exact yw (k q O (s.same d) (Kh.same d))
def sR(N:PV G X a ca)(F:PX G X b xb)(C:fH b:=by exact λ_ _=>rfl)(P:{`q8,X.K=G.K}):PX G X (.Subscript a b pos) (nB ca xb):=PE.weak (lM kB N F C) λM H Q D=>by
 obtain⟨O,U,v,U',s,e,hi,k⟩:=D;obtain⟨x,ea,e1⟩:=Zz.mp e;split at e1
 ·rename_i p;obtain⟨z,Y,e2⟩:=Zz.mp e1;split at e2
  ·rename_i y m;obtain⟨j,S,e3⟩:=Zz.mp e2;obtain⟨t,R,d⟩:=Zz.mp e3;split at d
   ·rename_i E;cases d;refine⟨O,U,.fr,.lst p,s,ea,λu H1 F1 i r1 f1=>⟨O,U,z.1,z.2,s.same i,Y,by rw[m];rfl,λw H2 O2 q f2 r2=>?_⟩⟩;obtain⟨a,n,Fs,rfl,rfl,PM,l⟩:=r1.lst_inv;have MG:=(f2.keep a _ PM (λz=>J8.JX (s.KD z) (f1.2 a Zx))).1;obtain⟨x,Fx,o,u2,g⟩:=l.get j R;have A:=g.J3 E.2;subst A;rw[m]at r2;refine .inl ⟨a,n,y,x,rfl,r2.int_inv,by rw[P];exact Kb.of MG,i5 (by rw[l.len.1];exact S) o,?_⟩;exact k x H2 O2 q ((Kh.same i).trans f2) (g.keep f2.kept (λa h=>nomatch h))
   ·cases d
  ·cases e2
 ·cases e1
end
section
variable{H:Hp}
noncomputable def Si(O:J5):J5:=λi=>match i with
 |0=>[]
 |i+1=>O i
def AS:bL (Si O) (Z (.pu t) :: U) a↔bL O U a:=by
 constructor
 ·rintro⟨j,u,b,d⟩;cases j with
  |zero=>cases (b)
  |succ j=>exact⟨j,u,b,d⟩
 ·rintro⟨j,u,b,d⟩;exact⟨j+1,u,b,d⟩
def HK(h:df (Si O) (Z (.pu t) :: U) a):df O U a:=by
 obtain⟨j,u,d,b⟩:=h;cases j with
 |zero=>exact nomatch b
 |succ j=>exact⟨j,u,d,b⟩
def SR.ps{v:V}{t:T}(s:SR G O U M H)(r:Rp G H v t []):SR G (Si O) (Z (.pu t) :: U) (Z v :: M) H:=by
 refine⟨by rw[Zi,Zi,s.len],λi c h=>?_,λi u h=>?_,λi j u c b d n=>?_⟩
 ·cases i with
  |zero=>cases (h);exact⟨v,rfl,r⟩
  |succ i=>exact s.rp i c h
 ·cases i with
  |zero=>cases (h)
  |succ i=>exact s.nd i u h
 ·cases i with
  |zero=>cases (b)
  |succ i =>
   cases j with
   |zero=>exact λa _ h=>nomatch h
   |succ j=>exact s.sep i j u c b d (λe=>n (by rw[e]))
def SR.pop(s:SR G O5 (c :: U5) (v :: M) H):SR G (λi=>O5 (i+1)) U5 M H :=
 ⟨by have:=s.len;simpa using this,λi c h=>s.rp (i+1) c h,λi u h=>s.nd (i+1) u h,λi j u c b a n=>s.sep (i+1) (j+1) u c b a (λe=>n (by omega))⟩
def Kh.pop(f:Kh (Si O) (Z (.pu t) :: U) H O5 (c :: U5) H5):Kh O U H (λi=>O5 (i+1)) U5 H5:=by
 have ow:∀a,bL (λi=>O5 (i+1)) U5 a->bL O5 (c :: U5) a:=λa ⟨j,u,d,b⟩=>⟨j+1,u,d,b⟩
 refine⟨λa o h n=>?_,f.Kd,λa h=>?_,λa h=>?_,f.kept⟩
 ·obtain⟨d,b⟩:=f.keep a o h λz=>n (AS.mp z);exact⟨d,λz=>b (ow a z)⟩
 ·exact(f.ow a (ow a h)).imp AS.mp id
 ·obtain⟨j,u,d,b⟩:=h;rcases f.pu a ⟨j+1,u,d,b⟩ with z | z | z
  ·exact .inl (HK z)
  ·exact .inr (.inl (AS.mp z))
  ·exact .inr (.inr z)
end
def gU(x:Xx):Vg->VS.Env->Option (Vb×VS.Env)
 |[],U=>Z ([],U)
 |i :: r,U=>(x (Z (.pu (.int i)) :: U)).bind λz=>match z.2 with
  |_ :: a=>if J3 z.1.2=J then (gU x r a).map λw=>(z.1.2 :: w.1,w.2) else L
  |[]=>L
noncomputable def N9(i n:Nat):Vg:=(List.range' i n).map λ(k:Nat)=>(k:Int)
def md(a x:Xx)(U:VS.Env):Option (Vb×VS.Env):=(a U).bind λz=>match z.1.2 with
 |.int j=>if 0<=j/\j<1000000 then gU x (N9 0 j.toNat) z.2 else L
 |_=>L
def Ua(G:Gx)(y:VS.Env->Option (Vb×VS.Env)):TE:=λM H Q=>∃O U e a,SR G O U M H/\y U=Z (e,a)/\∀D f b d,SR G d a M b->Kh O U H d a b->b D=Z (.lst f)->RpL G b f e (List.replicate e.length [])->H D=L->¬bL d a D->¬df d a D->Q (.ref D) b
theorem oo{α:Type}:∀n:Nat,(List.replicate n ([]:List α)).flatten=[]
 |0=>rfl
 |n+1=>by rw[XE,ZK,oo n];rfl
section
def uV(hg:∀v M H (R:L2.St->Hp->Prop),R (M.set 0 (Z v)) H->g v M H R)(h:Ua G (md xa x) M H Q):tH 1 (EN (BV (tX G xa) AG)) g (λM H Q=>Q J H) (tX G x) M H Q:=by
 obtain⟨O,U,ts,U',s,e,kq⟩:=h;obtain⟨z,ea,e1⟩:=Zz.mp e;split at e1
 ·rename_i j hj;split at e1
  ·rename_i hb;obtain⟨n,hn⟩:∃n:Nat,n=j.toNat:=⟨_,rfl⟩
   rw[← hn]at e1;refine⟨O,U,z.1,z.2,s,ea,by rw[hj];rfl,λu H1 O1 s1 f1 r1=>⟨j,by rw[hj]at r1;rw[r1.int_inv],by omega,by omega,λD f=>?_⟩⟩;rw[← hn];refine⟨λi m M' H'=>m=n-i/\i<=n/\∃F E P A rest c0,M'=c0 :: M/\SR G F E M H'/\Kh O1 z.2 H1 F E H'/\H' D=Z (.lst A)/\¬bL F E D/\¬df F E D/\RpL G H' A P (List.replicate P.length [])/\gU x (N9 i (n-i)) E=Z (rest,U')/\P++rest=ts,⟨n,by omega,Yk _,O1,z.2,[],[],ts,L,rfl,?_,Kh.same (bB f),aq,?_,?_,.nil,e1,rfl⟩,?_⟩
   ·exact s1.off (.inr f) (λq=>J8.JX (s1.Mi q) f) λq=>J8.JX (s1.KD q) f
   ·exact λq=>J8.JX (s1.KD q) f
   ·exact λq=>J8.JX (s1.Mi q) f
   ·rintro i m M' H' ⟨rfl,La,F,E,P,A,rest,c0,rfl,s2,f2,C,VO,np2,rp,S,ev⟩;by_cases Kq:i<n
    ·right;refine⟨Kq,λy H2 yl=>hg _ _ _ _ ?_⟩;obtain⟨rfl,rfl⟩:=yl;rw[show n-i=(n-(i+1))+1 by omega]at S;unfold N9 at S;rw[Wk,Zg,gU]at S;obtain⟨w,ex,Tr⟩:=Zz.mp S;split at Tr
     ·rename_i c3 U3 hw;split at Tr
      ·rename_i Pe;obtain⟨q,eq,e3⟩:=Zw.mp Tr;cases e3;rw[Zp Y];refine⟨Si F,Z (.pu (.int (i:Int))) :: E,w.1,w.2,(s2.ps (v:=.int ((0:Int)+(i:Int))) (t:=.int (i:Int)) (by rw[Int.zero_add];exact .int _)),ex,Pe,λu5 H5 O5 s5 f5 r5=>?_⟩;rw[hw]at s5 f5;have f6:=f5.pop;obtain⟨Ti,no5⟩:=f6.keep D _ C VO;have np5:¬df (λi=>O5 (i+1)) U3 D:=λq=>by
        rcases f6.pu D q with q | q | q
        ·exact np2 q
        ·exact VO q
        ·rw[C]at q;cases q
       have OY:J8 (H5 D):=by rw[Ti];exact True.intro
       have lx:=rp.len.1;refine⟨A,Ti,?_,n-(i+1),by omega,rfl,Kq,λi=>O5 (i+1),U3,P++[w.1.2],A++[u5],q.1,_,rfl,s5.pop.off (.inl OY) np5 no5,?_,aq,no5,np5,?_,eq,?_⟩
       ·have:P.length<=n:=by
         have hc:∀(l:Vg)(U:VS.Env)(r:Vb)(U':VS.Env),gU x l U=Z (r,U')->r.length=l.length:=by
          intro l
          induction l with
          |nil=>intro U r U' h;cases h;rfl
          |cons a l ih =>
           intro U r U' h;rw[gU]at h;obtain⟨w',_,b⟩:=Zz.mp h;split at b
           ·split at b
            ·obtain⟨q',h3,h4⟩:=Zw.mp b;cases h4;rw[Zi,Zi,ih _ _ _ h3]
            ·cases b
           ·cases b
         have d:=hc _ _ _ _ e1;unfold N9 at d;rw[Zt,Y2]at d;rw[← ev,Zq]at d;omega
        have hs:(KM:Nat)=16777216:=rfl;omega
       ·have ff:=f2.trans f6;refine⟨λa o d b=>?_,λa d b=>?_,ff.ow,ff.pu,ff.kept.trans (Kept.upd (.inl OY))⟩
        ·obtain⟨q1,q2⟩:=ff.keep a o d b;exact⟨by rw[aw (λz=>by rw[z,f]at d;cases d)];exact q1,q2⟩
        ·by_cases q:a=D
         ·rw[q,aq]at b;cases b
         ·rw[aw q]at b;exact ff.Kd a d b
       ·have r2:Rp G (upd H5 D (.lst (A++[u5]))) u5 w.1.2 []:=r5.keep (Kept.upd (.inl OY)) (λa h=>nomatch h);have:=((rp.keep f6.kept (by rw[oo];exact λa h=>nomatch h)).keep (Kept.upd (.inl OY)) (by rw[oo];exact λa h=>nomatch h)).append (.cons r2 .nil);rw[Zq,ZG,List.replicate_succ'];exact this
       ·rw[ZI];exact ev
      ·cases Tr
     ·cases Tr
    ·left;have hni:n-i=0:=by omega
     rw[hni]at S;cases (S);rw[ZS]at ev;subst ev;refine⟨by show n<=i;omega,kq D A H' F s2 (f1.trans f2) C rp (f1.none f) VO np2⟩
  ·cases e1
 ·cases e1
end
def EV(a:Tx)(y:VS.Env->Option (Vb×VS.Env)):Xx:=λU=>(y U).bind λz=>(ly (.fr,.str a) [(.fr,.lst z.1)]).map λv=>((.fr,v.2),z.2)
section
def Do{b:Pos}(w:PV G X a (eC (.str sep)))(g:PE X e (Ua G y))(n:X.K=G.K)(S:XAA a "join" X.env (eval a X.env)=eval a X.env)(R:((backTo d (P3 [e] X.env)).all (λx=>!x.1)&&(backToKw d (SL [] X.env)).all (λx=>x.1.isSome)
   && decide ([e].length+([]:List Keyword).length+(if ([]:List Keyword).isEmpty then 0 else 1)<30))=J)(Y:(b.endLine==d.line)=J)(l:K1 e [] X)(J2:(backTo d (P3 [] X.env)).any (·.1)=B) :
  PX G X (.Call (.Attribute a "join" b) [e] [] d) (EV sep y) :=
 PE.weak (lI WM PySem.F.slot_str_join PySem.F.type_str_join wH w (bW g dP l) S R Y l J2) λM H Q h=>by
  obtain⟨O,U,v,U',s,e,hi,k⟩:=h;obtain⟨z,A,e1⟩:=Zz.mp e;obtain⟨v0,e2,e3⟩:=Zw.mp e1;cases e3;obtain⟨f,q,i⟩:=Zz.mp e2;split at i
  ·rename_i m;cases i;refine⟨O,U,.fr,.str sep,s,rfl,λu H1 F1 j r1 f1=>⟨by rw[n];exact oM r1 ⟨_,rfl⟩,O,U,z.1,z.2,s.same j,A,λD vs H2 C r f2 o rp PN no np=>?_⟩⟩;rw[sy rp q]at o;refine⟨sep,D,f,r1.str_inv.1,rfl,by rw[n];exact Kb.of o,m,k _ H2 C r ((Kh.same j).trans f2) (.str _ ⟨ZJ (kZ sep f) m,λc g=>(kP sep f c g).elim (r1.str_inv.2.2 c) λ⟨t,E,P⟩=>kE rp q t E c P⟩)⟩
  ·cases i
end
inductive Ix where | io (i:Nat) (un:Bool) | px (x:Xx)
def mV:List Ix->VS.Env->Option (List Ia×VS.Env)
 |[],U=>Z ([],U)
 |.io i un :: r,U=>match (U[i]?:Option (Ve)) with
  |some (some _)=>(mV r U).map λw=>(.io i un :: w.1,w.2)
  |_=>L
 |.px x :: r,U=>(x U).bind λz=>if J3 z.1.2=J then (mV r z.2).map λw=>(.ex (eC z.1.2) :: w.1,w.2) else L
noncomputable def OZ:List Ix->List Bool
 |[]=>[]
 |.io _ _ :: r=>J :: OZ r
 |.px _ :: r=>B :: OZ r
def aV(a:List Ix)(g:Vb->Option (Vb×T)):Xx:=λU=>(mV a U).bind λw=>oU w.1 g w.2
inductive LI(G:Gx)(M:L2.St)(H:Hp):List Ia->List V->Prop
 |nil:LI G M H [] []
 |io {i:Nat} {un:Bool} {v:V} {as:List Ia} {vs:List V}:M[i]?=some (some v)->LI G M H as vs->LI G M H (.io i un :: as) (v :: vs)
 |ex {t:T} {v:V} {as:List Ia} {vs:List V}:J3 t=true->Rp G H v t []->LI G M H as vs->LI G M H (.ex (eC t) :: as) (v :: vs)
def tIx(G:Gx)(g:List Ix):TA:=λM H Q=>∃O U f b,SR G O U M H/\mV g U=Z (f,b)/\∀d a e,SR G e b M a->Kh O U H e b a->LI G M a f d->Q d a
def P2(G:Gx)(X:Cx)(a:List Expr)(b:List Ix):Prop:=PA X a (tIx G b)
section
theorem vM:∀{as:List Ix}{U j:VS.Env}{a:List Ia},mV as U=Z (a,j)->Ll a=OZ as
 |[],_,_,_,h=>by cases h;rfl
 |.io i un :: as,U,j,a,h=>by
  unfold mV at h;split at h
  ·obtain⟨w,d,b⟩:=Zw.mp h;cases b;show J :: Ll w.1=J :: OZ as;rw[vM d]
  ·cases h
 |.px x :: as,U,j,a,h=>by
  obtain⟨z,_,f⟩:=Zz.mp h;split at f
  ·obtain⟨w,d,b⟩:=Zw.mp f;cases b;show B :: Ll w.1=B :: OZ as;rw[vM d]
  ·cases f
theorem LI.keep(k:Kept H j)(h:LI G M H f d):LI G M j f d:=by
 induction h with
 |nil=>exact .nil
 |io h _ b=>exact .io h b
 |ex l r _ b=>exact .ex l (r.keep k (λa h=>nomatch h)) b
def Jf(s:SR G O U M H)(h:LI G M H j d):∀{f:Vb},pV U j=Z f->∃b,RpL G H d f b/\Pk O U M H j d b:=by
 induction h with
 |nil=>intro f e;cases e;exact⟨[],.nil,.nil⟩
 |@io i un v j d w _ n =>
  intro f e;obtain⟨t,e1,e2⟩:=Zz.mp (e);obtain⟨Lg,e3,rfl⟩:=Zw.mp e2;obtain⟨b,r,q⟩:=n e3;unfold SD at e1;split at e1
  ·rename_i t0 P;obtain⟨o,y,N⟩:=s.rp _ _ P;rw[w]at y;cases y;have l:=N;have key:∃a,v=.ref a/\Rp G H (.ref a) t (O i):=by
    split at e1
    ·obtain⟨⟨m,u⟩,R,Q⟩:=Zw.mp e1;cases Q;rw[nZ R]at l;obtain⟨a,E,_,D⟩:=oH l;exact⟨a,E,D⟩
    ·split at e1
     ·rename_i F;cases e1;obtain⟨a,rfl⟩:=GL l F;exact⟨a,rfl,l⟩
     ·cases e1
   obtain⟨a,rfl,C⟩:=key;exact⟨O i :: b,.cons C r,.io w q⟩
  ·cases e1
 |@ex t v j d hi A _ n =>
  intro f e;obtain⟨o,e1,e2⟩:=Zz.mp (e);have ev:o.2=t:=by
   cases e1;rfl
  obtain⟨z,e3,e4⟩:=Zz.mp e2;obtain⟨Lg,Y,rfl⟩:=Zw.mp e4;have S:z=t:=by
   unfold exV at e3;split at e3
   ·split at e3
    ·cases e3;exact ev
    ·cases e3
   ·cases e3;exact ev
  subst S;obtain⟨b,r,q⟩:=n Y;exact⟨[] :: b,.cons A r,.ex (λa h=>nomatch h) q⟩
def bI:P2 G X [] []:=PA.weak dP λM H Q a=>by
 obtain⟨O,U,d,b,s,e,k⟩:=a;cases e;exact k [] H O s (Kh.refl _ _ _) .nil
def cP{X:Cx}(i:Nat)(b:Bool)(r:X.N[i]?=Z n)(h:L6 X.env.scope n)(o:K3 n)(u:K4 n)(l:P2 G X es as)(j:{`q8,P3 (.Name n pos :: es) X.env=(B,eval (.Name n pos) X.env) :: P3 es X.env}):P2 G X (.Name n pos :: es) (.io i b :: as) :=
 PA.weak (bW (dS r h o u) l j) λM H Q m=>by
  obtain⟨O,U,C,A,s,e,k⟩:=m;unfold mV at e;split at e
  ·rename_i c q;obtain⟨w,e1,e2⟩:=Zw.mp e;cases e2;obtain⟨v,a,_⟩:=s.rp _ _ q;exact⟨v,a,O,U,w.1,w.2,s,e1,λz y t d f ix=>k _ y t d f (.io a ix)⟩
  ·cases e
def cp(h:PX G X e x)(l:P2 G X es as)(j:{`q8,K1 e es X}):P2 G X (e :: es) (.px x :: as) :=
 PA.weak (bW h l j) λM H Q m=>by
  obtain⟨O,U,y,v,s,e,k⟩:=m;obtain⟨z,e1,e2⟩:=Zz.mp e;split at e2
  ·rename_i d;obtain⟨w,e3,n⟩:=Zw.mp e2;cases n;exact⟨O,U,z.1,z.2,s,e1,d,λu A o s1 f1 r1=>⟨o,z.2,w.1,w.2,s1,e3,λt r q f b ix=>k _ r q f (f1.trans b) (.ex d (r1.keep b.kept (λa h=>nomatch h)) ix)⟩⟩
  ·cases e2
def q8{X:Cx}(F:FnOk X.prog X.w X.K X.mg X.base KL k f l j (Sb G (OZ as) g))(y:JY k X.A)(D:Gl X n)(z:X.mg n=Z (.ref f))(C:PySem.W.keepIn X.K (.ref f)=J)(E:Binds X.K l j [])(N:P2 G X (e :: es) (.io i un :: as))(Lu:K3 n)(he:K1 e es X)(K9:K2 pos es X):PXN G X (.Call (.Name n p) (e :: es) [] pos) (aV (.io i un :: as) g) :=
 PE.weak (wt F y D z C E .nil qr N Lu he K9) λM H Q h=>by
  obtain⟨O,U,v,U',s,e,q⟩:=h;obtain⟨⟨NH,Y⟩,e1,e2⟩:=Zz.mp e;have d:=vM e1;refine⟨O,U,NH,Y,s,e1,λm H1 O1 s1 f1 ix=>?_⟩;show Sb G (OZ as) g (m++[]) H1 Q _;rw[ZS];cases ix with
  |nil=>cases d
  |ex _ _ _=>cases d
  |@io i' Nq v' S LW P a =>
   have b:=(Vy (d)).2;have Kz:=e2;obtain⟨ts,e3,_⟩:=Zz.mp Kz;obtain⟨Fs,rp,t⟩:=Jf s1 (.io P a) e3;rw[← b];exact vz s1 e2 e3 (aI.refl _) rp t λu H' O' F o R r n=>q u H' O' F o (f1.trans R) r (n.back f1)
end
noncomputable def nF(j:Nat)(x:Xx):Sx:=λU=>(x U).bind λz=>if j<z.2.length then Z (.nx (z.2.set j (Z (.ow z.1.2)))) else L
section
def ym(l:tS G (nF j x) D M H):U6 G x M H λu i=>D.nx (M.set j (Z u)) i:=by
 obtain⟨O,U,o,s,e,k⟩:=l;obtain⟨z,e1,e2⟩:=Zz.mp e;split at e2
 ·rename_i m;cases e2;refine⟨O,U,z.1,z.2,s,e1,λu i v F s1 f1 r1 d=>?_⟩;refine k _ _ _ (s1.put m r1 (λ_ _ _ _ _ q=>q) (λ_ _=>d.nd) (λ_ _ f p _ g a b=>d.ap f p g a b) λf t _ g a b r=>d.ap f _ g a r b) ⟨λa o h n=>⟨(f1.keep a o h n).1,λz=>?_⟩,f1.Kd,λa h=>?_,λa h=>?_,f1.kept⟩
  ·rcases lq z with⟨_,_,b⟩ | z
   ·rcases d.of a b with q | q
    ·rw[q]at h;cases h
    ·exact n q
   ·exact(f1.keep a o h n).2 z
  ·rcases lq h with⟨_,_,b⟩ | z
   ·exact(d.of a b).symm
   ·exact f1.ow a z
  ·rcases rm h with⟨_,q,_⟩ | z
   ·cases q
   ·exact f1.pu a z
 ·cases e2
def zW{pos:Pos}(h:PXN G X e x)(g:X.N.Nodup)(d:X.N[j]?=Z nm)(a:Loc X.env.scope nm)(i:swapsWith e (Z (.Name nm pos')) pos.line X.env=pure B)(f:X.fn nm=J\/X.env.scope.names.lookup nm=Z .local) :
  PSV G X (.Assign [.Name nm pos'] e pos) (nF j x) :=
 PS.weak (mS g d a h i f) λD M H b=>ym b
end
noncomputable def pG(o:Option Xx)(U:VS.Env):Option (Option Int×VS.Env):=match o with
 |none=>Z (L,U)
 |some x=>(x U).bind λz=>match z.1.2 with
  |.int i=>Z (Z i,z.2)
  |_=>L
def R3(a:Xx)(b d:Option Xx):Xx:=λU=>(a U).bind λz=>match z.1.2 with
 |.str t=>(pG b z.2).bind λl=>(pG d l.2).map λh=>((.fr,.str (cut t l.1 h.1)),h.2)
 |_=>L
def T9(G:Gx)(o:Option Xx):TO:=λM H Q=>∃O U i a,SR G O U M H/\pG o U=Z (i,a)/\∀b d,SR G d a M b->Kh O U H d a b->Q i b
section
variable{lo:Option Expr}
def tM:PO X L (T9 G L):=PO.weak DU λM H Q d=>by
 obtain⟨O,U,o,f,s,e,k⟩:=d;cases e;exact k H O s (Kh.refl _ _ _)
def t8(h:PX G X e x):PO X (Z e) (T9 G (Z x)):=PO.weak (xn h) λM H Q l=>by
 obtain⟨O,U,o,q,s,e,k⟩:=l;obtain⟨z,e1,e2⟩:=Zz.mp e;split at e2
 ·rename_i j d;cases e2;refine⟨O,U,z.1,z.2,s,e1,by rw[d];rfl,λu p m g f r=>⟨j,?_,k p m g f⟩⟩;rw[d]at r;exact r.int_inv
 ·cases e2
def EG(r:PX G X a xa)(o:PO X lo (T9 G xl))(p:PO X hi (T9 G xh)):PX G X (.Subscript a (.Slice lo hi L p2) pos) (R3 xa xl xh) :=
 PE.weak (u4 zK r o p) λM H Q m=>by
  obtain⟨O,U,v,P,s,e,R,k⟩:=m;obtain⟨z,e1,e2⟩:=Zz.mp e;split at e2
  ·rename_i t f;obtain⟨l,e3,C⟩:=Zz.mp e2;obtain⟨h,A,y⟩:=Zw.mp C;cases y;refine⟨O,U,z.1,z.2,s,e1,by rw[f];rfl,λu Y F s1 f1 r1=>⟨F,z.2,l.1,l.2,s1,e3,λS E j f2=>⟨E,l.2,h.1,h.2,j,A,λN D g w=>?_⟩⟩⟩;rw[f]at r1;obtain⟨rfl,d⟩:=r1.str_inv;refine⟨_,rfl,by rw[cY,← gn];exact d.1,?_⟩;rw[ki];exact k _ N D g ((f1.trans f2).trans w) (.str _ ⟨ZJ (xT _ _ _) d.1,λc q=>d.2 c ((rE _ _ _).subset q)⟩)
  ·cases e2
def G7{X:Cx}(i:Nat)(S:X.N[i]?=Z n)(C:L6 X.env.scope n)(F:K3 n)(Ks:K4 n)(R:PX G X b xb)(D:fH b)(Y:X.K=G.K):PX G X (.Subscript (.Name n p2) b pos) (tZ i xb) :=
 PE.weak (lM kB (dS S C F Ks) R D) λM H Q E=>by
  obtain⟨O,U,v,U',s,e,Pe,k⟩:=E;unfold tZ at e;split at e
  ·rename_i c0 d;obtain⟨r,p,_⟩:=s.rp _ _ d;obtain⟨z,e1,e2⟩:=Zz.mp e;split at e2
   ·rename_i y c m P;split at e2
    ·rename_i ts V7;obtain⟨j,ej,e3⟩:=Zz.mp e2;obtain⟨t,et,f⟩:=Zz.mp e3;split at f
     ·rename_i hit;cases f;refine⟨r,p,O,U,z.1,z.2,s,e1,by rw[m];rfl,λw H2 O2 h f2 r2=>?_⟩;obtain⟨v1,o,r1⟩:=h.rp _ _ P;rw[p]at o;cases o;rw[V7]at r1;rw[m]at r2;obtain⟨a,q,Fs,rfl,eF,PM,l⟩:=r1.lst_inv;obtain⟨x,Fx,u,u2,g⟩:=l.get j et;have A:=g.J3 hit;subst A;exact .inl ⟨a,q,y,x,rfl,r2.int_inv,by rw[Y];exact Kb.of PM,i5 (by rw[l.len.1];exact ej) u,k x H2 O2 h f2 g⟩
     ·cases f
    ·cases e2
   ·cases e2
  ·cases e
end
section
def Bj{X:Cx}(N:List Str)(n:X.calm=J)(f:Gl X "range")(e:X.mg "range" = L)(i:PX G X a xa)(b:∀cl C s H fp,PG (bq X N sc cl C s H fp) (.Name nm p2) (yk 0))(he:∀cl C s H fp,PX G (bq X N sc cl C s H fp) elt x)(d:K1 a [] X)(l:P3 [a] X.env=[(B,eval a X.env)])(o:iO X.env sc=J)(j:kh sc (N.drop 1) X.N=J)(m:1<=N.length)(g:∀x,XAB (.Call (.Name "range" p) [a] [] p3) X.env x=pure x) :
  PE X (.ListComp elt [⟨.Name nm p2,.Call (.Name "range" p) [a] [] p3,[],0⟩] sc pos) (Ua G (md xa x)) :=
 PE.weak (nY n (mZ f e (bW i dP d) l) o j m (λcl C s H fp=>⟨b cl C s H fp,jK,he cl C s H fp⟩) g) λM H Q h=>uV (λv M H R r=>r) h
end
def Bk(j:Nat)(x:Xx):Sx:=λU=>(x U).bind λz=>if J3 z.1.2=J/\j<z.2.length then Z (.nx (z.2.set j (Z (.ow (.lst [z.1.2]))))) else L
section
variable{lo:Option Expr}
def BP{pos:Pos}(h:PX G X e x)(w:X.N.Nodup)(t:X.N[j]?=Z nm)(l:Loc X.env.scope nm)(q:K1 e [] X)(y:swapsWith (.List [e] p1) (Z (.Name nm pos')) pos.line X.env=pure B)(v:X.fn nm=J\/X.env.scope.names.lookup nm=Z .local) :
  PSV G X (.Assign [.Name nm pos'] (.List [e] p1) pos) (Bk j x) :=
 PS.weak (mS w t l (rA (bW h dP q)) y v) λD M H r=>by
  obtain⟨O,U,o,s,e,k⟩:=r;obtain⟨z,e1,e2⟩:=Zz.mp e;split at e2
  ·rename_i d;cases e2;refine⟨O,U,z.1,z.2,s,e1,d.1,λu C A s1 f1 r1=>⟨by show 1<=16777216;decide,λp b=>?_⟩⟩;obtain⟨i,g⟩:=s1.val (m:=.fr) d.2 (bB b) (.lst aq (.cons (r1.same (bB b)) .nil)) ⟨by simp,λa f=>by simp at f;rw[f];exact b⟩ (.inr ⟨rfl,rfl⟩);exact k _ _ _ i (f1.trans g)
  ·cases e2
end
section
variable{lo:Option Expr}
def wU(f:LY G X a ca)(d:RU G X b xt):RU G X (.BoolOp .And [a,b] pos) (kz ca xt):=(CQ f (BO d)).pxt
def bX{X:Cx}(F:IoAt X.prog X.w X.K X.mg X.base k x ps G (OZ as) g)(d:JY k' X.A)(m:P2 G X (e :: es) (.io i un :: as))(h:{`q1,k<=k'})(l:{`q8,Gl X x})(t:{`q8,K3 x})(he:{`q8,K1 e es X})(u:{`q8,K2 pos es X}) :
  PX G X (.Call (.Name x p) (e :: es) [] pos) (aV (.io i un :: as) g):=by
 obtain⟨f,fd,s,r,q,o⟩:=F.ex;exact(q8 s (d.mono h) l r q o m t he u).px
def CT{X:Cx}(F:IoAt X.prog X.w X.K X.mg X.base k x ps G (OZ as) g)(d:JY k' X.A)(m:P2 G X (e :: es) (.io i un :: as))(h:k<=k')(l:Gl X x)(t:K3 x)(he:K1 e es X)(u:K2 pos es X) :
  PXN G X (.Call (.Name x p) (e :: es) [] pos) (aV (.io i un :: as) g):=by
 obtain⟨f,fd,s,r,q,o⟩:=F.ex;exact q8 s (d.mono h) l r q o m t he u
end
noncomputable def DS(y:VS.Env->Option (Vb×VS.Env)):Xx:=λU=>(y U).map λz=>((.fr,.lst z.1),z.2)
section
def G2(m:U6 G (DS y) M H Q):Ua G y M H Q:=by
 obtain⟨O,U,v,r,s,e,k⟩:=m;obtain⟨z,e1,e2⟩:=Zw.mp e;cases e2;refine⟨O,U,z.1,z.2,s,e1,λD q h p i f o rp n no np=>k (.ref D) h p [D] i f ?_ ⟨by simp,λj c d a b g=>?_,λa b=>.inl ?_⟩⟩
 ·have l:Rp G h (.ref D) (.lst z.1) (D :: (List.replicate z.1.length []).flatten):=.lst o rp
  rwa [oo]at l
 ·cases Zj.mp b;cases c with
  |ow t=>exact no ⟨j,t,d,g⟩
  |pu t=>exact np ⟨j,t,d,g⟩
 ·cases Zj.mp b;exact n
def CY{X:Cx}{t:Pos}(N:List Str)(Kf:X.calm=J)(E:Gl X "range")(z:X.mg "range" = L)(O:PX G X a q)(n:∀cl C s H fp,PG (bq X N f cl C s H fp) (.Name m l) (yk 0))(he:∀cl C s H fp,PX G (bq X N f cl C s H fp) d o)(w:K1 a [] X)(U:P3 [a] X.env=[(B,eval a X.env)])(KW:iO X.env f=J)(S:kh f (N.drop 1) X.N=J)(L4:1<=N.length)(F:∀x,XAB (.Call (.Name "range" p) [a] [] i) X.env x=pure x)(P:X.N.Nodup)(A:X.N[j]?=Z x)(u:Loc X.env.scope x)(Y:swapsWith (.ListComp d [⟨.Name m l,.Call (.Name "range" p) [a] [] i,[],0⟩] f g) (Z (.Name x b)) t.line X.env=pure J)(Q:X.fn x=J\/X.env.scope.names.lookup x=Z .local) :
  PSV G X (.Assign [.Name x b] (.ListComp d [⟨.Name m l,.Call (.Name "range" p) [a] [] i,[],0⟩] f g) t) (nF j (DS (md q o))) :=
 PS.weak (kQ P A u Kf (mZ E z (bW O dP w) U) KW S L4 (λcl C s H fp=>⟨n cl C s H fp,jK,he cl C s H fp⟩) Y Q F) λD M H h=>uV (λv M H R r=>r) (G2 (ym h))
end
end VS
end
section
namespace VS
open PySem PySem.Spec PyProof.Rows L2
open StrLaws in
theorem occ_first(s d:Str)(e i:Nat)(f:i+d.length<=e/\Builtin.Str.subAt s d i=J):∀(a b:Vh)(free:Nat),(∀j∈a,¬(j+d.length<=e/\Builtin.Str.subAt s d j=J))->free<=i →
  (forIn (a++i :: b) ((#[]:Array Nat),free) (occBody s d e 1)).run.fst=#[i]
 |[],b,free,_,g=>by
  have st:∀(l:Vh)(fr:Nat),(forIn l ((#[i]:Array Nat),fr) (occBody s d e 1)).run.fst=#[i]:=λl=>by
   induction l with
   |nil=>exact λ_=>rfl
   |cons x l m =>
    intro fr;rw[XB];unfold occBody;rw[Zn (λh=>by have:=h.1.1.1;simp at this)];exact m fr
  rw[YK,XB];unfold occBody;rw[Zp ⟨⟨⟨by simp,g⟩,f.1⟩,f.2⟩];exact st b _
 |x :: a,b,free,h,g=>by
  rw[Xh,XB];have:occBody s d e 1 x ((#[]:Array Nat),free)=pure (ForInStep.yield ((#[]:Array Nat),free)):=by
   unfold occBody;rw[Zn (λq=>h x Zx ⟨q.1.2,q.2⟩)]
  rw[this];exact occ_first s d e i f a b free (λj n=>h j (Zy _ n)) g
end VS
end
section
namespace ST
open PySem PySem.Spec PyProof.Rows TS
def HP{k k':Ky}(d:kind k=kind k')(h:KyV k v)(e:KyV k' b)(q:Q (.bool (VX k k')) s):Pi (KF prog w) A (richCompare .Lt v b) Q E s:=by
 cases k<;>cases k'<;>simp only[kind,Sum.isLeft,Bool.true_eq_false,Vw]at d<;>obtain⟨t,rfl⟩:=h<;>obtain⟨a,rfl⟩:=e
 ·rename_i i j;refine richCompare_gives (typeIs_int _ _ t) (typeIs_int _ _ a) F.slot_int_lt F.entry_int_lt (F.args_int_lt_2 _ _) (gives_int_lt _ _ t a) (λx=>nomatch x) ?_;exact q
 ·rename_i x y;refine richCompare_gives (W5 _ _ t) (W5 _ _ a) F.slot_str_lt F.entry_str_lt (F.args_str_lt_2 _ _) (gives_str_lt _ _ t a) (λx=>nomatch x) ?_;exact q
noncomputable def OI(a:Nat->Nat->Bool):Nat->Nat->Nat->Nat
 |0,_,c=>c
 |k+1,j,c=>OI a k (j+1) (if a j c then j else c)
section
variable{K:UF->Prop}
def D4{prog:SB}{w:UV}{A:SC}{R:Result->KB->Prop}{I S:On}{fp wr:Wc}{n:Nat}{P:Nat->PP->Prop}{St:Nat->UF->Prop}{bt:Nat->Nat->Bool}(W:Walks prog w A.in1 I fp wr n P St)(RN:S∉fp)(hK:∀h f,K h->(∀b o,b∉wr->b≠S->h.get? b=Z o->f.get? b=Z o)->K f)(Rf:∀(i j:Nat)(u v:PP)(s:KB)(Q:Z0)(E:Z0),P i u->P j v->K s.heap->Q (.bool (bt i j)) s->Pi (KF prog w) A.in1 (richCompare .Lt u v) Q E s) :
  ∀(k j:Nat)(s:KB)(c:Nat)(d:PP)(m:Nat),n-j=k->j<=n->P c d->St j s.heap->K s.heap →
  s.heap.get? S=Z { cls:=.type "list",dict:=L,data:=.seq #[d,d] m,slots:=#[] } →
  (∀v f t,P (OI bt k j c) v->(∀b o,b∉wr->b≠S->s.heap.get? b=Z o->f.get? b=Z o)->R (.ok (.ret v)) { s with heap:=f,toks:=t }) →
  codeAny (KF prog w) A (.builtin "min.loop" ⟨[.ref I,.none,.ref S],[]⟩) R s:=by
 have Te:=λh=>RN (W.sub _ h);have K7:(toString "min" ++ toString ".loop" : String) = "min.loop" := by decide
 intro k
 induction k with
 |zero =>
  intro j s c d m hk hj x N r hS g;have La:j=n:=by lia
  refine Yj X2 ?_;rw[Z7 Yh _];refine(Zv (XD hS Y ?_));refine(Zv (YB (W.done s _ _ (La ▸ N) λf t q=>?_)));refine(Zv ?_);refine Xm (q S _ Te hS) Y (Zv (Wt (Zl ?_)));exact g d _ t x λb o p a e=>(Yz _ _ (Yy a)).trans (q b o p e)
 |succ k U =>
  intro j s c d m hk hj x N r hS g;have O:j<n:=by omega
  refine Yj X2 ?_;rw[Z7 Yh _];refine(Zv (XD hS Y ?_));refine(Zv (YB (W.item j s _ _ O N λv f t X MC q=>?_)));have G:=q S _ Te hS;have l:=hK _ _ r λb o hb _ e=>q b o hb e;refine(show Pi _ A.in1 (tryCatch (holding [v,v] (richCompare .Lt v d>>=_)) _>>=_) _ _ _ from ?_);refine Zv (YB (Yl (Zv (Rf j c v d _ _ _ X x l ?_))));refine Zv (Yl (YJ ?_));refine Zv (Wt (Zl ?_));unfold OI at g;cases hb:bt j c with
  |false =>
   rw[hb]at g;refine Zv (Wt ?_);rw[K7];refine Zl ⟨YZ Yh _,U (j+1) _ c d m (by omega) O x MC l G λy D M F H=>?_⟩;exact g y D M F λb o p a e=>H b o p a (q b o p e)
  |true =>
   rw[hb]at g;refine Zv (Xm G Y (Zv (Wt ?_)));rw[K7];have kp:∀b o,b≠S->f.get? b=Z o->(f.update S (Obj.mapSeq λ_=>#[v,v])).get? b=Z o:=λb o a e=>(Yz _ _ (Yy a)).trans e;refine Zl ⟨YZ Yh _,U (j+1) _ j v _ (by omega) O X (W.frame _ _ _ MC λb C o e=>kp b o (λz=>RN (z ▸ C)) e) (hK _ _ l λb o _ a e=>kp b o a e) (Ys _ G Y) λy D M F H=>?_⟩;exact g y D M F λb o p a e=>H b o p a (kp b o a (q b o p e))
end
def y0{A:SC}{Q:Z0}(h:Pi (KF prog w) A.in1 (pyIter x) (λit a=>∃I fp wr n P St l,it=.ref I/\Walks prog w A.in1 I fp wr n P St/\St 0 a.heap/\(∀b∈fp,b<a.heap.objs.size)/\0<n ∧
   (∀(i j:Nat)(u v:PP)(s:KB)(Q:Z0)(E:Z0),P i u->P j v->(∀b o,b∉wr->a.heap.get? b=Z o->s.heap.get? b=Z o)->Q (.bool (l i j)) s->Pi (KF prog w) A.in1 (richCompare .Lt u v) Q E s) ∧
   ∀v d p,P (OI l (n-1) 1 0) v->(∀b o,b∉wr->a.heap.get? b=Z o->d.get? b=Z o)->Q v { a with heap:=d,toks:=p }) E s) :
  Pi (KF prog w) A (call (.builtin "min") [x]) Q E s:=by
 have y:(toString "min" ++ toString ".loop" : String) = "min.loop" := by decide
 refine call_function_tree F.kind_min F.plain_min F.entry_min (F.args_min1 _) ?_;refine Zv (Vv (rfl) ?_);refine Zv (Zl ?_);refine Zv (YX h (λit a G=>?_) λ_ _ e=>e);obtain⟨I,fp,wr,n,P,St,l,rfl,W,LO,X,q,U,M⟩:=G;refine Zv (YA ?_);have m:=λH=>YO _ (X _ H);have hS:(a.heap.push { cls:=.type "list",data:=.seq #[] }).get? a.heap.objs.size=Z { cls:=.type "list",dict:=L,data:=.seq #[] 0,slots:=#[] }:=Zc _ Y;rw[y];refine Zl ⟨YZ Yh _,Yj X2 ?_⟩;rw[Z7 Yh _];refine(Zv (XD hS Y ?_));refine(Zv (YB (W.item 0 { a with heap:=a.heap.push { cls:=.type "list",data:=.seq #[] } } _ _ q (W.frame 0 a.heap (a.heap.push { cls:=.type "list",data:=.seq #[] }) LO λb _ o e=>Zm _ e) λv d p N O t=>?_)));have r:=t _ _ (λh=>m (W.sub _ h)) hS;refine(show Pi _ A.in1 (updateSeq a.heap.objs.size (λ_=>#[v,v])>>=_) _ _ _ from Zv ?_);refine Xm r Y ?_;rw[y];have kp:∀b o,b∉wr->a.heap.get? b=Z o->(d.update a.heap.objs.size (Obj.mapSeq λ_=>#[v,v])).get? b=Z o:=λb o f e =>
  (Yz _ _ (Yy (Zf (ZY e)))).trans (t b o f (Zm _ e))
 refine Zl ⟨YZ Yh _,D4 (K:=λh=>∀b o,b∉wr->a.heap.get? b=Z o->h.get? b=Z o) W m (λh1 h2 D C b o hb e=>C b o hb (Zf (ZY e)) (D b o hb e)) U (n-1) 1 _ 0 v _ Y q N (W.frame _ _ _ O λb g o e=>?_) kp (Ys _ r Y) λz R NW S Og=>?_⟩
 ·exact(Yz _ _ (λh:a.heap.objs.size=b=>m (by rw[h];exact g))).trans e
 ·exact M z R NW S λb o f e=>Og b o f (Zf (ZY e)) (kp b o f e)
end ST
end
section
namespace VS
open PySem PySem.Spec PyProof.Rows L2
def Gf:T->Bool
 |.int _=>J
 |.str s=>P9 s
 |_=>B
def oN(i:Nat):Ms:=λU=>match (U[i]?:Option (Ve)) with
 |some (some (.pu (.dct 3 l)))=>if (l.all λp=>Gf p.1)=J then Z (.fr,l.map (·.1)) else L
 |_=>L
def QA:T->Bool
 |.tup l=>l.all Se
 |t=>Se t
def RF:T->Bool
 |.lst l=>fZ l
 |t=>J3 t
section
theorem uu:∀{d:List V}{a:Vb}{b:Xy},a.all Se=J->RpL G H d a b->b.flatten=[]/\RpL G m d a b
 |_,_,_,_,.nil=>⟨rfl,.nil⟩
 |_,_,_,h,.cons r q=>by
  rw[Xz,Z1]at h;obtain⟨rfl,e⟩:=wX h.1 r;obtain⟨f,l⟩:=uu h.2 q;exact⟨f,.cons e l⟩
def xZ(p:∀b d,H b=Z (.tup d)->m b=Z (.tup d))(h:QA t=J)(r:Rp G H v t F):F=[]/\Rp G m v t F:=by
 by_cases e:Se t=J
 ·obtain⟨rfl,o⟩:=wX e r;exact⟨rfl,o⟩
 ·cases t with
  |tup l =>
   obtain⟨a,u,Gs,rfl,rfl,s,n⟩:=r.KA;obtain⟨f,q⟩:=uu (h) n;exact⟨f,.tup (p _ _ s) q⟩
  |_=>exact absurd h e
theorem uB(m:∀b e,H b=Z (.tup e)->n b=Z (.tup e)):∀{l:List V}{a:Vb}{d:Xy},a.all QA=J->RpL G H l a d->d.flatten=[]/\RpL G n l a d
 |_,_,_,_,.nil=>⟨rfl,.nil⟩
 |_,_,_,h,.cons r q=>by
  rw[Xz,Z1]at h;obtain⟨rfl,o⟩:=xZ m h.1 r;obtain⟨f,p⟩:=uB m h.2 q;exact⟨f,.cons o p⟩
theorem rL:∀{m:List V}{ts:Vb}{e:Xy},ts.all RF=J->RpL G H m ts e->∀b∈e.flatten,∃f,H b=Z (.lst f)
 |_,_,_,_,.nil=>λb h=>nomatch h
 |_,t :: _,_,h,.cons r q=>by
  rw[Xz,Z1]at h;intro b hb;rw[ZK]at hb;rcases ZW.mp hb with hb | hb
  ·by_cases d:J3 t=J
   ·rw[r.J3 d]at hb;cases hb
   ·cases t with
    |lst l =>
     obtain⟨a,n,Gs,rfl,rfl,p,o⟩:=r.lst_inv;rw[o.J3 (h.1)]at hb;rw[Zj.mp hb];exact⟨n,p⟩
    |_=>exact absurd h.1 d
  ·exact rL h.2 q b hb
end
def iQ(s t:Tx):Int:=match Builtin.Str.occurrences (sx s) (sx t) 0 (sx s).length 1 with
 |i :: _=>(i:Int)
 |[]=>-1
def uq:Val->Vd->Vc
 | (_,.str s),[(_,.str t)]=>Z (.fr,.int (iQ s t))
 |_,_=>L
section
noncomputable def Ep:V->List V->Hp->VK->Prop:=λx b H Q=>∃z y,x=.str z/\b=[.str y]/\Q (.int (match Builtin.Str.occurrences z y 0 z.length 1 with | i :: _=>(i:Int) | []=>-1)) H
def De:Rv X "str.find" Ep:=by
 intro b s M H x j v l Q I f i h;obtain⟨z,y,rfl,rfl,q⟩:=h;obtain⟨t,rfl⟩:=f;obtain⟨u,rfl,g⟩:=vals1 i;obtain⟨d,rfl⟩:=g;exact call_meets F.slot_str_find (W5 s z t) F.entry_str_find (F.args_str_find_2 _ _) (gives_str_find z y t d).meets (⟨.int _,H,I.tok _,⟨_,rfl⟩,q⟩)
def D7:FI G Ep uq:=by
 intro O U o n H x v F l h p m t Q b r f A e k;unfold uq at e;split at e
 ·rename_i i z j y;cases e;obtain⟨g,q,rfl,rfl,d⟩:=(A.rp).one;exact⟨_,_,r.str_inv.1,by rw[d.str_inv.1],bj k (.int _)⟩
 ·cases e
def w_find{apos:Pos}(d:PV G X a ca)(f:Lc G X [e] cs)(g:{`q2,X.K=G.K})(i:{`q2,XAA a "find" X.env (eval a X.env)=eval a X.env})(h:{`q2,((backTo pe (P3 [e] X.env)).all (λx=>!x.1)&&(backToKw pe (SL [] X.env)).all (λx=>x.1.isSome)
   && decide ([e].length+([]:List Keyword).length+(if ([]:List Keyword).isEmpty then 0 else 1)<30))=J})(j:{`q2,(apos.endLine==pe.line)=J})(b:{`q2,K1 e [] X})(m:{`q2,(backTo pe (P3 [] X.env)).any (·.1)=B}) :
  PV G X (.Call (.Attribute a "find" apos) [e] [] pe) (eM uq ca cs) :=
 Ei WM PySem.F.slot_str_find PySem.F.type_str_find De D7 (λH v x F l z r e=>oM r (by
  unfold uq at e;split at e
  ·exact⟨_,rfl⟩
  ·cases e)) d f g i h j b m
end
def C6{s:Tx}(h:t <+: s.drop i)(l:i<=s.length)(g:∀j,j<i->¬t <+: s.drop j):iQ s t=(i:Int):=by
 have b:∀k,(k+(sx t).length<=(sx s).length/\Builtin.Str.subAt (sx s) (sx t) k=J)↔k<=s.length/\t <+: s.drop k:=λk=>by
  rw[StrLaws.subAt_eq,cY,cY];show (k+t.length<=s.length/\((s.drop k).take t.length==t)=J)↔_;rw[beq_iff_eq];constructor
  ·rintro⟨m,a⟩;exact⟨by lia,by rw[← a];exact WQ _ _⟩
  ·rintro⟨m,a⟩;have:=a.length_le;rw[Ym]at this;exact⟨by lia,(List.prefix_iff_eq_take.mp a).symm⟩
 have e:Builtin.Str.occurrences (sx s) (sx t) 0 (sx s).length 1=[i]:=by
  rw[StrLaws.occ_eq];have f:List.range' 0 ((sx s).length+1-0)=List.range' 0 i++i :: List.range' (i+1) (s.length-i):=by
   have n:=cY s;rw[show (sx s).length+1-0=i+(s.length-i+1) from by lia,← List.range'_append,Wk];simp
  rw[f,occ_first (sx s) (sx t) _ i ((b i).mpr ⟨l,h⟩) _ _ 0 (λj d q=>?_) (Yk _)];have d:=(Xo.mp d).2;exact g j (by lia) ((b j).mp q).2
 unfold iQ;rw[e]
end VS
end
section
namespace L2
open PySem PySem.Spec PyProof.Rows
def yP{b:Pos}(l:Wa)(h:TriplesOk l)(e:codeAmong a (l++[rawInt b.line,rawInt b.col,c])=Z v):codeAmong a l=Z v\/v=c:=by
 fun_induction TriplesOk l
 ·simp only[YK,rawInt,codeAmong]at e;split at e
  ·cases e;exact .inr Y
  ·cases e
 ·rename_i f;simp only[Xh,codeAmong]at e ⊢;split at e
  ·rename_i d;rw[Zp d];exact .inl e
  ·rename_i d;rw[Zn d];exact f h e
 ·exact h.elim
noncomputable def Bm(d:Wi)(a:UF):Prop:=∃bm b,d "__builtins__" = Z (.ref bm)/\bm≠builtinsNs/\a.get? bm=Z b/\b.cls=.type "module" ∧ b.dict=Z builtinsNs/\b.data=.plain
abbrev Hr(q:Str)(a:Arguments)(d:Expr)(b:Scope)(g:List (Str×On))(e:PP)(c:On)(f:PP):Obj:=PySem.W.kla_obj "<lambda>" q a d b g e c f
section
variable{H:Hp}
def Inv.known{X:Cx}{pins:Z2}{M:St}{s:KB}{o:Obj}{a:UF}{d:Nat}(I:Inv X pins M H { s with heap:=a,toks:=d })(f:o.isFreed=false):Inv X pins M (upd H a.objs.size (.frz o (.own a.objs.size))) { s with heap:=a.push o,toks:=d } :=
 have e:=Zc _ f
 I.laid (λb u e=>Zm _ e) (Zk _) ⟨e,o,e⟩
def Ap(I:Inv X pins M H s)(hq:X.env.qual ++ "<lambda>" = q)(NL:defaultsOf a X.env=([],[]))(Ny:closureFor g X.env=pure Pg)(hc:X.env.code=.ref c)(C:PySem.W.CodeHd X.base c P)(ht:Tb X.base P q)(x:Bm X.mg X.base)(h:∀f i ct oc y l t S s',Inv X pins M S s'->aI H S->S f=Z (.frz (Hr q a j g Pg ((X.mg "__name__").getD .none) i ct) (.own f))->S i=Z (.frz oc (.own y))->oc.data=.fields l->l[1]?=Z (.str q t)->Q (.ref f) s') :
  Pi (KF X.prog X.w) A (eval (.Lambda a j g p) X.env) Q E s:=by
 have D:=I.tb P q ht;obtain⟨ps,e,O,cs⟩:=I.JZ P _ D;have hg:=I.mod.glob.keeps I.bk;have C':=C.keeps I.bk;obtain⟨bm,ob,b1,b2,R,b4,b5,b6⟩:=x;obtain⟨og,_,_,eg,dg,_⟩:=I.mod.glob;have hB:s.heap.BuiltinsAt X.mg P:=⟨bm,ob,b1,b2,(λz=>by rw[z,eg]at R;cases R;rw[dg]at b6;cases b6),(λz=>by have:=(I.bs _ _ R).2;rw[z,D]at this;cases this),I.bk _ _ R,b4,b5,b6⟩
 refine PySem.W.kla_eval NL ?_;rw[hq];cases hf:codeAmong p ps.toList with
 |some v =>
  obtain⟨i,oc,y,l,t,rfl,r2,r3,r4⟩:=cs p v hf;refine PySem.W.kla_makeFunctionHit Ny I.ok.glob hg hc C' e O hf hB λct h' U hk hsz=>?_;have J:=I.kept (t':=U) hk;have hn:=J.JZ.fresh (Zk _);exact h _ i ct oc y l t _ _ (Inv.known J Y) (λb o q=>by rw[aw (aY q hn)];exact q) aq (by rw[aw (aY r2 hn)];exact r2) r3 r4
 |none =>
  refine PySem.W.kla_makeFunction Ny I.ok.glob hg hc C' e O hf (λz=>by have:=(I.bs _ _ eg).2;rw[z,D]at this;cases this) hB λi ct h' U F N Kq XW G=>?_;obtain⟨c2,oc,l,t,e2,Oy,hd,hv⟩:=XW;cases e2;have nP:∀b,H b=L->b≠P:=λb n z=>by rw[z,D]at n;cases n
  have up:∀b o,H b=Z o->upd H i (.frz oc (.own i)) b=Z o:=λb o q=>by rw[aw (aY q (I.JZ.fresh N))];exact q
  suffices J:Inv X pins M (upd H i (.frz oc (.own i))) { s with heap:=h',toks:=U } by
   have SS:=J.JZ.fresh (Zk _);exact h _ i ct oc i l t _ _ (Inv.known J Y) (λb o q=>by rw[aw (aY (up b o q) SS)];exact up b o q) aq (by rw[aw (aY aq SS)];exact aq) hd hv
  refine I.step (ch:=[]) (λb z=>nomatch z) (λb o _ _ _ q n=>F b o (nP b n) q) (λb o _ _ _ q n=>⟨o.slots,F b o (nP b n) q⟩) (λb o _ q n=>by rw[aw ((λb u q=>Zf (ZU (ZY q) N)) b o q)];exact n) (λb o _ q=>?_)
   (λb xs q=>up b _ q) (λb o u q=>up b _ q) (λb n q=>up b _ q) (λm hm=>?_) (λb o q=>?_) I.bare
  ·by_cases x:b=P
   ·exact⟨_,by rw[x];exact G⟩
   ·exact⟨o,F b o x q⟩
  ·obtain⟨o,es,ep,ho,r⟩:=hm;exact⟨o,es,ep,F _ o (nP _ I.free) ho,r⟩
  ·by_cases x:b=i
   ·subst x;rw[aq]at q;cases q;exact⟨Oy,oc,Oy⟩
   ·rw[aw x]at q;by_cases NN:b=P
    ·subst NN;rw[D]at q;cases q;refine⟨_,G,?_,λpos' v r=>?_⟩
     ·rw[Array.toList_append];exact TriplesOk_snoc _ _ _ _ O
     ·rw[Array.toList_append]at r;rcases yP _ O r with r | r
      ·obtain⟨c3,o3,y3,UZ,t3,r1,r2,r3⟩:=cs pos' v r;exact⟨c3,o3,y3,UZ,t3,r1,up _ _ r2,r3⟩
      ·exact⟨i,oc,i,l,t,r,aq,hd,hv⟩
    ·refine(I.JZ b o q).Mh (λd v hd r=>F d v ?_ r) (λd r=>up d _ r) (λd xs r=>up d _ r) λd o y r=>up d _ r;rcases hd with z | z
     ·rw[z];exact NN
     ·intro z';rw[z',D]at z;cases z
end
def BH(X:Cx)(N:List Str)(q:Str)(a:Scope)(f c:On)(b:List (Str×On))(A:SC)(s:KB)(H:Hp):Cx :=
 { X with A:=A.deeper (PySem.W.envX q a s.heap.objs.size f (.ref c) b),N:=N,s₀:=s,H₀:=H,env:=PySem.W.envX q a s.heap.objs.size f (.ref c) b,outer:=X.stack,stack:=PySem.W.envX q a s.heap.objs.size f (.ref c) b :: X.stack,ex:=[],fn:=λ_=>false,calm:=true,pn:=[],xe:=λ_ _=>False }
section
variable{H:Hp}
def Inv.lam{cl:List (Str×On)}{A:SC}{n:UF}{tk:Nat}(I:Inv X pins M H s)(t:iO X.env sc=J)(Ls:kh sc N X.N=J)(Q:sc.names.lookup x=Z .local)(g:∀x c,cl.lookup x=Z c->X.env.cells.lookup x=Z c)(E:∀y∈sc.names,y.2=.free->∃c,cl.lookup y.1=Z c)(NK:A.frames=X.A.frames)(hh:A.handled=L)(O:RelV v u)(MX:n.Ns s.heap.objs.size m)(U:m x=Z u)(a:∀b o,s.heap.get? b=Z o->n.get? b=Z o) :
  Inv (BH X (x :: N) q sc f c cl A s H) [] (Z v :: M) H { s with heap:=n,toks:=tk }:=by
 unfold iO at t;rw[Z1,Za]at t;obtain⟨hk,F⟩:=t;have L9:sc.kind=.function:=by simpa using hk
 obtain⟨hlen,Rh⟩:=rh Ls;refine⟨⟨I.mod,L9,rfl,rfl,Zk _,λx y c e1 e2=>I.ok.inj x y c (g x c e1) (g y c e2),λy P=>E _ (cK ((λy h=>h.elim (λz=>by have:=F _ (cK z);cases this) id) y P)) rfl,λx c e=>(nomatch e),λ_=>hh,Around.frames_deeper (NK.trans I.ok.frames),.inr ⟨rfl,rfl⟩,λb hb=>(nomatch hb),
  I.tb,I.bs,ZJ I.ok.OH I.sz,λb o e hb=>(nomatch hb),λb hb KC=>(nomatch hb),I.stack,I.Mg⟩,rfl,I.bare,Un.kept a,⟨m,MX,λi y w e1 e2 e3=>?_⟩,λy c e=>?_,I.JZ.fresh (Zk _),λy c e=>I.KI y c (g y c e),λp R=>(nomatch R),I.JZ.kept a,?_⟩
 ·cases i with
  |zero =>
   have ex:x=y:=Zh (e1);have ev:v=w:=by simpa using e2
   subst ex ev;exact⟨u,O,.inl ⟨Q,U⟩⟩
  |succ i =>
   have e3:L6 sc y:=e3;rcases Rh i y (by simpa using(show (x :: N)[i+1]?=Z y from e1)) with⟨hX,d⟩ | d | d
   ·have D:X.env.kindOf y=Z .cell\/X.env.kindOf y=Z .free:=by simpa using F _ (cK d)
    obtain⟨mX,S,j⟩:=I.loc;obtain⟨G,r,l⟩:=j _ y w hX (by simpa using e2) (D.elim (λz=>.inr (.inl z)) λz=>.inr (.inr z));obtain⟨c,C⟩:=E _ (cK d) Y;refine⟨G,r,.inr ⟨.inr d,c,C,?_⟩⟩;rcases l with⟨z,_⟩ | ⟨_,c',Lf,MZ⟩
    ·rcases D with q | q<;>(rw[z]at q;cases q)
    ·have:=g y c C;rw[Lf]at this;cases this;exact MZ.keeps a
   ·rcases e3 with z | z | z<;>(rw[d]at z;cases z)
   ·rcases e3 with z | z | z<;>(rw[d]at z;cases z)
 ·obtain⟨v,z⟩:=I.cell y c (g y c e);exact⟨v,z.keeps a⟩
 ·show (Z v :: M).length=(x :: N).length;rw[Zi,Zi,I.len,hlen]
def Ds{A:SC}{Q:VK}(I:Inv X pins M H s)(hp:H f=Z (.frz (Hr q a d sc cl G c P) (.own f)))(Ks:H c=Z (.frz C (.own y)))(RJ:C.data=.fields p)(hv:p[1]?=Z (.str q F))(U:iO X.env sc=true)(Ls:kh sc N X.N=true)(O:sc.names.lookup x=Z .local)(Ma:∀x c,cl.lookup x=Z c->X.env.cells.lookup x=Z c)(Oi:∀y∈sc.names,y.2=.free->∃c,cl.lookup y.1=Z c)(hb:bindArgs (PySem.W.kla_fn "<lambda>" q a d sc cl G (.ref c) P) ⟨[u],[]⟩=pure [(x,u)])(D:sc.isCoroutine=B)(Ra:sc.isGenerator=B)(NK:A.frames=X.A.frames)(hh:A.handled=L)(hd:A.depth<recursionLimit)(ru:RelV v u)(LQ:PE (BH X (x :: N) q sc f c cl A s H) d t)(h:t (Z v :: M) H Q) :
  Pi (KF X.prog X.w) A (call (.ref f) [u]) (λr i=>∃w g,Inv X pins M g i/\RelV w r/\Q w g/\∀b o,jq X pins H b->s.heap.get? b=Z o->i.heap.get? b=Z o/\jq X pins g b) (λ_ _=>False) s:=by
 have m:=U;unfold iO at m;rw[Z1,Za]at m;refine wpAny_call (XA (R:=λr i=>match r with | .ok (.ret u)=>CE X.stack X.prog X.w H s Q u i | _=>False) (PySem.W.kla_callFunE hd (I.JZ f _ hp).1 rfl D Ra rfl (⟨c,C,p,F,rfl,(I.JZ c _ Ks).1,RJ,hv⟩) ?_) λr i j=>?_)
 ·rw[hb];refine Zl (wpAny_newFunctionEnv (λy hy e=>by have:=m.2 y hy;rw[e]at this;cases this) (λz hz=>by rw[Zj.mp hz];exact O) (λh₁ MX S=>⟨I.nolimit.fresh _ S,?_⟩) (by simpa using m.1));have J:=I.lam (N:=N) (q:=q) (x:=x) (f:=f) (c:=c) (A:=A) (tk:=s.toks+([(x,u)]).length) U Ls O Ma Oi NK hh ru MX (by simp) (λb o e=>S.extBut b o (Zf (ZY e)) (Zm _ e));refine PySem.W.kla_codeExpr (YX (LQ [] _ _ H Q J h) (λr i hr=>?_) λ_ _ z=>z.elim);obtain⟨w,g,n,MR,qw⟩:=hr;exact⟨w,g,n.os,n.bare,n.base,n.JZ,MR,qw⟩
 ·cases r with
  |error e=>exact j.elim
  |ok fl =>
   cases fl with
   |ret u =>
    obtain⟨v,g,os,bare,un,JZ,r,q⟩:=j;obtain⟨v2,H2,I2,r2,rfl,rfl,q2⟩:=I.after (Q:=λE Y=>E=v/\Y=g/\Q E Y) ⟨v,g,os,bare,un,JZ,r,rfl,rfl,q⟩;refine⟨v2,H2,I2,r2,q2,λb o l e=>?_⟩;exact⟨un.keep b o e l.1 (λz=>(Zo.mp (I.LL b z)).elim l.2.1 l.2.2.1) (by simp),un.free b o e l.1 (by simp),l.2⟩
   |next=>exact False.elim j
   |brk=>exact False.elim j
   |cont=>exact False.elim j
end
end L2
end
section
open PySem PyProof.Rows
namespace TS
noncomputable def nI:PP->Int
 |.int i _=>i
 |_=>0
theorem ints_in:∀{l:Wa},(∀u∈l,∃i t,u=Value.int i t)->IntsAre l (l.map nI)
 |[],_=>.nil
 |u :: l,h=>by
  obtain⟨i,t,rfl⟩:=h u Zx;exact .cons _ _ (ints_in λv a=>h v (Zy _ a))
end TS
end
section
namespace L2
open PySem PySem.Spec PyProof.Rows
noncomputable abbrev JB(X:Cx)(b:Scope)(a:List (Str×On)):Prop:=(∀x c,a.lookup x=Z c->X.env.cells.lookup x=Z c)/\∀y∈b.names,y.2=.free->∃c,a.lookup y.1=Z c
structure MJ(X:Cx)(q:Str)(params:Arguments)(body:Expr)(sc:Scope)(H:Hp)(f:On):Prop where
 ex:∃cl c ct oc y vs t,JB X sc cl/\H f=some (.frz (Hr q params body sc cl ((X.mg "__name__").getD .none) c ct) (.own f))/\H c=some (.frz oc (.own y))/\oc.data=.fields vs/\vs[1]?=some (.str q t)
section
def MJ.same{H a:Hp}(l:MJ X q params body sc H f)(e:aI H a):MJ X q params body sc a f:=by
 obtain⟨cl,c,ct,oc,y,b,t,i,h,g,d⟩:=l.ex;exact⟨cl,c,ct,oc,y,b,t,i,e _ _ h,e _ _ g,d⟩
def Hl{X:Cx}(m:X.env.qual ++ "<lambda>" = q)(A:defaultsOf params X.env=([],[]))(E:iO X.env sc=J)(o:X.env.code=.ref c)(C:PySem.W.codeHdIn X.K c P=J)(l:Tb X.base P q)(p:Bm X.mg X.base) :
  PE X (.Lambda params body sc pos) (λM H Q=>∀f a,aI H a->MJ X q params body sc a f->Q (.ref f) a):=by
 intro d s M H Q I h;have b:=E;unfold iO at b;rw[Z1,Za]at b;obtain⟨cl,z,D,x⟩:=wB λy j e=>I.ok.has y.1 (by
  have:=b.2 y j;rw[e]at this;simpa using this)
 refine Ap I m A z o (PySem.W.codeHd_of_K I.mod.Su C) l p λf w ct oc y g t a G F i n v u r=>?_;exact⟨.ref f,a,F,rfl,h f a i ⟨cl,w,ct,oc,y,g,t,⟨D,x⟩,n,v,u,r⟩⟩
end
end L2
namespace VS
open PySem PySem.Spec PyProof.Rows L2
section
def SR.under(s:SR G O U M H)(i:Int):SR G (λn=>match n with | 0=>[] | n+1=>O n) (some (.pu (.int i)) :: U) (some (.int i) :: M) H:=by
 refine⟨by rw[Zi,Zi,s.len],λn c h=>?_,λn t h=>?_,λn m t c h d ne a b=>?_⟩
 ·cases n with
  |zero=>cases h;exact⟨_,rfl,.int i⟩
  |succ n=>exact s.rp n c h
 ·cases n with
  |zero=>cases h
  |succ n=>exact s.nd n t h
 ·cases n with
  |zero=>cases h
  |succ n =>
   cases m with
   |zero=>exact λz=>nomatch z
   |succ m=>exact s.sep n m t c h d (λe=>ne (by rw[e])) a b
end
noncomputable def DD:Fn:=λa=>match a with
 |[.scr ns]=>if ns.length<=63 then Z (.fr,.bl J) else L
 |_=>L
section
variable{K:X3}
def C2{G:Gx}(j:G.K=K)(F:FnOk P w K mg base KL k f b [y] (MK G g))(i:∀ns:Vg,ns.length<=63->g [.scr ns]=Z (.fr,.bl J)) :
  FnOk P w K mg base KL k f b [y] (MK (gx0 K) DD):=F.imp λo H Q E h=>by
 obtain⟨p,s,m,r,l,a,q⟩:=h;unfold DD at a;split at a
 ·rename_i ns;split at a
  ·rename_i e;cases a;cases l with
   |cons r1 r2 =>
    cases r2;cases r1 with
    |scr d=>exact⟨[.scr ns],[[]],.fr,.bl J,.cons (.scr (by rw[j];exact d)) .nil,i ns e,λv n F e1 r f1=>q v n F e1 (by cases r;exact .bl _) f1⟩
  ·cases a
 ·cases a
end
end VS
end
section
namespace L2
open PySem PySem.Spec PyProof.Rows
noncomputable abbrev TU:=List (On×On×Str)
noncomputable def zd(a:TU)(b:On):Option Str:=(a.find? λp=>p.2.1==b).map (·.2.2)
def lX(h:zd a b=Z q):∃c,(c,b,q)∈a:=by
 obtain⟨⟨c,P,d⟩,e,rfl⟩:=Zw.mp h;have:=List.find?_some e;cases (eq_of_beq this);exact⟨c,WW e⟩
def yF{K:X3}{f:KB}{i:Wa}(KX:K.In f.heap)(MX:f.heap.Ns mainGlobals A)(hb:f.heap.Ns builtinsNs R)(X:∀x:Str,x ≠ "__name__" → R x=bootBuiltins x)(E:f.heap.NoLimit)(hg:f.gens=#[])(l:f.heap.get? a=Z { cls:=.type "list",data:=.seq i.toArray })(hi:IntsAre i D)(hl:D.length<=KM)(hr:JY k callerA)(U:Bm A f.heap)(G:∀p∈g,PySem.W.CodeHd f.heap p.1 p.2.1/\f.heap.get? p.2.1=Z (PySem.W.tabObj #[]))(hf:∀p∈g,zd g p.2.1=Z p.2.2)(hN:PySem.W.noTabs K=J)(F:∀base:UF,K.In base->base.Ns mainGlobals A->Bm A base->(∀p∈g,Tb base p.2.1 p.2.2)->FnOk P w K A base KL k fa fd [x] sp)(Oj:∀(s:KB)(u:PP),BindsTo s fd ⟨[u],[]⟩ [(x,u)])(PH:∀H:Hp,VS.nk K H a D->sp [.ref a] H (λv _=>v=.bl J) λ_ _ _=>False) :
  codeAny (KF P w) callerA (.call (.ref fa) ⟨[.ref a],[]⟩) (λr t=>r=.ok (.ret (.bool J))/\OldK f.heap t.heap/\t.os=f.os/\AllBare t.gens) f:=by
 have rv:=mK hi;have V1:=hi.length;obtain⟨H,hH⟩:∃H:Hp,H=λb=>if b=a/\K.lookup a=L then Z (.frz { cls:=.type "list",data:=.seq i.toArray } (.lst (D.map V.int))) else (zd g b).map HO.tbl:=⟨_,rfl⟩
 have cs:∀b,H b=L\/(b=a/\K.lookup a=L/\H b=Z (.frz { cls:=.type "list",data:=.seq i.toArray } (.lst (D.map V.int))))\/∃q,zd g b=Z q/\H b=Z (.tbl q):=λb=>by
  rw[hH];dsimp only;split
  ·rename_i z;exact .inr (.inl ⟨z.1,z.2,rfl⟩)
  ·cases e:zd g b with
   |none=>exact .inl Y
   |some q=>exact .inr (.inr ⟨q,rfl,rfl⟩)
 have hP:∀p∈g,H p.2.1=Z (.tbl p.2.2):=λp N=>by
  have e:=hf p N;rw[hH];dsimp only;rw[Zn λz=>(λe z=>by
  obtain⟨c,j⟩:=lX e;have:=(G _ j).2;rw[z,l]at this;cases this) e z.1,e]
  rfl
 have JZ:Lj P w H f.heap:=λb u e=>by
  rcases cs b with z | ⟨rfl,_,z⟩ | ⟨q,e2,z⟩
  ·rw[z]at e;cases e
  ·rw[z]at e;cases e;exact⟨l,by rw[Zt];exact hl,i,_,rv,l⟩
  ·rw[z]at e;cases e;obtain⟨c,j⟩:=lX e2;exact⟨#[],(G _ j).2,trivial,λpos v e=>nomatch e⟩
 have none_of:∀{b:On}{o:Obj},f.heap.get? b=Z o->(b=a->K.lookup a≠L)->o≠PySem.W.tabObj #[]->H b=L:=λ{b o} e n d=>by
  rcases cs b with z | ⟨z1,z2,_⟩ | ⟨q,e2,_⟩
  ·exact z
  ·exact absurd z2 (n z1)
  ·obtain⟨c,j⟩:=lX e2;have:=(G _ j).2;rw[show (c,b,q).2.1=b from rfl,e]at this;cases this;exact absurd Y d
 have Ml:∀{b:On}{o:Obj},f.heap.get? b=Z o->(b=a->K.lookup a≠L)->o≠PySem.W.tabObj #[]->(vf f.heap H).get? b=Z o:=λe n d=>zy e (none_of e n d);have Q:∀{b:On}{m:Wi},f.heap.Ns b m->(vf f.heap H).Ns b m:=λ{b m} ⟨o,es,ep,e,d,r⟩=>⟨o,es,ep,Ml e (λz=>by
  rw[z,l]at e;cases e;cases d) (λz=>by rw[z]at d;cases d),d,r⟩
 have M:=λb o e=>Ml (KX b o e) (λz=>by rw[← z,e];exact λy=>nomatch y) λz=>by
  have C:=Za.mp hN (b,o) (PySem.W.mem_of_lookupK e);subst z;exact absurd (C) ZX
 have hM:Mod K A (vf f.heap H):=⟨M,Q MX,⟨R,Q hb,X⟩,let ⟨mc,h1,C⟩:=E;⟨mc,Q h1,C⟩⟩
 refine XA ((F _ M (Q MX) (by
  obtain⟨bm,ob,b1,b2,b3,b4,b5,O⟩:=U;exact⟨bm,ob,b1,b2,Ml b3 (λz=>by rw[z,l]at b3;cases b3;cases O) (λz=>by rw[z]at O;cases O),b4,b5,O⟩) λp N=>xQ.mpr ⟨hP p N,ZY (G p N).2⟩).run callerA [] f H ⟨[.ref a],[]⟩ [.ref a] [.ref a] _ _ hr (⟨rfl,hM,λb q e=>(xQ.mp e).1,λb o e=>Dj e,XH (yT _ _),trivial,λb hb=>absurd (show b∈([]:Wc) from hb) (by simp),JZ,.of_eq hg⟩) (Oj f (.ref a)) (.cons Y .nil) (PH H (by
  cases S:K.lookup a with
  |some o =>
   have e:=KX a o S;rw[l]at e;cases e;exact .inr ⟨_,i.toArray,_,S,rfl,rfl,rfl,by rw[ZM,V1];exact hl,by simpa using rv⟩
  |none=>exact .inl ⟨{ cls:=.type "list",data:=.seq i.toArray },by rw[hH];exact Zp ⟨rfl,S⟩⟩))) λr t h=>?_
 cases r with
 |error e=>exact h.elim
 |ok fl =>
  cases fl with
  |next=>exact False.elim h
  |brk=>exact False.elim h
  |cont=>exact False.elim h
  |ret u =>
   obtain⟨v,H',os,bare,un,SN,r',q⟩:=h;subst q;obtain rfl:u=Value.bool J:=r';have main:∀b o,f.heap.get? b=Z o->asItWas f.heap t.heap b o/\∃o',t.heap.get? b=Z o':=λb o e=>by
    rcases cs b with z | ⟨rfl,_,z⟩ | ⟨q,e2,z⟩
    ·have:=un.keep b o e z (by intro z;exact absurd (show b∈([]) from z) (by simp)) (by simp);exact⟨.inl this,o,this⟩
    ·obtain⟨e1,_⟩:=SN b _ (un.LS b _ _ z);rw[l]at e;cases e;exact⟨.inl e1,_,e1⟩
    ·obtain⟨c,j⟩:=lX e2;obtain⟨h1,C⟩:=G _ j;obtain⟨ps,e1,_⟩:=SN b _ (un.LK b _ z);rw[C]at e;cases e;exact⟨.inr (.inl ⟨(h1.tab C).isCodeTable,rfl,#[],ps,rfl,by rw[Array.empty_append];exact e1⟩),_,e1⟩
   exact⟨rfl,⟨λb o e=>(main b o e).1,λb o e=>(main b o e).2⟩,os,bare⟩
end L2
namespace VS
open PySem PySem.Spec PyProof.Rows L2
def zH{l:PySem.W.OpenLaw}{q:SB}{i:List Str}{Q:(Wi)->UF->Prop}{d:DefRec}{K:Params->X3}{A:Wc}{e:∀P,A=(K P).map (·.1)}{y:Wc}{x:Str}{k:Nat}{tb:TU}(D:l.most=Z 63)(U:d.params.defaults=[])(C:JY k callerA)(R:∀p∈tb,p.2.1∈y)(E:∀p∈tb,zd tb p.2.1=Z p.2.2)(M:∀P,PySem.W.noTabs (K P)=J)(O:∀P,∀p∈tb,PySem.W.codeHdIn (K P) p.1 p.2.1=J)(F:∀(w:UV)(mg:Wi)(j:On)(h:UF),(K w.params).In h->h.Ns mainGlobals mg->mg d.name=Z (.ref j) →
   ∃fd:Re,(∀(s:KB)(u:PP),BindsTo s fd ⟨[u],[]⟩ [(x,u)])/\∀base:UF,(K w.params).In base->base.Ns mainGlobals mg->Bm mg base->(∀p∈tb,Tb base p.2.1 p.2.2)->FnOk l.prog w (K w.params) mg base KL k j fd [x] (MK (gx0 (K w.params)) DD)) :
  PySem.W.WalkO q i Q (PySem.W.kmHook K A e y).says l.row.toRowW d [] (λf t=>PySem.call f t):=by
 refine Att.uQ D U λw s₀ X mg mb j o pm cd doc a t ns G Y ho hd Ks m S hints hlen hg=>?_;have n:=PySem.W.km_in_of Y;obtain⟨fd,hb,N⟩:=F w mg j _ n G.T.g m;exact yF n G.T.g G.T.b G.T.builtins G.T.nolimit hg S hints (ZJ hlen (by decide)) C G.T.bmain (λp z=>⟨PySem.W.codeHd_of_K n (O _ p z),(PySem.W.km_tabs_of Y) _ (R p z)⟩) E (M _) N hb λH hS=>⟨[.scr ns],[[]],.fr,.bl J,.cons (.scr hS) .nil,Zp hlen,λv H' F _ r _=>r.KJ⟩
end VS
namespace L2
open PySem PySem.Spec PyProof.Rows
def J4.VG{K:X3}(F:J4 K x a e f g)(S:oe N j (ah e))(l:∀d H Q E,i d H Q E->d.length=j.length)(p:∀(A:SC)(outer:List Env)(s:KB)(H:Hp)(d:List V)(Q:VK)(E:XK),JY k (A.deeper (envOfC a (ah e) s.heap.objs.size f g.code))->i d H Q E →
   ∃t,LZ (jC KL P w K m b N a (ah e) f g.code A outer s H E).My (bg e) t/\t { nx:=λ_ u=>Q .non u,rt:=Q } (start N d) H):FnOk P w K m b KL (k+1) f g j i:=by
 obtain⟨oc,v,kV,doc,pm,an,z,ct,y,rfl,lk,r⟩:=F.ex;refine EU lk r S l λA outer s H d Q E n o=>?_;obtain⟨t,h,q⟩:=p A outer s H d Q E n o;exact⟨t,h.My,q⟩
end L2
namespace VS
open PySem PySem.Spec PyProof.Rows L2
section
variable{K:X3}
def Gm(F:J4 K x x a f e)(p:mg x=Z (.ref f))(t:e.code=.ref g)(S:oe N b (ah a))(n:b.length=i)(o:N.length=j)(r:∀(kV doc pm:PP)(an:Option On)(u ct:PP)(d:Wa),d.length=b.length->bindArgs (PySem.W.fnOf x x (d5 a) (bg a) (ah a) .none kV doc pm an u ct) ⟨d,[]⟩=pure (b.zip d))(q:∀(A:SC)(outer:List PySem.Env)(s:KB)(H:Hp)(E:XK),JY k (A.deeper (envOfC x (ah a) s.heap.objs.size f (.ref g)))->gq G (jC KL P w K mg base N x (ah a) f (.ref g) A outer s H E).My (bg a) c) :
  FnAt P w K mg base (k+1) x b G (fn i j c):=by
 refine⟨f,e,F.VG S (λm H Q E h=>Bq n h) λA outer s H m Q E l h=>?_,p,F.kp,F.binds r⟩;rw[t]at l ⊢;exact⟨_,q A outer s H E l,Cd o h⟩
end
end VS
end
section
namespace L2
open PySem PySem.Spec PyProof.Rows TS
section
variable{H:Hp}
def RE(a:Nat->Str)(i j:Nat):Bool:=VX (.inr (a i)) (.inr (a j))
def ID(X:Cx)(a:Z2)(M:St)(H:Hp)(f:On)(l:Vg)(g:Nat->Str):Prop:=∀(i:Nat)(u:PP)(e:KB)(d:Hp),i<l.length->RelV (.int (l.getD i 0)) u->Inv X a M d e->aI H d →
 Pi (KF X.prog X.w) X.A.in1 (call (.ref f) [u]) (λr j=>∃w h,Inv X a M h j/\RelV w r/\(w=.str (g i)/\aI d h)/\∀b o,jq X a d b->e.heap.get? b=Z o->j.heap.get? b=Z o/\jq X a h b) (λ_ _=>False) e
def Inv.tn{a:UF}(e:Inv X pins M H s)(g:jq X pins H I)(k:∀b o,b≠I->s.heap.get? b=Z o->a.get? b=Z o):Inv X pins M H { s with heap:=a,toks:=d } :=
 e.turned k g.1 g.2.1 g.2.2.2.1 g.2.2.2.2.1 g.2.2.2.2.2
def Inv.ints{ns:Vg}(o:Inv X pins M H s)(n:Kb X.K H p (ns.map V.int)):∃a:Wa,a.length=ns.length/\s.heap.IsList p a.toArray/\∀(j:Nat)(v:PP),a.toArray[j]?=Z v->RelV (.int (ns.getD j 0)) v:=by
 obtain⟨a,d,l,_⟩:=o.list n;have e:a.length=ns.length:=by rw[← d.length,Zt]
 refine⟨a,e,l.isList,λj v b=>?_⟩;rw[Wr]at b;have g:j<ns.length:=by rw[← e];exact(Ze.mp b).1
 obtain⟨u,m,h⟩:=d.get (i:=j) (x:=V.int (ns.getD j 0)) (by rw[Zd,Zu g,Zs,Zu g];rfl);rw[m]at b;cases b;exact h
def yn{X:Cx}{ns:Vg}(hc:X.calm=J)(hq:Kb X.K H p (ns.map V.int))(O:S≠I)(SK:p≠I)(C:ID X pins M H f ns key) :
  ∀(k j:Nat)(a:KB)(c:Nat)(l r:PP)(e:Nat)(d:Hp),ns.length-j=k->j<=ns.length->Inv X pins M d a->aI H d->jq X pins d I->jq X pins d S->a.heap.IsListIter I p j->a.heap.get? S=Z (seqObj "list" #[l,r] e)->RelV (.int (ns.getD c 0)) l->RelV (.str (key c)) r →
  (∀v u n,Inv X pins M n u->aI H n->RelV (.int (ns.getD (ST.OI (RE key) k j c) 0)) v->R (.ok (.ret v)) u) →
  codeAny (KF X.prog X.w) X.A (.builtin "min.loop" ⟨[.ref I,.ref f,.ref S],[]⟩) R a:=by
 have K7:(toString "min" ++ toString ".loop" : String) = "min.loop" := by decide
 intro k
 induction k with
 |zero =>
  intro j a c l r e d hk hj i g s N hit hS y D h;obtain⟨q,hl,E,_⟩:=i.ints (p:=p) (g.seq hq);have hn:q.toArray.size=j:=by rw[ZM];lia
  refine Yj X2 ?_;rw[Z7 Yh _];refine(Zv (XD hS Y ?_));refine(Zv (YB ((WR (prog:=X.prog) (w:=X.w) (A:=X.A.in1) (i.ok.hd hc) I p SK q.toArray).done a _ _ ⟨by rw[hn];exact hit,E⟩ λh' tk m=>?_)));refine(Zv ?_);refine Xm (m S _ (λz=>O (Zj.mp z)) hS) Y (Zv (Wt (Zl ?_)));exact h l _ d ((i.tn s λb o hb e=>m b o (λz=>hb (Zj.mp z)) e).tn N λb o hb e=>by rw[X5 _ _ _ _ hb];exact e) g y
 |succ k ih =>
  intro j a c l r e d hk hj i g s N hit hS y D h;have t:j<ns.length:=by omega
  obtain⟨q,hl,E,Rh⟩:=i.ints (p:=p) (g.seq hq);refine Yj X2 ?_;rw[Z7 Yh _];refine(Zv (XD hS Y ?_));refine(Zv (YB ((WR (prog:=X.prog) (w:=X.w) (A:=X.A.in1) (i.ok.hd hc) I p SK q.toArray).item j a _ _ (by rw[ZM,hl];exact t) ⟨hit,E⟩ λv h' tk hP MC m=>?_)));have U:=Rh j v hP;obtain⟨oI,G,Oy,RJ⟩:=id MC.1;refine(?_);refine Zv (YB (Yl (YX (C j v _ d t U (i.tn s λb o hb e=>m b o (λz=>hb (Zj.mp z)) e) g) (λx u he=>?_) λ_ _ z=>z.elim)));obtain⟨w,n,I3,Q,⟨rfl,K6⟩,kp⟩:=he;obtain⟨F,P⟩:=kp _ _ N (m S _ (λz=>O (Zj.mp z)) hS);obtain⟨kI,UN⟩:=kp _ _ s G;obtain⟨T8,rfl⟩:=id Q;obtain⟨tb,rfl⟩:=id D;refine(?_);refine Zv (YB (Yl (Zv (ST.HP (k:=.inr (key j)) (k':=.inr (key c)) Y ⟨T8,rfl⟩ ⟨tb,rfl⟩ ?_))));refine Zv (Yl (YJ ?_));refine Zv (Wt (Zl ?_));unfold ST.OI at h;have eb:VX (.inr (key j)) (.inr (key c))=RE key j c:=rfl;rw[eb];cases hb:RE key j c with
  |false =>
   rw[hb]at h;refine Zv (Wt ?_);rw[K7];exact Zl ⟨YZ Yh _,ih (j+1) _ c l _ e n (by lia) t I3 (g.trans K6) UN P ⟨oI,kI,Oy,RJ⟩ F y D h⟩
  |true =>
   rw[hb]at h;refine Zv (Xm F Y (Zv (Wt ?_)));rw[K7];exact Zl ⟨YZ Yh _,ih (j+1) _ j v _ _ n (by lia) t (I3.tn P λb o hb e=>by rw[X5 _ _ _ _ hb];exact e) (g.trans K6) UN P ⟨oI,by rw[X5 _ _ _ _ (Yy O)];exact kI,Oy,RJ⟩ (get?_update_seq F λ_=>#[v,.str (key j) T8]) U Q h⟩
def zh(a v:PP):argsOk "min" ⟨[a],[(("key" : Str),v)]⟩:=by kernel_rfl
def zj{A:SC}(n:builtinKind h=L)(m:plainId h=J)(o:entryFor table h=Z b)(q:argsOk h ⟨d,i⟩)(j:Pi (KF a w) A.in1 (b ⟨d,i⟩) (λfin g=>match fin with
   |.done f=>(match (Except.ok f:Result) with | .ok (.ret v)=>Q v g | .ok _=>False | .error e=>E e g)
   |.again l=>l.quiet=J/\codeAny (KF a w) A l (λr g=>match r with | .ok (.ret v)=>Q v g | .ok _=>False | .error e=>E e g) g) E s) :
  Pi (KF a w) A (call (.builtin h) d i) Q E s:=by
 refine wpAny_call (codeAny_call_builtin m o ?_);simp only[checkBuiltinCall,n];cases t:Manifest.signature? h with
 |none=>exact Zl j
 |some sig =>
  simp only[by simpa only[argsOk,t] using q];exact Zl j
def vP{X:Cx}{ns:Vg}(C:X.calm=J)(a:Inv X pins M H s)(i:Kb X.K H p (ns.map V.int))(m:0<ns.length)(d:ID X pins M H f ns key)(q:∀h,aI H h->Q (.int (ns.getD (ST.OI (RE key) (ns.length-1) 1 0) 0)) h) :
  Pi (KF X.prog X.w) X.A (call (.builtin "min") [.ref p] [(("key" : Str),.ref f)]) (EP X pins M Q) X.xe s:=by
 have U:(toString "min" ++ toString ".loop" : String) = "min.loop" := by decide
 obtain⟨y,_,g,_⟩:=a.ints i;have N:=Zf (by obtain⟨_,e,_⟩:=g;exact ZY e);refine zj F.kind_min F.plain_min F.entry_min (zh _ _) ?_;refine(?_);refine Zv (Vv (rfl) ?_);refine Zv (Zl ?_);refine Zv (XG g ?_);refine Zv (YA ?_);rw[U];have n:Inv X pins M H { s with heap:=(s.heap.push { cls:=.type "list_iterator",data:=.fields #[.ref p,.int 0 0] }).push { cls:=.type "list",data:=.seq #[] } }:=a.kept (λb o e=>Zm _ (Zm _ e));have G:(s.heap.push { cls:=.type "list_iterator",data:=.fields #[.ref p,.int 0 0] }).objs.size=s.heap.objs.size+1:=size_push' ..;have l:(s.heap.push { cls:=.type "list_iterator",data:=.fields #[.ref p,.int 0 0] }).objs.size≠s.heap.objs.size:=by rw[G];exact Nat.succ_ne_self _
 have E:=a.M0 (Zk _) (a.JZ.fresh (Zk _));have D:((s.heap.push { cls:=.type "list_iterator",data:=.fields #[.ref p,.int 0 0] }).push { cls:=.type "list",data:=.seq #[] }).get? (s.heap.push { cls:=.type "list_iterator",data:=.fields #[.ref p,.int 0 0] }).objs.size=Z (seqObj "list" #[] 0):=Zc _ Y;refine Zl ⟨YZ Yh _,?_⟩;obtain⟨p0,hl,pl,Rh⟩:=n.ints i;refine Yj X2 ?_;rw[Z7 Yh _];refine(Zv (XD D Y ?_));refine(Zv (YB ((WR (prog:=X.prog) (w:=X.w) (A:=X.A.in1) (n.ok.hd C) s.heap.objs.size p N p0.toArray).item 0 _ _ _ (by rw[ZM,hl];exact m) ⟨⟨_,(Zm _ (Zc _ Y)),rfl,rfl⟩,pl⟩ λv h' tk hP MC P=>?_)));have t:=Rh 0 v hP;obtain⟨oI,j,Oy,RJ⟩:=id MC.1;refine(?_);refine Zv (YB (Yl (YX (d 0 v _ H m t (n.tn E λb o hb e=>P b o (λz=>hb (Zj.mp z)) e) (aI.refl _)) (λx s2 he=>?_) λ_ _ z=>z.elim)));obtain⟨w,h,I3,r,⟨rfl,K6⟩,kp⟩:=he;obtain⟨u,O⟩:=kp _ _ (by rw[G];exact a.M0 (Y6 _) (a.JZ.fresh (Y6 _))) (P _ _ (λz=>l (Zj.mp z)) D);obtain⟨kI,UN⟩:=kp _ _ E j;obtain⟨T8,rfl⟩:=id r;refine(Zv ?_);refine Xm u Y ?_;rw[U];exact Zl ⟨YZ Yh _,yn C i l N d (ns.length-1) 1 _ 0 v _ _ h Y m (I3.tn O λb o hb e=>by rw[X5 _ _ _ _ hb];exact e) K6 UN O ⟨oI,by rw[X5 _ _ _ _ (Yy l)];exact kI,Oy,RJ⟩ (get?_update_seq u λ_=>#[v,.str (key 0) T8]) t r λv s3 H3 I4 Lr rv=>⟨_,H3,I4,rv,q H3 Lr⟩⟩
end
end L2
namespace VS
open PySem PySem.Spec PyProof.Rows L2 TS
def JF:T->Option (Vg)
 |.lst l=>jh l
 |_=>L
noncomputable def IV:T->Option Tx
 |.str x=>Z x
 |_=>L
def nN(a:Ex)(U:VS.Env)(i:Int):Option Tx:=(a (Z (.pu (.int i)) :: U)).bind λv=>IV v.2
def OV(k:Int->Tx)(c:Int)(r:Vg):Int:=r.foldl (λc i=>if LX (k i) (k c) then i else c) c
def G5(k:Int->Option Tx):Vg->Vc
 |[]=>L
 |c :: r=>if (c :: r).all (λi=>(k i).isSome)=J then Z (.fr,.int (OV (λi=>(k i).getD []) c r)) else L
def As(b a:Ex):Ex:=λU=>(b U).bind λx=>(JF x.2).bind (G5 (nN a U))
def Cy(k:Nat->Tx)(i j:Nat):RE (λi=>sx (k i)) i j=LX (k i) (k j):=by
 rw[iB];exact decide_eq_decide.mpr (by simp[sx])
def yX(a:Vg)(k:Int->Tx):∀(m j c:Nat),j+m=a.length->a.getD (ST.OI (RE λi=>sx (k (a.getD i 0))) m j c) 0=(a.drop j).foldl (λc i=>if LX (k i) (k c) then i else c) (a.getD c 0):=by
 intro m
 induction m with
 |zero =>
  intro j c h;rw[Wx (by lia)];rfl
 |succ m d =>
  intro j c h;have b:j<a.length:=by lia
  have e:a.getD j 0=a[j]:=by rw[Zs,Zu b];rfl
  unfold ST.OI;rw[d (j+1) _ (by lia),YC b,YD,← e,Cy];congr 1;split<;>rfl
section
def GU{X:Cx}{k0:Nat}{y:Str}{N:List Str}(hr:JY k' X.A)(hk:k0+2<=k')(hm:X.mg "min" = L)(ha:PV G X a ca)(E:∀(f c:On)(cl:List (Str×On))(A:SC)(s:KB)(H:Hp),JY k0 (A.deeper (PySem.W.envX q h s.heap.objs.size f (.ref c) cl))->PV G (BH X (y :: N) q h f c cl A s H) g D)(C:PySem.W.codeHdIn X.K c P=J)(ht:Tb X.base P q)(RM:Bm X.mg X.base)(hg:Gl X "min")(hc:X.calm=J)(hs:K1 a [] X)(hq:X.env.qual ++ "<lambda>" = q)(NL:defaultsOf d X.env=([],[]))(KW:iO X.env h=J)(Ls:kh h N X.N=J)(Ks:X.env.code=.ref c)(hx:h.names.lookup y=Z .local)(hco:h.isCoroutine=B)(Ra:h.isGenerator=B)(Oj:∀(cl:List (Str×On))(pm ct u:PP)(c:On),bindArgs (PySem.W.kla_fn "<lambda>" q d g h cl pm (.ref c) ct) ⟨[u],[]⟩=pure [(y,u)])(S7:backTo pos (P3 [a] X.env)=(B,eval a X.env) :: backTo pos (P3 [] X.env))(K9:(backTo pos (P3 [a] X.env)).any (·.1)=B) :
  PV G X (.Call (.Name "min" p) [a] [⟨Z "key",.Lambda d g h kp,NG⟩] pos) (As ca D):=by
 rintro o s M H Q I ⟨O,U,m,r,sr,e,k⟩;obtain⟨⟨mx,x⟩,ea,e1⟩:=Zz.mp e;obtain⟨ns,S,e2⟩:=Zz.mp e1;obtain⟨l,rfl,el⟩:∃l,x=.lst l/\jh l=Z ns:=by
  have S:=S;cases x with
  |lst l=>exact⟨l,rfl,S⟩
  |_=>cases S
 match ns,el,e2 with
 |n :: j,el,e2 =>
 by_cases K8:(n :: j).all (λi=>(nN D U i).isSome)=J
 ·rw[show G5 (nN D U) (n :: j)=_ from Zp K8]at e2;cases e2;refine Wv (lh I hg hm BJ ?_ (by decide) Y);refine PyProof.Rows.callWith_kw (thn ((bW ha dP hs) pos o s M H (λvs R=>∃b,vs=[.ref b]/\aI H R/\R b=Z (.lst ((n :: j).map V.int))) I ⟨O,U,mx,_,sr,ea,λv H' F e1 e2 e3=>?_⟩) λus s1 ⟨vs,R,I1,r1,b,ev,Kw,hb⟩=>?_) S7 K9 Y Y
  ·obtain⟨b,ys,Gs,rfl,_,hb,rl⟩:=e2.lst_inv;rw[l7 rl el]at hb;exact⟨b,rfl,e1,hb⟩
  ·subst ev;obtain⟨u,rfl,ru⟩:=r1.one;obtain rfl:=(ru)
   refine thn ((DI (Hl hq NL KW Ks C ht RM) Hi) pos o s1 M R (λzs H2=>∃f,zs=[.ref f]/\aI R H2/\MJ X q d g h H2 f) I1 (λf H' sm la=>⟨f,rfl,sm,la⟩)) λws s2 ⟨zs,H2,I2,rz,f,ez,K6,la⟩=>?_;subst ez;cases rz with
   |cons z1 z2 =>
    cases z2;cases z1;refine(?_);refine vP (key:=λi=>sx ((nN D U ((n :: j).getD i 0)).getD [])) hc I2 (Kb.of (K6 _ _ hb)) (Nat.succ_pos _) (λi u s' H3 hi ru I3 Lr=>?_) λH3 Lr=>?_
    ·obtain⟨cl,c',ct,oc,y',vs,t,Ny,hf,Lf,h3,h4⟩:=(la.same Lr).ex;obtain⟨kv,UE⟩:=Yi.mp (Za.mp K8 _ (Z5 (l:=n :: j) (i:=i) (a:=(n :: j).getD i 0) (by rw[Zs,Zu hi];rfl)));obtain⟨⟨mk,tk⟩,ek,UO⟩:=Zz.mp UE;have r2:=JY.in1 (hr.mono hk);refine Ds (N:=N) (x:=y) (Q:=λw H'=>w=.str (sx ((nN D U ((n :: j).getD i 0)).getD []))/\aI H3 H') I3 hf Lf h3 h4 KW Ls hx Ny.1 Ny.2 (Oj _ _ _ _ _) hco Ra Y r2.hd r2.depth ru (E f c' cl _ s' H3 (r2.deeper _)) ⟨_,_,mk,tk,((sr.same Kw).same (K6.trans Lr)).under _,ek,λw H' F sm r _=>⟨?_,sm⟩⟩;rw[UE];unfold IV at UO;split at UO
     ·rename_i z hz;cases UO;rw[show tk=T.str _ from hz]at r;exact r.str_inv.1
     ·cases UO
    ·have:=yX (n :: j) (λi=>(nN D U i).getD []) ((n :: j).length-1) 1 0 (by rw[Zi];lia);rw[this];exact k _ H3 [] ((Kw.trans K6).trans Lr) (.int _) Fp.nil
 ·rw[show G5 (nN D U) (n :: j)=_ from Zn K8]at e2;cases e2
end
end VS
end
section
namespace VS
open PySem PySem.Spec PyProof.Rows L2 TS
theorem jP(x:Int):∀l:Vg,(m9 x l).Perm (x :: l)
 |[]=>.refl _
 |y :: l=>by
  unfold m9;split
  ·exact((jP x l).cons y).trans (.swap x y l)
  ·exact .refl _
theorem eV:∀l:Vg,(fG l).Perm l
 |[]=>.refl _
 |x :: l=>(jP x _).trans ((eV l).cons x)
theorem qC(x:Int):∀l:Vg,l.Pairwise (·<=·)->(m9 x l).Pairwise (·<=·)
 |[],_=>List.pairwise_singleton _ _
 |y :: l,h=>by
  unfold m9;have b:=(Xv.mp h).1;split
  ·refine Xv.mpr ⟨λz a=>?_,qC x l (Xv.mp h).2⟩;rcases Zo.mp ((jP x l).mem_iff.mp a) with rfl | a
   ·lia
   ·exact b z a
  ·refine Xv.mpr ⟨λz a=>?_,h⟩;rcases Zo.mp a with rfl | a
   ·lia
   ·have:=b z a;lia
theorem o6:∀l:Vg,(fG l).Pairwise (·<=·)
 |[]=>.nil
 |x :: l=>qC x _ (o6 l)
def rG{d:Vg}(p:d.Perm l)(w:d.Pairwise (·<=·)):d=fG l :=
 (p.trans (eV l).symm).eq_of_pairwise (λa b _ _ f e=>Int.le_antisymm f e) w (o6 l)
section
theorem xC:∀(l:Vg),RpL G H (l.map V.int) (l.map T.int) (l.map λ_=>[])
 |[]=>.nil
 |i :: l=>.cons (.int _) (xC l)
end
end VS
end
section
namespace VS
open PySem PySem.Spec PyProof.Rows L2
noncomputable def e3(f:Val->Val->Val->Vc)(a b c:Ex):Ex:=λU=>(a U).bind λx=>(b U).bind λy=>(c U).bind λz=>f x y z
end VS
end
section
namespace SI
open PySem PySem.Spec PyProof.Rows TS ST
noncomputable abbrev uh(a:Array Nat):Prop:=∀i j u v:Nat,i<j->a[i]?=Z u->a[j]?=Z v->u<v
theorem ot(f:uh b):∀(fuel lo a:Nat),a-lo<=fuel->lo<=a->a<=b.size->(∀i v,i<lo->b[i]?=Z v->v<j)->(∀i v,a<=i->b[i]?=Z v->j<=v) →
  (∀i v,i<SetTable.below.go b j fuel lo a->b[i]?=Z v->v<j)/\(∀i v,SetTable.below.go b j fuel lo a<=i->b[i]?=Z v->j<=v)/\SetTable.below.go b j fuel lo a<=b.size
 |0,lo,a,r,q,l,h,g=>by
  have e:lo=a:=by lia
  subst e;exact⟨h,g,l⟩
 |n+1,lo,a,r,q,l,h,g=>by
  unfold SetTable.below.go;by_cases p:lo<a
  ·rw[Zp p];have m:(lo+a)/2<b.size:=by lia
   have hg:b[(lo+a)/2]?=Z (b.getD ((lo+a)/2) j):=by
    rw[ZH m];simp[Array.getD,m]
   by_cases d:b.getD ((lo+a)/2) j<j
   ·rw[Zp d];refine ot f n _ a (by omega) (by lia) l (λi v o e=>?_) g;by_cases he:i=(lo+a)/2
    ·subst he;rw[hg]at e;cases e;exact d
    ·exact X7 (f i _ v _ (by lia) e hg) d
   ·rw[Zn d];refine ot f n lo _ (by omega) (by lia) (by exact Y5 m) h (λi v o e=>?_);by_cases he:i=(lo+a)/2
    ·subst he;rw[hg]at e;cases e;exact ZO d
    ·exact ZJ (ZO d) (Y5 (f _ i _ v (by lia) hg e))
  ·rw[Zn p];have e:lo=a:=by lia
   subst e;exact⟨h,g,l⟩
def lj(b:uh a)(j:Nat):(∀i v,i<SetTable.below a j->a[i]?=Z v->v<j)/\(∀i v,SetTable.below a j<=i->a[i]?=Z v->j<=v)/\SetTable.below a j<=a.size :=
 ot b _ 0 _ (by exact Nat.sub_le _ _) (Yk _) (Zk _) (λi v h=>absurd h (Nat.not_lt_zero _)) λi v h e=>by
  rw[Xb h]at e;cases e
def vI(b:uh a):SetTable.below a 0=0:=by
 obtain⟨e,f,d⟩:=lj b 0;rcases Nat.eq_zero_or_pos (SetTable.below a 0) with h | h
 ·exact h
 ·have:=e 0 _ h (ZH (by exact ZU h d));lia
def vt(f:uh d)(e:d[i]?=Z v):SetTable.below d (v+1)=i+1:=by
 obtain⟨m,l,j⟩:=lj f (v+1);rcases Nat.lt_trichotomy (SetTable.below d (v+1)) (i+1) with h | h | h
 ·have:=l i v (by exact Vq h) e;lia
 ·exact h
 ·have g:=ZH (by exact ZU h j);have a:=m (i+1) _ h g;have b:=f i (i+1) v _ (by exact Z3 _) e g;lia
def ka{α:Type}{a:Array α}{x:α}(f:p<=a.size)(i:Nat):(SetTable.insertAt a p x)[i]?=if i<p then a[i]? else if i=p then Z x else a[i-1]?:=by
 unfold SetTable.insertAt;rw[Array.getElem?_append];simp only[Array.size_push,Array.size_extract,YM f,Nat.sub_zero];by_cases b:i<p
 ·rw[Zp (by exact Yq b),Zp b,Array.getElem?_push,Zn (by simp;lia),Array.getElem?_extract];simp;lia
 ·rw[Zn b];by_cases d:i=p
  ·rw[Zp (by lia),Zp d,Array.getElem?_push,Zp (by simp;lia)]
  ·rw[Zn (by lia),Zn d,Array.getElem?_extract];have e:p+(i-(p+1))=i-1:=by lia
   rw[e];by_cases g:i-1<a.size
   ·rw[Zp (by simp;lia)]
   ·rw[Xb (by exact ZO g)];simp
def zz(o:uh d)(x:d[SetTable.below d j]? ≠ Z j):uh (SetTable.insertAt d (SetTable.below d j) j):=by
 obtain⟨w,t,y⟩:=lj o j;have s:∀i v,SetTable.below d j<=i->d[i]?=Z v->j<v:=λi v p e=>by
  rcases Vx (t i v p e) with h | h
  ·exact h
  ·subst h;rcases Vx p with q | q
   ·have g:=ZH (by
     have:=(XQ.mp e).1;exact WZ p this)
    exact WZ (t _ _ (Zk _) g) (o _ _ _ _ q g e)
   ·rw[← q]at e;exact absurd e x
 intro a b u v z l f;rw[ka y]at l f;by_cases n:a<SetTable.below d j
 ·rw[Zp n]at l;by_cases r:b<SetTable.below d j
  ·rw[Zp r]at f;exact o a b u v z l f
  ·rw[Zn r]at f;by_cases m:b=SetTable.below d j
   ·rw[Zp m]at f;cases f;exact w a u n l
   ·rw[Zn m]at f;exact X7 (w a u n l) (s (b-1) v (by lia) f)
 ·rw[Zn n]at l;rw[Zn (by lia),Zn (by lia)]at f;by_cases m:a=SetTable.below d j
  ·rw[Zp m]at l;cases l;exact s (b-1) v (by lia) f
  ·rw[Zn m]at l;exact o (a-1) (b-1) u v (by lia) l f
def i7(n:Nat):uh (Array.range n):=λi j u v h e1 e2=>by
 obtain⟨_,a⟩:=XQ.mp e1;obtain⟨_,b⟩:=XQ.mp e2;simp at a b;lia
structure RD(t:SetTable):Prop where
 Va:uh t.place
 dum:t.dummies=#[]
theorem nj{t:SetTable}(d:t.dummies=#[]){h:Int}:∀(fuel:Nat)(p:SetTable.Probe),p.dummy=L->SetTable.probe.go t f h fuel p=Z (.empty j g)->g=L/\t.place[SetTable.below t.place j]? ≠ Z j
 |0,p,_,e=>by cases e
 |n+1,p,b,e=>by
  unfold SetTable.probe.go at e;split at e
  ·rename_i a;cases e;refine⟨b,λq=>?_⟩;unfold SetTable.slot at a;dsimp only at a;rw[q]at a;simp at a
  ·rename_i a;unfold SetTable.slot at a;dsimp only at a;rw[d]at a;split at a
   ·cases a
   ·simp[SetTable.has]at a
  ·split at e
   ·cases e
   ·exact nj d n _ (by
   unfold SetTable.advance;split
   ·exact b
   ·exact b) e
def Iy(d:RD t)(n:Nat):RD (t.orStandIn n):=by
 unfold SetTable.orStandIn;split
 ·exact d
 ·exact⟨i7 _,rfl⟩
def AA(d:RD t)(f:Array (Int×PP))(h:Int)(x:PP):RD (layNew t f h x).2.1:=by
 unfold layNew;split
 ·rename_i i g a;unfold SetTable.freeSlot SetTable.probe at a;split at a
  ·rename_i j l b;obtain⟨rfl,e⟩:=nj d.dum _ _ Y b;cases a;refine Iy ⟨zz d.Va e,?_⟩ _;show (if SetTable.has t.dummies _=J then _ else _)=_;rw[d.dum];simp[SetTable.has]
  ·cases a
 ·exact⟨i7 _,rfl⟩
def vk{t:SetTable}(h:Array (Int×PP))(n:Nat):RD (relayAll t h n).2.1:=by
 unfold relayAll;split
 ·rename_i s order f;dsimp only;split
  ·obtain⟨ow,w,g⟩:=Zz.mp f;cases g;refine⟨λi j u v r e1 e2=>?_,rfl⟩;rw[Wr]at e1 e2;obtain⟨p,m⟩:=Ze.mp e1;obtain⟨o,l⟩:=Ze.mp e2;rw[← m,← l];exact List.pairwise_iff_getElem.mp (by
    rw[WV];refine List.Pairwise.filterMap _ (R:=(· < ·)) (λa b q x e y d=>?_) WJ;obtain⟨_,_,rfl⟩:=Zw.mp e;obtain⟨_,_,rfl⟩:=Zw.mp d;exact q) i j p o r
  ·exact⟨i7 _,rfl⟩
 ·exact⟨i7 _,rfl⟩
def intKind_is(a:SB)(w:UV)(x:Int)(b:Tok):(intKind a w).is x (.int x b)=J:=by
 show Value.isInt x (.int x b)=J;simp[Value.isInt]
structure TbI(w:UV)(n:Nat)(t:SetTable):Prop where
 fit:t.fits n=true
 led:t.led=!OG w
 rd:RD t
noncomputable def T4(w:UV)(l:List (Int×PP)):Prop:=∀e∈l,∃x a,e=(hashInt x,Value.int x a)
def nm(l:List (Int×PP)):Vg:=l.map λe=>nI e.2
structure Ts(w:UV)(h:UF)(a:On)(ss:Vg)(es:Array (Int×PP))(ep:Nat)(t:SetTable):Prop where
 at_:h.get? a=some { cls:=.type "set",dict:=none,data:=.set es ep t }
 tb:TbI w es.size t
 OE:T4 w es.toList
 pm:(nm es.toList).Perm ss
 nd:ss.Nodup
 Lq:es.size<scanBound
def T4.of(h:T4 w l):ElemsOf (intKind prog w) l:=λe he=>by
 obtain⟨x,a,rfl⟩:=h e he;exact⟨⟨x,intKind_is prog w x a,rfl⟩,rfl⟩
def B4(h:T4 w l)(he:e∈l){k:Int}:(intKind prog w).is k e.2=J↔nI e.2=k:=by
 obtain⟨x,b,rfl⟩:=h e he;constructor
 ·intro a;obtain⟨u,e⟩:=Value.isInt_shape (show Value.isInt k (.int x b)=J from a);cases e;rfl
 ·intro a;cases a;exact intKind_is prog w _ b
def A6{s:KB}{x:Int}(T:Ts w s.heap a l p ep t)(hr:l.length+1<scanBound)(h:∀n Kj Mj Om t' b,Heap.SameBut a s.heap n->Ts w n a Kj Mj Om t'->(∀y,y∈Kj↔y∈l\/y=x)->Kj.length<=l.length+1->Q b { s with heap:=n }) :
  Pi (KF prog w) A (setAddHashed a (.int x i) (hashInt x)) Q E s:=by
 have D:=T.OE.of (prog:=prog);refine Yl (Zv (Xk T.at_ Y T.tb.fit ?_));dsimp only;rw[byScan_of Y T.Lq D,Zp Y];refine Zv (Zv (wpAny_rule (Zv (wpAny_setScan_of (intKind_is prog w x i) T.at_ Y T.tb.fit D ?_))));cases M:List.findIdx? (λe=>(intKind prog w).is x e.2) p.toList with
 |some j =>
  obtain⟨hj,U,_⟩:=List.findIdx?_eq_some_iff_getElem.mp M;refine Zl (Zl ?_);exact h s.heap l p ep t _ (Heap.SameBut.refl a s.heap) T (λy=>⟨.inl,λz=>z.elim id λe=>e ▸ (T.pm.mem_iff.mp (ZV.mpr ⟨_,ZC hj,(B4 T.OE (ZC hj)).mp U⟩))⟩) (Y6 _)
 |none =>
  have hx:x∉l:=λC=>by
   obtain⟨e,he,q⟩:=ZV.mp (T.pm.mem_iff.mpr C);have:=List.findIdx?_eq_none_iff.mp M e he;rw[(B4 T.OE he).mpr q]at this;cases this
  have N:=layNew_perm t p (hashInt x) (.int x i);have Oh:=layNew_fits t p (hashInt x) (.int x i);have QY:=D6 t p (hashInt x) (.int x i);have UD:=AA T.tb.rd p (hashInt x) (.int x i);generalize layNew t p (hashInt x) (.int x i)=L at N Oh QY UD ⊢;obtain⟨d,O,wd,gv⟩:=L;rw[Array.toList_push]at N;have G:T4 w d.toList:=λe he=>by
   rcases ZW.mp (N.mem_iff.mp he) with q | q
   ·exact T.OE e q
   ·exact⟨x,i,Zj.mp q⟩
  have v:(nm d.toList).Perm (l++[x]):=(N.map _).trans (by
   rw[Z8];exact T.pm.append_right _)
  have P:d.size=l.length+1:=by
   have:=v.length_eq;simpa[nm] using this
  have Rm:d.size<scanBound:=by rw[P];exact hr
  have fin:∀(u:Array (Int×PP))(Tt:Nat)(t2:SetTable)(n:UF)(b:Bool),u.toList.Perm d.toList->t2.fits u.size=J->t2.led=t.led->RD t2->Heap.SameBut a s.heap n →
    n.get? a=Z { cls:=.type "set",dict:=none,data:=.set u Tt t2 }->Q b { s with heap:=n }:=λu Tt t2 n b S f2 H d2 sb F =>
   h n (l++[x]) u Tt t2 b sb ⟨F,⟨f2,H.trans T.tb.led,d2⟩,λe he=>G e (S.mem_iff.mp he),(S.map _).trans v,(ZL.mpr ⟨T.nd,by simp,λy hy z hz e=>hx (by rw[← Zj.mp hz,← e];exact hy)⟩),by
    rw[← Z9,S.length_eq,Z9];exact Rm⟩ (λy=>by simp) (by simp)
  have rest:∀(t2:SetTable),t2.fits d.size=J->t2.led=t.led->RD t2->Pi (KF prog w) A (do
    storeSet a d t2
    if (!wd&&t2.tooFull)=J then
     let r:=relayAll t2 d (SetTable.grown d.size)
     (match r.2.2 with
      |true=>rule "set.scan.the-table-gave-way"
      |false=>pure ())
     storeSet a r.1 r.2.1
     pure (Z J)
    else pure (Z J)) (λo g=>∃b,o=Z b/\Q b g) E s:=λt2 f2 H d2=>by
   refine Zv (wpAny_storeSet_of T.at_ Y ?_ (WG Rm));have F:(s.heap.update a (Obj.putSet d t2)).get? a=Z { cls:=.type "set",dict:=none,data:=.set d (ep+1) t2 }:=Ys _ T.at_ Y;have Uh:Heap.SameBut a s.heap (s.heap.update a (Obj.putSet d t2)):=Xa ..;by_cases hq:(!wd&&t2.tooFull)=J
   ·rw[Zp hq];have rp:=relayAll_perm t2 d (SetTable.grown d.size);have rf:=relayAll_fits t2 d (SetTable.grown d.size);have rl:=yH t2 d (SetTable.grown d.size);have rr:=vk (t:=t2) d (SetTable.grown d.size);generalize relayAll t2 d (SetTable.grown d.size)=R at rp rf rl rr ⊢;obtain⟨u,t3,X⟩:=R;have st:Pi (KF prog w) A (storeSet a u t3 >>= λ_=>pure (Z J)) (λo g=>∃b,o=Z b/\Q b g) E { s with heap:=s.heap.update a (Obj.putSet d t2) } :=
     Zv (wpAny_storeSet_of F Y (Zl ⟨J,rfl,fin u _ t3 _ _ rp rf (rl.1.trans H) rr (Uh.trans (Xa ..)) (Ys _ F Y)⟩) (WG (by rw[← Z9,rp.length_eq,Z9];exact Rm)))
    cases X with
    |true=>exact Zv (wpAny_rule st)
    |false=>exact Zv (Zl st)
   ·rw[Zn hq];exact Zl ⟨J,rfl,fin d _ t2 _ _ (Xf _) f2 H d2 Uh F⟩
  have out:∀(m:Sem (Option Bool)),Pi (KF prog w) A m (λo g=>∃b,o=Z b/\Q b g) E s->Pi (KF prog w) A m (λo g=>Pi (KF prog w) A (match o with | some added=>pure added | none=>setAddHashedIn a (.int x i) (hashInt x) 99999) Q E g) E s:=λm C =>
   YX C (λo g ⟨b,e,q⟩=>by subst e;exact Zl q) λ_ _ e=>e
  refine out _ ?_;have mid:∀(m:Sem Unit),(∀(s1:KB)(Q1:Unit->KB->Prop),Q1 () s1->Pi (KF prog w) A m Q1 E s1)->∀(f:Unit->Sem (Option Bool)),Pi (KF prog w) A (f ()) (λo g=>∃b,o=Z b/\Q b g) E s->Pi (KF prog w) A (m>>=f) (λo g=>∃b,o=Z b/\Q b g) E s:=λm C f M=>Zv (C s _ M);refine mid _ (λs1 Q1 q1=>by cases gv<;>first | exact Zl q1 | exact wpAny_rule q1) _ ?_;by_cases hp:O.plain=J
  ·rw[Zp hp];refine Zv (Zl ?_);exact rest O Oh QY.1 UD
  ·rw[Zn hp];refine Zv (Zl ?_);exact rest O Oh QY.1 UD
theorem ui{prog:SB}{w:UV}{A:SC}{R:Result->KB->Prop}{I S:On}{fp U:Wc}{G:Array GenState->Array GenState->Prop}{n:Nat}{P:Nat->PP->Prop}{St:Nat->KB->Prop}{l:Vg}(W:WalksS prog w A.in1 I fp U G n P St)(a:S∉fp)(Y:n=l.length)(hP:∀i v,P i v->∃x t,v=.int x t/\l[i]?=Z x)(g:n+1<scanBound) :
  ∀(k i:Nat)(s:KB)(d:Vg)(m:Array (Int×PP))(p:Nat)(t:SetTable),i+k=n->St i s->Ts w s.heap S d m p t->(∀y,y∈d↔y∈l.take i)->d.length<=i →
   (∀f j Q O q,Moved (S :: U) G s f->Ts w f.heap S j Q O q->(∀y,y∈j↔y∈l)->j.length<=n->R (.ok (.ret .none)) f) →
   codeAny (KF prog w) A (.builtin "set.update.loop" ⟨[.ref S,.ref I],[]⟩) R s
 |0,i,s,d,m,p,t,hk,st,T,D,hl,M=>by
  have hi:i=n:=by omega
  subst hi;refine Yj F.entry_set_update_loop ?_;rw[Z7 Vl];refine Zv (W.done s _ _ st λf mv=>Zl (M f d m p t (mv.mono λb g=>Zy _ g) ⟨mv.heap S _ (λh=>a (W.sub _ h)) T.at_,T.tb,T.OE,T.pm,T.nd,T.Lq⟩ (λy=>?_) hl));rw[D y,Y,List.take_length]
 |k+1,i,s,d,m,p,t,hk,st,T,D,hl,M=>by
  refine Yj F.entry_set_update_loop ?_;rw[Z7 Vl];refine Zv (W.item i s _ _ (by lia) st λv s1 pv r mv=>?_);obtain⟨x,tk,rfl,hx⟩:=hP i v pv;refine Zv (Yl ?_);refine Yl (Zv (wpAny_pyHash_int (A6 (⟨mv.heap S _ (λh=>a (W.sub _ h)) T.at_,T.tb,T.OE,T.pm,T.nd,T.Lq⟩) (by lia) λh' j Q O q b X T2 QW MY=>?_)));refine Zl ⟨YZ Vl _,ui W a Y hP g k (i+1) _ j Q O q (by lia) (W.frame _ s1 _ _ r (Y6 _) λc H o e=>?_) T2 (λy=>?_) (by lia) λs2 u OC Tt t2 z T3 C Pc=>?_⟩
  ·rw[X.2 c λN=>a (N ▸ H)];exact e
  ·rw[QW y,D y,List.take_add_one,hx,ZW];simp
  ·refine M s2 u OC Tt t2 (Moved.trans W.gtrans (Moved.then_heap (mv.mono λb g=>Zy _ g) (Y6 _) λc o H e=>?_) z) T3 C Pc;rw[X.2 c λN=>H (by rw[N];exact Zx)];exact e
theorem Ts.bare(h:UF):Ts w (h.push (ST.bare w)) h.objs.size [] #[] 0 (.fresh 0 0 (!OG w)) :=
 ⟨Zc _ Y,⟨rfl,rfl,⟨λi j u v _ e=>by simp[SetTable.fresh]at e,rfl⟩⟩,λe he=>by simp at he,Xf _,Yt,by decide⟩
def Ck{A:SC}{s:KB}{u:Vg}(hh:A.handled=L)(X:s.heap.IsList l j)(S:∀(i:Nat)(v:PP),j[i]?=Z v->∃x t,v=.int x t/\u[i]?=Z x)(P:j.size=u.length)(hb:u.length+1<scanBound)(h:∀(p:UF)(M:Nat) ss es ep t,Ts w p s.heap.objs.size ss es ep t->(∀y,y∈ss↔y∈u)->(∀b o,s.heap.get? b=Z o->p.get? b=Z o)->Q (.ref s.heap.objs.size) { s with heap:=p,toks:=M }) :
  Pi (KF prog w) A (call (.type "set") [.ref l]) Q E s:=by
 have f:=F.called_set;obtain⟨c,tl,mro⟩:=f.mro;have made:=f.made;have sub:=f.sub;have nt:=f.notType;have cc:=f.canCreate;refine wpAny_call (codeAny_of_tree (Zl (⟨Code.quiet_builtin _ (by decide +kernel),Yj F.entry_type_call ?_⟩)));rw[Around.under_plain (weight_type_call_type "set" [.ref l] []) Y]
 repeat any_goals first | assumption | wp_step
 refine XA (DY (.ref l) (E:=E) (Q:=λv s1=>v=.ref s.heap.objs.size/\s1={ s with heap:=s.heap.push (bare w) }) ⟨rfl,rfl⟩) λr s1 a=>?_
 match r,a with
 |.error e,a=>exact a
 |.ok (.ret v),⟨e1,e2⟩ =>
  subst e1 e2;have g:=Ts.bare (w:=w) s.heap;have ty:Shared.TypeIs { s with heap:=s.heap.push (bare w) } (.ref s.heap.objs.size) "set" := ⟨_,g.at_,rfl⟩
  have il:=f.init.lookup;have ib:=f.init.bind (.ref s.heap.objs.size)
  repeat any_goals first | assumption | wp_step
  refine XA (codeAny_call_builtin (R:=wants (λv C=>v=.none/\Q (.ref s.heap.objs.size) C) E) f.init.plain F.entry_set_init (check_set_init_1 ty ?_)) λr2 C d=>?_
  ·obtain⟨ol,m,D,nl,n⟩:=X;cases ol;dsimp only at D n;subst D n;have G:=ZY m;have UR:=Zm (bare w) m;have lst:(s.heap.push (bare w)).IsList l j:=⟨_,UR,rfl,nl,rfl⟩
   have n1:=F.sub_list_set;have n2:=F.sub_list_frozenset;unfold Builtin.«set.__init__» noKeywords Builtin.Frozenset.updateFrom;generalize eP:pyIter=itr
   wp_walk
   subst eP;refine XG lst (Zv (wpAny_runValue ?_));refine ui ((WR (by simp[hh]) _ l (by rw[Ya];exact Zf (Yq G)) j).toS) (by
    rw[Ya];simp only[Zo,Xi,or_false,not_or];exact⟨Zf (Z3 _),XO G⟩) P S (by lia) j.size 0 _ [] #[] 0 _ (by exact WK _) ⟨⟨_,Zc _ Y,rfl,rfl⟩,lst.push _⟩ (⟨Zm _ g.at_,g.tb,g.OE,g.pm,g.nd,g.Lq⟩) (by simp) (Zk _) λO Kj Mj Om N mv T U _=>?_
   obtain⟨p,g',d',NX,RB⟩:=O;have e1:g'=s.gens:=mv.gens;have e2:d'=s.drawn:=mv.drawn;have e3:RB=s.os:=mv.os;subst e1 e2 e3;refine Zl (Zl ⟨rfl,h p NX Kj Mj Om N T U λb o e=>mv.heap b o (λz=>?_) (Zm _ (Zm _ e))⟩);have H:=ZY e;rw[Ya]at z;simp only[Zo,Xi,or_false]at z;rcases z with q | q
   ·exact Zf H q
   ·exact Zf (Yq H) q
  ·match r2,d with
   |.error e,d=>exact d
   |.ok (.ret v),⟨e1,e2⟩ =>
    subst e1
    repeat any_goals first | assumption | wp_step
   |.ok .next,d=>exact d.elim
   |.ok .brk,d=>exact d.elim
   |.ok .cont,d=>exact d.elim
 |.ok .next,a=>exact a.elim
 |.ok .brk,a=>exact a.elim
 |.ok .cont,a=>exact a.elim
end SI
end
section
namespace SI
open PySem PySem.Spec PyProof.Rows TS ST
noncomputable def slt(t:SetTable):Nat->Nat
 |0=>0
 |i+1=>t.place.getD i 0+1
def yq{s:KB}(n:OG w=B)(g:s.heap.get? a=Z (vg b e t))(m:t.fits b.size=J)(l:t.led=J)(o:(!t.plain&&decide (b.size > 1))=B)(Q:Option (PP×Nat)->KB->Prop)(E:Z0)(h:Q (match b[SetTable.below t.place d]?,t.place[SetTable.below t.place d]? with | some (_,x),some j=>some (x,j+1) | _,_=>none) s):Pi (KF prog w) A (setNext a d i e) Q E s:=by
 have f:∀(Q:Bool->KB->Prop),Q B s->Pi (KF prog w) A setsByText Q E s:=λQ q=>Zv (We (Zl (by show Q (OG w) s;rw[n];exact q)));refine Zv (Xk g Y m (Zv (f _ ?_)));rw[Zn ZX];refine(show Pi _ _ (if (!t.plain&&decide (b.size > 1))=J then _ else _) _ _ _ from ?_);rw[Zn (by rw[o];exact ZX)];refine Zv (show Pi _ _ (if (!t.led && !b.isEmpty)=J then _ else _) _ _ _ from ?_);rw[Zn (by rw[l];simp)];exact Zl (Zl h)
def BL{s:KB}(T:Ts w s.heap a ss l M t)(h:∀(I:On)(p:UF) d,(∀b o,s.heap.get? b=Z o->p.get? b=Z o)->Ready prog w s.heap.objs.size a l I { s with heap:=p,drawn:=d }->I<p.objs.size->Q (.ref I) { s with heap:=p,drawn:=d }) :
  Pi (KF prog w) A (pyIter (.ref a)) Q E s:=by
 have D:=T.at_;have Kq:=ZY D;have ty:s.TypeIs (.ref a) "set" := ⟨_,D,rfl⟩
 refine WH ty F.slot_set_iter (Xs F.slot_set_iter ty Dz ?_ (F.args_set_iter_1 _));refine Zv (Zl ?_);refine Zv (Zv (Zv (Xk D Y T.tb.fit (Zl (Zl ?_)))));have u:∀(Q:Bool->KB->Prop)(E:Z0),Q (OG w) s->Pi (KF prog w) A.in1 setsByText Q E s:=λQ E q=>Zv (We (Zl q));refine Zv (Zv (Xk D Y T.tb.fit (Zv (u _ _ (Zl ?_)))));refine(show Pi _ _ (if (!OG w&&(!t.plain&&decide (l.size > 1)))=J then _ else _) _ _ _ from ?_);have fin:∀(first:PP)(m:UF)(d:_),(∀b o,s.heap.get? b=Z o->m.get? b=Z o)->Ready prog w s.heap.objs.size a l m.objs.size { s with heap:=m.push (O0 first 0 a l.size M),drawn:=d } →
   Pi (KF prog w) A.in1 (do
    let e ← setEpoch a
    let v ← newFields "set_iterator" [first,rawInt 0,Value.ref a,rawInt l.size,rawInt e]
    ret v) (λf s'=>∃v,f=.done (.ret v)/\∃T' r,s'.TypeIs v T'/\typeLookup (Value.type T') (Str.ofString "__next__")=pure (Z r)/\Q v s') E { s with heap:=m,drawn:=d }:=λfirst m d kp rd=>by
  refine Zv (wpAny_setEpoch_of (kp _ _ D) Y T.tb.fit (Zv (YA (Zl ⟨_,rfl, "set_iterator",_,⟨_,Zc _ Y,rfl⟩,nV.lookup,?_⟩))));exact h m.objs.size _ d (λb o e=>Zm _ (kp b o e)) rd (by rw[Ya];exact Z3 _)
 have Lh:=Zf Kq;cases hb:OG w with
 |true =>
  rw[Zn (by simp)];refine Zv (Zl (fin (rawInt 0) s.heap s.drawn (λb o e=>e) ⟨(pickOrder (w.params.setOrder a M) l).toList.map (·.2),s.heap.objs.size,(mU _ _).map _,Zk _,Zk _,_,λX G =>
   su (t:=t) (λ_=>rawInt 0) (λ_=>True) (by simp) (by simp) Lh (λ_ _ _ _=>trivial) ?step ?stop,⟨Zm _ D,Zc _ Y,trivial⟩⟩))
  case step =>
   intro i s1 S U n m h2 _ q;have hl:(pickOrder (w.params.setOrder a M) l).size=l.size:=by rw[← Z9,(mU _ l).length_eq,Z9]
   refine j6 G m T.tb.fit h2 (λQ E z=>wG hb m T.tb.fit Q E z) (λx nx e p u g=>?_) λe=>?_
   ·rw[ZH (by lia)]at e;cases e;exact q _ p (by rw[Zd,Yx,ZH (by lia)];rfl) u g
   ·rw[ZH (by lia)]at e;cases e
  case stop =>
   intro s1 S U m h2 _ q;refine j6 G m T.tb.fit h2 (λQ E z=>wG hb m T.tb.fit Q E z) (λx nx e p u g=>?_) λe=>q;rw[Xb (by exact XH (by rw[← Z9,(mU _ l).length_eq,Z9]))]at e;cases e
 |false =>
  by_cases m:t.plain=B/\l.size > 1
  ·rw[Zp (by simp[m.1,m.2])];refine Zv (CM _ _ _ _ (by simp) λq d z=>Zv (YA (fin _ _ d (λb o e=>Zm _ e) ?_) ?_))
   ·have O:q.length=l.size:=by rw[z.length_eq,ZT]
    have N:∀j∈q,j<l.size:=λj hj=>Yc.mp (z.mem_iff.mp hj);refine⟨q.map λj=>((l[j]?).map (·.2)).getD .none,s.heap.objs.size,?_,by rw[Ya];exact Y6 _,Zk _,_,λX G =>
     su (t:=t) (λ_=>.ref s.heap.objs.size) (λh=>h.get? s.heap.objs.size=Z { cls:=.type "tuple",data:=.seq (q.map λ(k:Nat)=>rawInt k).toArray }) (by simp) (by simp)
      (by rw[Ya];exact Zf (Yq Kq)) (λx y e k=>k _ (by simp) (by rw[Ya];exact Zf (Z3 _)) _ e) ?step ?stop,⟨Zm _ (Zm _ D),Zc _ Y,Zm _ (Zc _ Y)⟩⟩
    case step =>
     intro i s1 S U n C H g3 q1;refine oS G C T.tb.fit H g3 Y (λj x e1 e2 p u g=>q1 _ p ?_ u g) (λj e=>N j (Z5 e)) λe=>?_
     ·rw[Zd,e1];simp[e2]
     ·rw[Zu (by lia)]at e;cases e
    case stop =>
     intro s1 S U C H g3 q1;refine oS G C T.tb.fit H g3 Y (λj x e1 e2 p u g=>?_) (λj e=>N j (Z5 e)) λe=>q1;rw[ZF (by exact XH O)]at e1;cases e1
    refine(z.map _).trans (List.Perm.of_eq ?_);apply Wy;intro i;rw[Zd,Zd];by_cases n:i<l.size
    ·rw[Wf n,Yx,ZH n];simp[n]
    ·rw[ZF (by rw[ZT];exact ZO n),Yx,Xb (by exact ZO n)];rfl
   ·show _<=KM;have O:q.length=l.size:=by rw[z.length_eq,ZT]
    have:=WG T.Lq;simp;lia
  ·have UH:(!t.plain&&decide (l.size > 1))=B:=by
    cases hp:t.plain with
    |true=>rfl
    |false=>simpa using ZO λq=>m ⟨hp,q⟩
   rw[Zn (by rw[UH];simp)];have hps:t.place.size=l.size:=by
    have:=T.tb.fit;unfold SetTable.fits at this;simp at this;exact this.1
   have hbs:∀i,i<=l.size->SetTable.below t.place (slt t i)=i:=λi n=>by
    cases i with
    |zero=>exact vI T.tb.rd.Va
    |succ i =>
     refine vt T.tb.rd.Va ?_;rw[ZH (by omega)];simp[Array.getD,show i<t.place.size by omega]
   have P:∀(i:Nat)(s1:KB),i<=l.size->s1.heap.get? a=Z (vg l M t)->∀(X:SC)(Q:Option (PP×Nat)->KB->Prop)(E:Z0),Q (match l[i]?,t.place[i]? with | some (_,x),some j=>some (x,j+1) | _,_=>none) s1 →
     Pi (KF prog w) X (setNext a (slt t i) i M) Q E s1:=λi s1 n g X Q E z=>yq hb g T.tb.fit (by rw[T.tb.led,hb];rfl) UH Q E (by rw[hbs i n];exact z)
   refine Zv (Zl (fin (rawInt 0) s.heap s.drawn (λb o e=>e) ⟨l.toList.map (·.2),s.heap.objs.size,Xf _,Zk _,Zk _,_,λX G =>
    su (t:=t) (λi=>.int ((slt t i:Nat):Int) 0) (λ_=>True) (by simp) (by simp) Lh (λ_ _ _ _=>trivial) ?step ?stop,⟨Zm _ D,Zc _ Y,trivial⟩⟩))
   case step =>
    intro i s1 S U n C H _ q;have R:t.place[i]?=Z (t.place.getD i 0):=by
     rw[ZH (by omega)];simp[Array.getD,show i<t.place.size by omega]
    refine j6 G C T.tb.fit H (P i s1 (Y5 n) C _) (λx nx e p u g=>?_) λe=>?_
    ·rw[ZH n,R]at e;cases e;exact q _ p (by rw[Zd,Yx,ZH n];rfl) u g
    ·rw[ZH n,R]at e;cases e
   case stop =>
    intro s1 S U C H _ q;refine j6 G C T.tb.fit H (P l.size s1 (Zk _) C _) (λx nx e p u g=>?_) λe=>q;rw[Xb (by exact Zk _)]at e;cases e
def CD{A:SC}{s:KB}(hh:A.handled=L)(T:Ts w s.heap a D n X t)(h:∀(S:UF) d (tk:Nat) (z:Wa),(∀b o,s.heap.get? b=Z o->S.get? b=Z o)->(∀v∈z,∃x u,v=Value.int x u)->(z.map nI).Perm D->R z { s with heap:=S,drawn:=d,toks:=tk }) :
  Pi (KF prog w) A (collect (.ref a)) R E s:=by
 have P:=T.at_;have Kq:=ZY P;have hz:=WG T.Lq;refine Zv (wpAny_runValue (Yj entry_proto_collect' ?_));rw[Z7 PySem.F.plain_proto_collect];refine Zv (YA (Zl ⟨YZ PySem.F.plain_list_iadd _,Yj entry_list_iadd' ?_⟩));rw[Z7 PySem.F.plain_list_iadd];refine(show Pi _ A.in1 (Builtin.List.listExtendWith (.ref s.heap.objs.size) (.ref a) (.ref s.heap.objs.size)) _ _ _ from ?_);have M:Ts w (s.heap.push { cls:=.type "list",data:=.seq ([]).toArray }) a D n X t:=⟨Zm _ P,T.tb,T.OE,T.pm,T.nd,T.Lq⟩
 refine Zv (wpAny_typeOf (⟨_,M.at_,rfl⟩) ?_);rw[Zn (by
  have:Builtin.List.listSameRef (.ref s.heap.objs.size) (.ref a)=B:=by simp[Builtin.List.listSameRef];exact XO Kq
  rw[this];decide)]
 refine Zv (BL M λI h1 d kp rd hI=>?_);obtain⟨ord,p,N,G,O9,St,W,st⟩:=rd;refine Zv (Yl (Ca (⟨_,kp _ _ M.at_,rfl⟩) ?_));have l:=ZU (by rw[Ya];exact Z3 _) G;have off:s.heap.objs.size∉[I,a,p]:=by
  simp only[Zo,Xi,or_false,not_or];exact⟨Zf l,XO Kq,Zf (ZU (by rw[Ya];exact Z3 _) O9)⟩
 have W1:=W A.in1 hh;have loop:∀(g:UF)(c:Nat),(∀b o,b≠s.heap.objs.size->h1.get? b=Z o->g.get? b=Z o)->g.get? s.heap.objs.size=Z { cls:=.type "list",data:=.seq #[] c } →
   codeAny (KF prog w) A (.builtin "list.extend.loop" ⟨[.ref s.heap.objs.size,.ref I,.ref s.heap.objs.size],[]⟩) (λr f=>∃acc y,r=.ok (.ret (.ref s.heap.objs.size))/\f.heap.get? s.heap.objs.size=Z { cls:=.type "list",data:=.seq acc y }/\R acc.toList f) { s with heap:=g,drawn:=d }:=λg c m j=>by
  refine codeAny_extend_loopS W1 hz s.heap.objs.size off _ n.size 0 _ #[] c Y (Yk _) (W1.frame 0 _ g s.toks st (Zk _) λb hb o e=>m b o (λq=>off (q ▸ hb)) e) j (ItemsOf.nil _) λf acc y mv H Q=>⟨acc,y,rfl,H,?_⟩
  obtain⟨h3,g3,d3,C,os3⟩:=f;have e1:=mv.gens;have e2:d3=d:=mv.drawn;have e3:=mv.os;subst e1 e2 e3;have Tw:acc.toList=ord:=by
   apply Wy;intro i;rw[Yx];cases e:acc[i]? with
   |some v=>exact(Q.2 i v e).symm
   |none =>
    have h5:ord.length=n.size:=by rw[N.length_eq];simp
    exact(ZF (by rw[h5,← Q.1];exact(Array.getElem?_eq_none_iff.mp e))).symm
  refine h h3 d3 C acc.toList (λb o e=>?_) (λv O=>?_) ?_
  ·have hb:=ZY e;refine mv.heap b o (λLa=>?_) (m b o (Zf hb) (kp b o (Zm _ e)));simp only[Zo,Xi,or_false]at La;rcases La with q | q
   ·exact Zf hb q
   ·exact Zf (X7 hb l) q
  ·rw[Tw]at O;obtain⟨e,he,rfl⟩:=ZV.mp (N.mem_iff.mp O);obtain⟨x,u,rfl⟩:=T.OE e he;exact⟨x,u,rfl⟩
  ·rw[Tw];refine(N.map nI).trans (List.Perm.trans (List.Perm.of_eq ?_) T.pm);rw[ZD];rfl
 have U:=kp _ _ (Zc _ Y);rw[Zp (by decide)];have j:=Ys (Obj.mapSeq (·.push Value.none)) U Y;refine Zv (wpAny_rule (Zv ?_));refine(?_);refine Zv (Xm U Y (Xm j Y (Zl ⟨YZ PySem.F.plain_extend_loop _,(λg c m j =>
  XA (loop g c m j) (R':=λr f=>match r with | .ok (.ret v)=>Pi (KF prog w) A (match v with | .ref a=>load a >>= λo=>(match o.data with | .seq xs _=>pure xs.toList | _=>unsupported "internal:collect") | _=>unsupported "internal:collect") R E f | .ok _=>False | .error e=>E e f) λr f hq=>by
   obtain⟨acc,y,e,H,q⟩:=hq;subst e;exact Zv (wpAny_load H (Zl q))) _ _ (λb o hb e=>?_) (Ys (Obj.mapSeq (·.pop)) j Y)⟩)))
 exact(Yz _ _ (Yy hb)).trans ((Yz _ _ (Yy hb)).trans e)
end SI
namespace TS
open PySem PySem.Spec PyProof.Rows
theorem in_of:∀{l:Wa}{ns:Vg},IntsAre l ns->l.map nI=ns/\∀v∈l,∃x t,v=Value.int x t
 |_,_,.nil=>⟨rfl,λv h=>by cases h⟩
 |_,_,.cons x t r=>⟨by rw[Zg,(in_of r).1];rfl,λv h=>by
   rcases Zo.mp h with rfl | h
   ·exact⟨x,t,rfl⟩
   ·exact(in_of r).2 v h⟩
def qb{A:SC}(u:∀(l:SC)(z:Z0),l.handled=A.handled->Pi (KF prog w) l (collect x) (λa s1=>(∀v∈a,∃x t,v=Value.int x t)/\a.length<64/\∀(out:Wa)(d:UF)(e:Nat),(∀v∈out,∃x t,v=Value.int x t)->(out.map nI).Perm (a.map nI)->(out.map nI).Pairwise (·<=·)->(∀b o,s1.heap.get? b=Z o->d.get? b=Z o)->d.get? s1.heap.objs.size=Z (seqObj "list" out.toArray e)->Q (.ref s1.heap.objs.size) { s1 with heap:=d }) z s) :
  Pi (KF prog w) A (call (.builtin "sorted") [x]) Q E s:=by
 refine Calls.call_function_entry kind_sorted plain_sorted entry_sorted (args_sorted1 _) (?_);refine Zv (Zl (Zv (YX (u A.in1 (λ_ _=>False) Y) ?_ λ_ _ e=>e.elim)));rintro g s1 ⟨m,y,h⟩;refine Zv (wpAny_newList ?_ (by rw[XX];omega));have f:(s1.heap.push (seqObj "list" g.toArray 0)).get? s1.heap.objs.size=Z (seqObj "list" g.toArray 0):=Zc _ Y;refine Zv (Yl (Xs slot_list_sort ⟨_,f,rfl⟩ entry_list_sort (list_sort_tree f (ints_in m) y λout C r q p=>⟨_,rfl,?_⟩) (args_list_sort _)));obtain⟨e,he⟩:=sortedHeap_at f;obtain⟨j,n⟩:=in_of r;refine Zl ⟨_,rfl,h out.toList _ e n (by rw[j];exact q) (by rw[j];exact p) (λb o i=>by
  have hb:=ZY i;rw[sortedHeap_old (Zf hb) (by rw[size_push'];exact Yq hb),Heap.get?_push_ne _ _ _ (Zf hb)];exact i) he⟩
end TS
namespace L2
open PySem PySem.Spec PyProof.Rows TS
section
noncomputable def Aj(w:UV)(a:On)(d:Vg):HO:=.ext λ_ h=>∃b e f t,SI.Ts w h a b e f t/\∀y,y∈b↔y∈d
theorem o8:∀{ns:Vg}{a:Wa},aQ (ns.map V.int) a->(∀v∈a,∃x t,v=Value.int x t)/\a.map nI=ns
 |[],_,.nil=>⟨λv h=>(by cases h),rfl⟩
 |n :: ns,_,.cons ⟨t,e⟩ r=>⟨λv h=>by
   rcases Zo.mp h with rfl | h
   ·exact⟨n,t,e⟩
   ·exact(o8 r).1 v h,by rw[Zg,(o8 r).2,e];rfl⟩
def zr{X:Cx}(z:X.calm=J):dA X (.type "set") (λe H Q=>∃p,∃b:Vg,e=[.ref p]/\Kb X.K H p (b.map V.int)/\b.length+1<scanBound/\∀l,H l=L->Q (.ref l) (upd H l (Aj X.w l b))):=by
 intro g s M H e S Q I j h;obtain⟨p,b,rfl,r,hb,q⟩:=h;obtain⟨u,rfl,m⟩:=j.one;cases m;obtain⟨Y,f,n,hz⟩:=I.list r;obtain⟨o,C⟩:=o8 f;refine SI.Ck (I.ok.hd z) n.isList (λi v d=>?_) (by simpa using(by have:=f.length;simpa using this.symm)) hb λA U R P D t T y kp=>?_
 ·rw[Wr]at d;obtain⟨x,t,rfl⟩:=o v (Z5 d);refine⟨x,t,rfl,?_⟩;rw[← C,Zd,d];rfl
 ·refine⟨.ref s.heap.objs.size,_,I.laid kp (Zk _) (show da X.prog X.w _ A _ (Aj X.w s.heap.objs.size b) from⟨⟨R,P,D,t,T,y⟩,⟨_,T.at_⟩,λh1 h2 ⟨O,N,G,F,a,E⟩ k=>⟨O,N,G,F,⟨k _ a.at_,a.tb,a.OE,a.pm,a.nd,a.Lq⟩,E⟩⟩),rfl,q _ (I.JZ.fresh (Zk _))⟩
def m7{X:Cx}(F:X.calm=J):dA X (.builtin "sorted") (λj H Q=>∃p,∃f:Vg,j=[.ref p]/\H p=Z (Aj X.w p f)/\(∀a:Vg,a.Nodup->(∀y,y∈a↔y∈f)->a.length<64) ∧
  ∀(l:On)(a:Vg),H l=L->a.Nodup->(∀y,y∈a↔y∈f)->a.Pairwise (·<=·)->Q (.ref l) (upd H l (.lst (a.map V.int)))):=by
 intro b s M H j U Q I x h;obtain⟨p,f,rfl,E,R,q⟩:=h;obtain⟨u,rfl,z⟩:=x.one;cases z;obtain⟨⟨v,Y,ep,t,T,n⟩,_,_⟩:=I.JZ p _ E;refine TS.qb λA' E' G=>SI.CD (G.trans (I.ok.hd F)) T λP d r m kp D g=>?_;have o:Inv X b M H { s with heap:=P,drawn:=d,toks:=r }:=(I.kept kp).drew d;have N:m.length<64:=by
  have:=R (m.map nI) ((g.nodup_iff).mpr T.nd) λy=>(g.mem_iff).trans (n y);simpa using this
 refine⟨D,N,λout O e C i A S he=>?_⟩;exact⟨.ref _,_,o.laid S (Zk _) (show da X.prog X.w _ O _ (.lst ((out.map nI).map V.int)) from⟨(by rw[Zt,i.length_eq,Zt,XX];omega),out,e,mK (ints_in C),he⟩),rfl,q _ _ (o.JZ.fresh (Zk _)) (((i.trans g).nodup_iff).mpr T.nd) (λy=>((i.trans g).mem_iff).trans (n y)) A⟩
end
end L2
namespace VS
open PySem PySem.Spec PyProof.Rows L2
section
noncomputable def jo:Vg->Vg
 |[]=>[]
 |a :: l=>a :: (jo l).filter (· ≠ a)
theorem jE:∀(l:Vg)(x:Int),x∈jo l↔x∈l
 |[],x=>by simp[jo]
 |a :: l,x=>by
  simp only[jo,Zo,Yp,jE l x,ne_eq,decide_not,Bool.not_eq_eq_eq_not,Bool.not_true,decide_eq_false_iff_not];by_cases h:x=a
  ·simp[h]
  ·simp[h]
theorem kX:∀(l:Vg),(jo l).Nodup
 |[]=>by simp[jo]
 |a :: l=>by
  simp only[jo,Zb];exact⟨by simp,(kX l).filter _⟩
def iR:Vd->Vc
 |[(_,.lst l)]=>(jh l).bind λns=>if ns.length+1<4096/\(jo ns).length<64 then Z (.fr,.lst ((fG (jo ns)).map .int)) else L
 |_=>L
def lJ{X:Cx}(D:X.mg "sorted" = L)(QW:X.mg "set" = L)(N:Lc G X [e] cs)(E:{`q2,Gl X "sorted"})(Y:{`q2,Gl X "set"})(P:{`q2,X.K=G.K})(o:{`q2,X.calm=J})(he:{`q2,K1 e [] X})(S:{`q2,P3 [.Call (.Name "set" p2) [e] [] pos'] X.env=(B,eval (.Call (.Name "set" p2) [e] [] pos') X.env) :: P3 [] X.env}) :
  PV G X (.Call (.Name "sorted" p) [.Call (.Name "set" p2) [e] [] pos'] [] pos) (eN iR cs):=by
 refine PE.weak (pI (m7 o) E D qc (bW (qh (zr o) Y QW Gv N (he:=he)) dP S)) λM H Q ⟨O,U,m,t,s,d,k⟩=>?_;obtain⟨l,R,d⟩:=Zz.mp d;refine⟨O,U,l,s,R,λvs j Fs s1 r1 f1=>?_⟩;unfold iR at d;split at d
 ·rename_i mx x;obtain⟨ns,e1,e2⟩:=Zz.mp d;split at e2
  ·rename_i hb;cases e2;obtain⟨v,F,rfl,rfl,z⟩:=(r1).one;obtain⟨a,ys,Gs,rfl,rfl,PM,A⟩:=z.lst_inv;have pm:∀b:Vg,b.Nodup->(∀y,y∈b↔y∈ns)->b.Perm (jo ns):=λb g f=>(WY g (kX _)).mpr λy=>by rw[f y,jE]
   refine⟨a,ns,rfl,?_,hb.1,λq C=>⟨q,ns,rfl,aq,λb g f=>by rw[(pm b g f).length_eq];exact hb.2,λh b u g f i=>?_⟩⟩
   ·rw[P,← l7 A e1];exact Kb.of PM
   ·have n:aI j (upd j q (Aj X.w q ns)):=bB C;rw[rG (pm b g f) i];have r:Rp G (upd (upd j q (Aj X.w q ns)) h (.lst ((fG (jo ns)).map V.int))) (.ref h) (.lst ((fG (jo ns)).map T.int)) (h :: ((fG (jo ns)).map λ_=>[]).flatten):=.lst aq (xC _);rw[oT]at r;exact k _ _ _ ((s1.trans n).trans (bB u)) r (Fp.new ((s1.trans n).free u) (by simp) Fp.nil)
  ·cases e2
 ·cases d
end
section
def Cc(C:RpL G H f A a)(l:a.flatten.Nodup)(O:f[j]?=Z u)(q:a[j]?=Z w)(g:Chg G H u w y s d):RpL G s f (A.set j y) (a.set j d)/\(a.set j d).flatten.Nodup/\(∀b∈(a.set j d).flatten,b∈a.flatten\/H b=L)/\∀b o,b∉a.flatten->H b=Z o->s b=Z o:=by
 have N:∀b∈w,b∈a.flatten:=λb hb=>cE q hb;refine⟨C.setAt O g.rp (λi v t F n M E P r=>r.keep g.kept λb hb h m=>g.keep b h (lH l P q n hb) m),dk l g.nd (λi F n D b hb Q=>by
  rcases g.sub b Q with z | z
  ·exact lH l D q n hb z
  ·exact J8.JX (C.Kd b (cE D hb)) z),λb hb=>?_,λb h hb m=>g.keep b h (λz=>hb (N b z)) m⟩
 rcases b9 hb with z | ⟨i,F,n,M,E⟩
 ·rcases g.sub b z with z | z
  ·exact .inl (N b z)
  ·exact .inr z
 ·exact .inl (cE M E)
@[simp] def BC(i:Nat)(c:Ex)(f:Ko)(U:VS.Env):Option (Val×VS.Env):=match U[i]? with
 |some (some (.ow (.tup l)))=>(c U).bind λd=>(int? d.2).bind λn=>(KU l.length n).bind λj=>(l[j]?).bind λx=>(f U).bind λa=>(aJ x a).map λz=>(z.2,U.set i (Z (.ow (.tup (l.set j z.1)))))
 |_=>L
def FM{X:Cx}{pos apos:Pos}(i:Nat)(hN:X.N[i]?=Z x)(hv:L6 X.env.scope x)(hd:K3 x)(Ks:K4 x)(hb:PV G X b cb)(m:fH b)(ha:Lc G X [e] cs)(hK:X.K=G.K)(Ka:XAA (.Subscript (.Name x p1) b p2) "append" X.env (eval (.Subscript (.Name x p1) b p2) X.env)=eval (.Subscript (.Name x p1) b p2) X.env)(Kr:((backTo pe (P3 [e] X.env)).all (λx=>!x.1)&&(backToKw pe (SL [] X.env)).all (λx=>x.1.isSome)
   && decide ([e].length+([]:List Keyword).length+(if ([]:List Keyword).isEmpty then 0 else 1)<30))=J)(J6:(apos.endLine==pe.line)=J)(hs:K1 e [] X)(J2:(backTo pe (P3 [] X.env)).any (·.1)=B)(Lm:swapsWith (.Call (.Attribute (.Subscript (.Name x p1) b p2) "append" apos) [e] [] pe) L pos.line X.env=pure B) :
  PSV G X (.Expr (.Call (.Attribute (.Subscript (.Name x p1) b p2) "append" apos) [e] [] pe) pos) (sX (BC i cb cs)) :=
 PS.weak (hZ (lI Y7 Y4 Y3 fC (lM Bg (dS hN hv hd Ks) hb m) ha Ka Kr J6 hs J2) Lm) λD M H hq=>by
  obtain⟨O,U,out,s,e,k⟩:=hq;unfold sX BC at e;obtain⟨⟨y',U'⟩,e1,e2⟩:=Zw.mp e;split at e1
  ·rename_i l0 h;obtain⟨⟨mk,tk⟩,MH,e3⟩:=Zz.mp e1;obtain⟨n,A,e3⟩:=Zz.mp e3;obtain⟨j,h1,e3⟩:=Zz.mp e3;obtain⟨Y,h2,e3⟩:=Zz.mp e3;obtain⟨l,el,e3⟩:=Zz.mp e3;obtain⟨⟨S,R⟩,o,e6⟩:=Zw.mp e3;cases e6;cases e2;cases tk with
   |int n0 =>
    cases (A);obtain⟨v,z,g2⟩:=s.rp _ _ h;have nd:=s.nd i _ h;obtain⟨a,vs,Fs,rfl,C,E,f⟩:=g2.KA;obtain⟨u,Fj,t,r,q⟩:=f.get j h2;rw[C]at nd;refine⟨.ref a,z,O,U,mk,_,s,MH,λy H1 F1 d r1 f1=>?_⟩;refine⟨a,vs,_,u,rfl,r1.int_inv,Li.of (d a _ E),i5 (by rw[f.len.1];exact h1) t,by rw[hK];exact fK (q.same d) o,O,U,l,s.same d,el,λOO H4 Rw q1 q2 w=>?_⟩;refine iJ O U H H4 u Y S Fj l OO Rw R _ q (nd.sublist (bC r)) ⟨d.trans q1,q2,⟨λn v' F a1 a2=>(w.each n v' F a1 a2).back d,w.nd⟩⟩ o λu' H5 F g=>?_;obtain⟨s2,s3,s4,s5⟩:=Cc f nd t r g;obtain⟨Q,P⟩:=s.mut h z (by
     rw[C];exact⟨g.kept,s5,g.Kd,.tup (g.kept.tup _ _ E) s2,s3,s4⟩)
    exact k _ M H5 Q P
   |_=>cases A
  ·cases e1
noncomputable def zG(i:Nat)(a:Ex):Sx:=λU=>(a U).bind λv=>match v.1 with
 |.fr=>if i<U.length then Z (.nx (U.set i (Z (.ow v.2)))) else L
 |_=>L
def BD{pos:Pos}{x:Str}(he:PV G X e f)(y:X.N.Nodup)(u:{`q2,X.N[i]?=Z x})(n:{`q6,Loc X.env.scope x})(q:{`q2,swapsWith e (Z (.Name x a)) pos.line X.env=pure B})(w:{`q7,X.fn x=J\/X.env.scope.names.lookup x=Z .local}) :
  PSV G X (.Assign [.Name x a] e pos) (zG i f):=PS.weak (mS y u n he q w) λD M H r=>by
 obtain⟨O,U,o,s,e,k⟩:=r;obtain⟨⟨m,t⟩,A,e1⟩:=Zz.mp e;cases m with
 |fr =>
  obtain⟨d,e2⟩:i<U.length/\Z (Out.nx (U.set i (Z (.ow t))))=Z o:=by
   by_cases d:i<U.length
   ·exact⟨d,by simpa[d] using e1⟩
   ·simp[d]at e1
  cases e2;refine⟨O,U,.fr,t,s,A,λv C F e3 h z=>?_⟩;obtain⟨l,j⟩:=s.val d e3 h z (.inr ⟨rfl,rfl⟩);exact k _ _ C l j
 |pu=>cases e1
 |bo=>cases e1
end
def t2:T->Bool
 |.lst l=>l.all QA
 |t=>QA t
def t3:T->Bool
 |.tup l=>l.all t2
 |t=>t2 t
def VG:Ve->Bool
 |some (.pu t)=>RF t
 |_=>J
def Ad(i:Nat)(g:Tg)(b c:Sx):Sx:=λU=>match (U[i]?:Option (Ve)) with
 |some (some (.pu (.dct 0 l)))=>if (l.all λp=>RF p.2)=J/\(U.set i L).all VG=J then (ak (fo g (oN i) b) c (U.set i (Z (.pu (.dct 3 l))))).bind λo=>match o with
  |.rt v a=>if t3 v.2=J then Z (.rt v (List.replicate a.length L)) else L
  |_=>L
  else L
 |_=>L
section
def Ax(f:∀b d,H b=Z (.tup d)->e b=Z (.tup d))(m:∀b d,H b=Z (.lst d)->e b=Z (.lst d))(h:t2 t=J)(r:Rp G H v t F):Rp G e v t F:=by
 by_cases g:QA t=J
 ·exact(xZ f g r).2
 ·cases t with
  |lst l =>
   obtain⟨a,o,Gs,rfl,rfl,n,j⟩:=r.lst_inv;exact .lst (m _ _ n) (uB f (h) j).2
  |_=>exact absurd h g
theorem wQ(g:∀b a,H b=Z (.tup a)->e b=Z (.tup a))(j:∀b a,H b=Z (.lst a)->e b=Z (.lst a)):∀{f:List V}{d:Vb}{l:Xy},d.all t2=J->RpL G H f d l->RpL G e f d l
 |_,_,_,_,.nil=>.nil
 |_,_,_,h,.cons r q=>by
  rw[Xz,Z1]at h;exact .cons (Ax g j h.1 r) (wQ g j h.2 q)
def Hv(e:∀b d,H b=Z (.tup d)->f b=Z (.tup d))(g:∀b d,H b=Z (.lst d)->f b=Z (.lst d))(h:t3 t=J)(r:Rp G H v t F):Rp G f v t F:=by
 by_cases j:t2 t=J
 ·exact Ax e g j r
 ·cases t with
  |tup l =>
   obtain⟨a,o,Gs,rfl,rfl,n,m⟩:=r.KA;exact .tup (e _ _ n) (wQ e g (h) m)
  |_=>exact absurd h j
def mr{n j:Nat}{c:Cell}(h:(List.replicate n (L:Ve))[j]?=Z (Z c)):False:=by
 rw[YY]at h;split at h<;>cases h
def FA{G:Gx}{X:Cx}{tg:Expr}{p1:Pos}{x:Str}{R rest:List Stmt}{g:Tg}{cb cr:Sx}(i:Nat)(hp:PassesOwn (KF X.prog X.w) X.A X.env X.xe)(hc:X.calm=J)(hN:X.N[i]?=Z x)(hv:L6 X.env.scope x)(hd:K3 x)(Ks:K4 x)(hg:OJ G X tg g)(r:gq G X R cb)(hs:∀y,XAB (.Name x p1) X.env y=pure y)(hr:gq G X rest cr):gq G X (.For tg (.Name x p1) R [] pos :: rest) (Ad i g cb cr):=by
 intro pins s M H D I h;obtain⟨O,U,out,sr,e,k⟩:=h;unfold Ad at e;split at e
 ·rename_i l hl;split at e
  ·rename_i hls;obtain⟨o1,ev,e1⟩:=Zz.mp e;split at e1
   ·rename_i rv Ux;split at e1
    ·rename_i h3;cases e1;obtain⟨v,g1,g2⟩:=sr.rp _ _ hl;obtain⟨d,ns,C,ts,Fs,rfl,eF,Y,Nw,rfl,ra⟩:=dc g2;have Kq:=(Ze.mp hl).1;have mu:J8 (H d):=by rw[Y];exact True.intro
     have key:=ua (B6 (pos:=pos) hp hc (EO (dS hN hv hd Ks)) hg r hs) hr pins s M H
      { nx:=λ_ _=>False,rt:=λu H'=>(∃o,H' d=Z (.frz o (.dK (ns.zip C))))/\D.rt u (upd H' d (.dK (ns.zip C))),bk:=λ_ _=>False,ct:=λ_ _=>False } I ?_
     ·refine YX key (λf s' hq=>?_) λ_ _ e=>e;cases f with
      |next=>obtain⟨_,_,_,z⟩:=hq;exact z.elim
      |brk=>obtain⟨_,_,_,z⟩:=hq;exact z.elim
      |cont=>obtain⟨_,_,_,z⟩:=hq;exact z.elim
      |ret u =>
       obtain⟨v,M',H',I',rl,⟨o,h1⟩,h2⟩:=hq;exact⟨v,M',_,I'.R6 h1 (λo u q=>by
      have:=I.base.LS d o u q;rw[Y]at this;cases this),rl,h2⟩
     ·refine⟨.ref d,g1,d,ns.zip C,rfl,Y,λo=>?_⟩;have mt:((ns.map aD).zip ts).map (·.2)=ts:=Vj (by rw[Zt,Nw,ra.len.1];exact Zk _);have Pb:d∉Fs.flatten:=λz=>by
       obtain⟨P,q⟩:=rL (by
       rw[← mt,Xn];exact hls.1) ra d z
       rw[Y]at q;cases q
      have kp:Kept H (upd H d (.frz o (.dK (ns.zip C)))):=Kept.upd (.inl mu);have es:M.set i (Z (.ref d))=M:=by
       obtain⟨h,e⟩:=Ze.mp g1;rw[← e];exact Ws h
      have dΦ:d∈O i:=by rw[eF];exact Zx
      have sub:∀b∈Fs.flatten,b∈O i:=λb r=>by rw[eF];exact Zy _ r
      have off:∀j c',j≠i->U[j]?=Z (Z c')->d∉O j:=λj c' n S z=>by
       cases c' with
       |ow t=>exact sr.sep j i t _ S hl n d z dΦ
       |pu t =>
        have ht:RF t=J:=by
         have:=Za.mp hls.2 (Z (.pu t)) (Z5 (i:=j) (by rw[Yr (Yy n)];exact S));exact this
        obtain⟨w,_,q⟩:=sr.rp j _ S;obtain⟨P,E⟩:=rL (ts:=[t]) (by simp[ht]) (.cons q .nil) d (by simpa using z);rw[Y]at E;cases E
      have at_:∀{j c},(U.set i (Z (.pu (.dct 3 ((ns.map aD).zip ts)))))[j]?=Z (Z c)->(j=i/\c=.pu (.dct 3 ((ns.map aD).zip ts)))\/(j≠i/\U[j]?=Z (Z c)):=λ{j c} q=>by
       by_cases n:j=i
       ·subst n;rw[YG Kq]at q;exact .inl ⟨rfl,(Zh (Zh q)).symm⟩
       ·rw[Yr (Yy n)]at q;exact .inr ⟨n,q⟩
      have Mm:∀b,bL (jv O i Fs.flatten) (U.set i (Z (.pu (.dct 3 ((ns.map aD).zip ts))))) b->bL O U b:=λb ⟨j,t,q1,E⟩=>by
       rcases at_ q1 with⟨_,z⟩ | ⟨n,q⟩
       ·cases z
       ·rw[d7 n]at E;exact⟨j,t,q,E⟩
      have Uo:∀b,df (jv O i Fs.flatten) (U.set i (Z (.pu (.dct 3 ((ns.map aD).zip ts))))) b->df O U b:=λb ⟨j,t,q1,E⟩=>by
       rcases at_ q1 with⟨rfl,z⟩ | ⟨n,q⟩
       ·rw[ig]at E;exact⟨j,_,hl,sub b E⟩
       ·rw[d7 n]at E;exact⟨j,t,q,E⟩
      have VP:∀b,upd H d (.frz o (.dK (ns.zip C))) b=L->H b=L:=λb q=>by
       by_cases z:b=d
       ·rw[z,aq]at q;cases q
       ·rw[aw z]at q;exact q
      have ok:qf G (jv O i Fs.flatten) (U.set i (Z (.pu (.dct 3 ((ns.map aD).zip ts))))) (upd H d (.frz o (.dK (ns.zip C))))
        { nx:=λ_ _=>False,rt:=λu H'=>(∃o,H' d=Z (.frz o (.dK (ns.zip C))))/\D.rt u (upd H' d (.dK (ns.zip C))),bk:=λ_ _=>False,ct:=λ_ _=>False } (.rt rv Ux):=λu H' F O' M' s' f' r' q'=>by
       have hfz:=f'.kept.frz d _ _ aq;have nd:∀b Q,H' b=Z Q->(∀a c,Q ≠ .frz a c)->b≠d:=λb Q q n z=>by
        rw[z,hfz]at q;exact n _ _ (Zh q).symm
       have kt:∀b P,H' b=Z (.tup P)->upd H' d (.dK (ns.zip C)) b=Z (.tup P):=λb P q=>by
        rw[aw (nd b _ q (λ_ _ z=>nomatch z))];exact q
       refine⟨⟨o,hfz⟩,k u _ F (λ_=>[]) M' ⟨?_,λj c q=>?_,λj t q=>?_,λj j' t c q=>?_⟩ ⟨λb Q q n=>⟨?_,λ⟨j,t,z,_⟩=>?_⟩,λb q z=>?_,λb ⟨j,t,z,_⟩=>?_,λb ⟨j,t,z,_⟩=>?_,⟨λb P q=>?_,λb Q c q=>?_⟩⟩ (Hv kt (λb P q=>by
        rw[aw (nd b _ q (λ_ _ z=>nomatch z))];exact q) h3 r') ?_⟩
       ·rw[YQ];exact s'.len
       ·exact(mr q).elim
       ·exact(mr q).elim
       ·exact(mr q).elim
       ·by_cases z:b=d
        ·subst z;rw[Y]at q;rw[aq];exact q
        ·rw[aw z];exact(f'.keep b Q (by rw[aw z];exact q) λy=>n (Mm b y)).1
       ·exact mr z
       ·by_cases y:b=d
        ·rw[y,aq]at z;cases z
        ·rw[aw y]at z;exact f'.Kd b (by rw[aw y];exact q) z
       ·exact(mr z).elim
       ·exact(mr z).elim
       ·exact kt b P (f'.kept.tup b P (kp.tup b P q))
       ·rw[aw (λy=>by rw[y,Y]at q;cases q)];exact f'.kept.frz b Q c (kp.frz b Q c q)
       ·obtain⟨m,tt⟩:=rv;cases m with
        |fr=>exact⟨q'.1,λb r=>(q'.2 b r).elim (λz=>.inl (VP b z)) λz=>.inr (Mm b z)⟩
        |pu=>exact λb r=>(q' b r).elim (λz=>.inl (VP b z)) λz=>z.elim (λz=>.inr (.inl (Uo b z))) λz=>.inr (.inr (Mm b z))
        |bo=>exact λb r=>(q' b r).elim (λz=>.inl (VP b z)) λz=>z.elim (λz=>.inr (.inl (Uo b z))) λz=>.inr (.inr (Mm b z))
      have hq:tS G (fo g (oN i) cb) { nx:=tS G cr { nx:=λ_ _=>False,rt:=λu H'=>(∃o,H' d=Z (.frz o (.dK (ns.zip C))))/\D.rt u (upd H' d (.dK (ns.zip C))),bk:=λ_ _=>False,ct:=λ_ _=>False },rt:=λu H'=>(∃o,H' d=Z (.frz o (.dK (ns.zip C))))/\D.rt u (upd H' d (.dK (ns.zip C))),bk:=λ_ _=>False,ct:=λ_ _=>False } M (upd H d (.frz o (.dK (ns.zip C)))):=by
       obtain⟨o2,ee1,UP⟩:=Zz.mp ev;refine⟨_,_,o2,(by
       have:=sr.put (c:=.pu (.dct 3 ((ns.map aD).zip ts))) (v:=.ref d) (F:=Fs.flatten) (H':=upd H d (.frz o (.dK (ns.zip C)))) Kq (.dctZ aq Nw (ra.off mu Pb)) (λj c' n S w q=>q.keep kp λb r Q ho=>by
        rw[aw (λz=>off j c' n S (by rw[← z];exact r))];exact ho) (λ_ z=>nomatch z) (λ_ z=>nomatch z) λj u n S b r KC=>sr.sep j i u _ S hl n b r (sub b KC)
       rw[es]at this;exact this),ee1,?_⟩
       cases o2 with
       |nx U1=>exact λO' M' H' s' f=>⟨O',U1,_,s',UP,qf.back f ok⟩
       |rt v U1=>cases UP;exact ok
       |bk U1=>cases UP
       |ct U1=>cases UP
      obtain⟨O2,U2,m2,l2,s2,e2,k2⟩:=Bb hq;refine k2 (UU d o (ns.zip C)) _ [] (aI.refl _) ?_ (λb r=>nomatch r);unfold oN at e2;split at e2
      ·rename_i l3 h3;split at e2
       ·rename_i hint;cases e2;obtain⟨v3,q1,E⟩:=s2.rp _ _ h3;rw[g1]at q1;cases q1;obtain⟨a3,o3,ks3,UZ,R8,Fs3,ea3,_,LR,Pc,rfl,NZ⟩:=o7 E;cases ea3;rw[aq]at LR;have ek:=zip_inj Nw Pc (HO.dK.inj (HO.frz.inj (Zh LR)).2);subst ek;have em:((ns.map aD).zip R8).map (·.1)=ns.map aD:=WO (by rw[Zt,Pc,NZ.len.1];exact Zk _);have zl:(ns.zip C).length=ns.length:=by rw[Yv,Nw,XM]
        refine⟨λH2 NG _=>⟨λn t hn=>?_,λn hn=>?_⟩,λb r=>nomatch r⟩
        ·rw[em,Zd]at hn;obtain⟨kk,Oz,Pd⟩:=Zw.mp hn;have SQ:=(Ze.mp Oz).1;refine⟨⟨NG.frz _ _ _ aq,by rw[zl];exact SQ⟩,λy H3 hy=>?_⟩;obtain⟨rfl,p,hp,rfl⟩:=hy;refine⟨aI.refl _,[],?_,λb r=>nomatch r⟩;have SM:p.1=kk:=by
          have MU:=hp;rw[Yn]at MU;rw[Oz]at MU;exact(Zh MU.1).symm
         have hi:Gf t=J:=by
          have:=Za.mp hint (t,R8[n]'(by rw[← NZ.len.1,← Pc];exact SQ)) (by
           refine Z5 (i:=n) ?_;rw[Yn];exact⟨by rw[Zd,Oz];exact congrArg Z Pd,Zu _⟩)
          exact this
         rw[SM,← Pd];rw[← Pd]at hi;cases kk with
         |inl n=>exact .int n
         |inr z=>exact .str _ (Ce hi)
        ·refine⟨NG.frz _ _ _ aq,?_⟩;rw[em,Zt]at hn;rw[zl];exact hn
       ·cases e2
      ·cases e2
    ·cases e1
   ·cases e1
  ·cases e
 ·cases e
end
end VS
end
section
namespace VS
open PySem PySem.Spec PyProof.Rows L2 TS
noncomputable def nM(n:Int)(a:Vg):Int:=a.foldl (λc i=>if i<c then i else c) n
def uA:Vd->Vc
 |[(_,.lst l)]=>(jh l).bind fun
  |[]=>L
  |i :: r=>Z (.fr,.int (nM i r))
 |_=>L
section
def yE(a:Vg):∀(k j c:Nat),j+k=a.length->a.getD (ST.OI (λi j=>decide (a.getD i 0<a.getD j 0)) k j c) 0=(a.drop j).foldl (λc i=>if i<c then i else c) (a.getD c 0):=by
 intro k
 induction k with
 |zero =>
  intro j c h;rw[Wx (by lia)];rfl
 |succ k d =>
  intro j c h;have b:j<a.length:=by lia
  have f:a.getD j 0=a[j]:=by rw[Zs,Zu b];rfl
  refine(d (j+1) (if decide (a.getD j 0<a.getD c 0) then j else c) (by lia)).trans ?_;rw[YC b,YD,← f];congr 1;by_cases q:a.getD j 0<a.getD c 0
  ·rw[Zp q,Zp (ZR q)]
  ·rw[Zn q,Zn (by rw[ZN q];exact ZX)]
def zm{X:Cx}(P:X.calm=J):dA X (.builtin "min") (λw H Q=>∃p,∃(n:Int)(ns:Vg),w=[.ref p]/\Kb X.K H p ((n :: ns).map V.int)/\Q (.int (nM n ns)) H):=by
 intro x s M H w R Q I C h;obtain⟨p,n,ns,rfl,E,q⟩:=h;obtain⟨u,rfl,g⟩:=C.one;obtain rfl:=(g)
 obtain⟨a,f,l,hz⟩:=I.list E;have y:p<s.heap.objs.size:=by obtain⟨_,e,_⟩:=l.isList;exact ZY e
 have hlen:a.toArray.size=ns.length+1:=by have:=f.length;simp at this ⊢;exact Eq.symm this
 have val:∀(i:Nat)(v:PP),a.toArray[i]?=Z v->∃t,v=.int ((n :: ns).getD i 0) t:=λi v r=>by
  have d:a[i]?=Z v:=by simpa using r
  cases e:(n :: ns)[i]? with
  |none =>
   have:=f.none_of (i:=i) (by rw[Zd,e];rfl);rw[this]at d;cases d
  |some m =>
   obtain⟨u,D,g⟩:=f.get (i:=i) (by rw[Zd,e];rfl);rw[D]at d;cases d;obtain⟨t,rfl⟩:=g;exact⟨t,by rw[Zs,e];rfl⟩
 refine ST.y0 (XG l.isList ⟨s.heap.objs.size,[s.heap.objs.size,p],[s.heap.objs.size],a.toArray.size,_,_,λi j=>decide ((n :: ns).getD i 0<(n :: ns).getD j 0),rfl,WR (A:=X.A.in1) (I.ok.hd P) _ p (Zf y) a.toArray,
  ⟨⟨_,Zc _ Y,rfl,rfl⟩,l.isList.push _⟩,λb hb=>?_,by lia,λi j u v U Q' E' O N kp o=>?_,λv h' S r F=>?_⟩)
 ·rw[Ya];rcases Zo.mp hb with rfl | hb
  ·exact Z3 _
  ·rw[Zj.mp hb];exact Yq y
 ·obtain⟨t,rfl⟩:=val i u O;obtain⟨z,rfl⟩:=val j v N;exact ST.HP (k:=.inl ((n :: ns).getD i 0)) (k':=.inl ((n :: ns).getD j 0)) Y ⟨t,rfl⟩ ⟨z,rfl⟩ o
 ·obtain⟨t,rfl⟩:=val _ v r;refine⟨.int (nM n ns),H,I.kept (sD F),⟨t,?_⟩,q⟩;congr 1;exact yE (n :: ns) (a.toArray.size-1) 1 0 (by rw[hlen,Zi];lia)
def DG:fz G (λb H Q=>∃p,∃(n:Int)(ns:Vg),b=[.ref p]/\Kb G.K H p ((n :: ns).map V.int)/\Q (.int (nM n ns)) H) uA:=by
 intro O U o H l i q m t Q A e k;unfold uA at e;split at e
 ·rename_i j x;obtain⟨ns,e1,e2⟩:=Zz.mp e
  match ns,e1,e2 with
  |n :: ns,e1,e2 =>
   cases e2;obtain⟨v,F,rfl,rfl,d⟩:=(A.rp).one;obtain⟨a,h,Gs,rfl,rfl,g,f⟩:=d.lst_inv;have:=l7 f e1;subst this;exact⟨a,n,ns,rfl,Kb.of g,bj k (.int _)⟩
 ·cases e
def G4{X:Cx}(a:X.mg "min" = L)(f:Lc G X [e] cs)(d:{`q2,X.calm=J})(b:{`q2,Gl X "min"})(g:{`q2,X.K=G.K})(he:{`q2,K1 e [] X}):PV G X (.Call (.Name "min" p) [e] [] pos) (eN uA cs) :=
 jG (zm d) (g ▸ DG) b a BJ f (he:=he)
end
end VS
end
section
namespace T32
open VS
noncomputable section
def aT:Mt:=MT 0 4 4 [B,B,J]
  (ak (sX (nH 0 [.fld 1] aJ (ab (aa 1) aj)))
  (ak (sX (nH 0 [.fld 2] aJ (ab (aa 2) aj)))
  (ak (rg 0 [.fld 3] 3)
  (fT (e2 A7 (eN bO (ab (bY 1 (aa 0)) aj)) (Q3 1))))))
def fD:Mt:=MT 0 1 1 (List.replicate 0 B)
  (ak (wJ 0 1 (fg aj))
  (ak (wJ 0 2 (fg aj))
  (ak (wJ 0 3 (fg aj))
  (Ui (c8 0 [] 0 [B,B,J] aT (ab (Q3 0) (ab (eC .non) (ab (pZ 0 []) aj))))))))
def c9:Sx :=
  (ak (jY 0 [.fld 3,.ix (aa 1)] (aa 2) (aa 5))
  (aN 1 (e2 aC (bY 2 (aa 0)) (aa 1))))
def ay:Mt:=MT 0 3 6 [B,B]
  (ak (aN 3 (e2 LN (e2 aC (bY 3 (aa 0)) (aa 1)) (aa 2)))
  (ak (aN 4 (e2 bA (e2 aC (bY 1 (aa 0)) (aa 1)) (Q3 1)))
  (ak (Lw (e2 oEq (e2 aC (bY 1 (aa 0)) (aa 3)) (aa 4)) (eT 3) gf)
  (ak (eJ 5 (c8 0 [] 0 [B,B,J] aT (ab (aa 4) (ab (e2 aC (bY 2 (aa 0)) (aa 3)) (ab (eN pK (ab (e2 aC (bY 3 (aa 0)) (aa 3)) aj)) aj)))))
  (ak (jY 0 [.fld 2] (aa 3) (aa 5))
  (ak (kF (kJ (ie (aa 1)) (e2 oEq (e2 yN (e2 aC (bY 3 (aa 0)) (aa 1)) (aa 2)) (aa 3))) c9)
  (eT 5)))))))
def cM:Sx :=
  (ak (jY 0 [.fld 3,.ix (aa 4)] (aa 2) (aa 3))
  (aN 4 (e2 aC (bY 2 (aa 0)) (aa 4))))
def bE:Mt:=MT 0 3 5 [B,B]
  (ak (Lw (e2 kD (aa 2) (e2 aC (bY 3 (aa 0)) (aa 1))) (nq (c8 0 [] 0 [B,B] ay (ab (aa 1) (ab (aa 2) aj)))) gf)
  (ak (eJ 3 (c8 0 [] 0 [B,B,J] aT (ab (e2 bA (e2 aC (bY 1 (aa 0)) (aa 1)) (Q3 1)) (ab (Q3 0) (ab (pZ 0 []) aj)))))
  (ak (aN 4 (aa 1))
  (ak (kF (kJ (ie (aa 4)) (e2 bV (aa 2) (e2 aC (bY 3 (aa 0)) (aa 4)))) cM)
  (ak (Lw (ie (aa 4)) (qT 0 [.fld 2] (aa 3) (c8 0 [] 0 [B,B] ay (ab (aa 4) (ab (aa 2) aj)))) gf)
  (eT 3))))))
def cZ:Sx :=
  (eJ 1 (c8 0 [] 0 [B,B] bE (ab (aa 1) (ab (aa 3) aj))))
def bQ:Mt:=MT 0 3 4 [B,B]
  (ak (fo (aG 3) (cA (aa 2)) cZ)
  (eT 1))
def dj:Sx :=
  (Lw (e2 bV (e2 LN (aa 4) (aa 5)) (aa 1)) (ak (pN 1 (e2 LN (aa 4) (aa 5)) (eN bO (ab (aa 2) aj)))
  (sX (pP 2 [] aJ (ab (e2 LN (aa 4) (aa 5)) aj)))) gf)
def dv:Sx :=
  (ak (aN 4 (e2 aC (bY 3 (aa 0)) (e2 aC (aa 2) (aa 3))))
  (ak (fo (aG 5) (cA (eN iz (ab (aa 4) aj))) dj)
  (aN 3 (e2 bA (aa 3) (Q3 1)))))
def aM:Fn:=fn 1 6
  (ak (iw 1 (pZ 0 [((Q3 0),(Q3 0))]))
  (ak (iw 2 (fg (ab (Q3 0) aj)))
  (ak (aN 3 (Q3 0))
  (ak (kF (e2 oLt (aa 3) (eN bO (ab (aa 2) aj))) dv)
  (ak (oW 2)
  (eT 1))))))
def bN:Fn:=fn 3 6
  (ak (aN 3 (e2 aC (bY 2 (aa 0)) (aa 1)))
  (ak (aN 4 (e2 aC (bY 3 (aa 0)) (aa 1)))
  (ak (aN 5 (eN lZ (ab (bD 1 (aG 0) (cA (eN iz (ab (aa 4) aj))) L (gk (ab (aa 0) (ab (e2 mE (aa 3) (e2 LN (aa 5) (aa 0))) aj)))) aj)))
  (ak (Lw (Ik (aa 3)) (fT (gk (ab (Q3 0) (ab (Q3 0) (ab (eC .non) (ab (aa 5) aj)))))) gf)
  (fT (gk (ab (e2 bA (e2 aC (bY 1 (aa 0)) (aa 3)) (Q3 1)) (ab (e2 aC (bY 1 (aa 0)) (aa 1)) (ab (e2 mE (aa 2) (aa 3)) (ab (aa 5) aj))))))))))
def dY:Fn:=fn 1 2
  (ak (iw 1 (jk 0 aM (aa 0) aj))
  (A0 1 (aG 0) (jk 0 bN (aa 1) (ab (aa 0) (ab (aa 2) aj)))))
def gA:Fn:=fn 1 1
  (fT (kJ (PU .int (aa 0)) (nJ (PU .bool (aa 0)))))
def cB:Fn:=fn 2 2
  (Lw (Oo (nJ (aW gA (ab (aa 1) aj))) (nJ (i9 oLe oLt (Q3 0) (aa 1) (eN bO (ab (aa 0) aj))))) U8 gf)
def qR:Sx :=
  (ak (aN 4 (eN o5 (ab (e2 aC (e2 aC (aa 0) (e2 aC (aa 2) (Q3 (-1)))) (Q3 3)) aj)))
  (ak (Lw (e2 bV (aa 3) (aa 4)) (eT 2) gf)
  (sX (pP 2 [] aJ (ab (e2 LN (aa 4) (aa 3)) aj)))))
def oP:Fn:=fn 2 5
  (ak (iw 2 (fg (ab (Q3 0) aj)))
  (ak (fo (aG 3) (cA (aa 1)) qR)
  (eT 2)))
def aO:Fn:=fn 2 2
  (Lw (Oo (nJ (aW gA (ab (aa 1) aj))) (nJ (i9 oLe oLt (Q3 0) (aa 1) (eN bO (ab (aa 0) aj))))) U8 gf)
def eR:Sx :=
  (Lw (e2 oEq (e2 aC (e2 aC (aa 0) (e2 aC (aa 4) (Q3 1))) (Q3 1)) (e2 bA (e2 aC (aa 3) (Q3 1)) (Q3 1))) (pN 1 (e2 aC (aa 4) (Q3 1)) (gk (ab (aa 2) (ab (e2 aC (aa 4) (Q3 0)) aj)))) gf)
def ij:Sx :=
  (fo (aG 4) (cA (e2 aC (aa 3) (Q3 3))) eR)
def fj:Fn:=fn 1 5
  (ak (iw 1 (pZ 0 []))
  (ak (fo (iD [(aG 2),(aG 3)]) (oY (aa 0)) ij)
  (eT 1)))
def lR:Sx :=
  (ak (aN 4 (e2 LN (aa 2) (aa 1)))
  (ak (aN 3 (e2 bA (e2 aC (aa 4) (Q3 1)) (aa 3)))
  (aN 1 (e2 aC (aa 4) (Q3 0)))))
def b7:Fn:=fn 2 5
  (ak (sX (xP (aW aO (ab (aa 0) (ab (aa 1) aj)))))
  (ak (aN 2 (aW fj (ab (aa 0) aj)))
  (ak (aN 3 (eC (.str [])))
  (ak (kF (e2 NF (aa 1) (Q3 0)) lR)
  (eT 3)))))
def i4:Sx :=
  (ak (sX (pP 2 [] aJ (ab (aa 1) aj)))
  (aN 1 (e2 aC (e2 aC (aa 0) (aa 1)) (Q3 2))))
def oh:Fn:=fn 2 3
  (ak (sX (xP (aW aO (ab (aa 0) (ab (aa 1) aj)))))
  (ak (iw 2 (fg aj))
  (ak (kF (ie (aa 1)) i4)
  (eT 2))))
def gz:Sx :=
  (sX (tm 2 (aa 7) (ab (gk (ab (aa 3) (ab (aa 5) aj))) aj)))
def jW:Sx :=
  (fo (aG 7) (cA (aW oh (ab (aa 1) (ab (aa 6) aj)))) gz)
def js:Sx :=
  (fo (iD [(aG 5),(aG 6)]) (oY (aW oP (ab (aa 1) (ab (aa 4) aj)))) jW)
def ic:Fn:=fn 2 8
  (ak (iw 2 (bD 1 (aG 0) (cA (aa 1)) L (fg aj)))
  (ak (fo (iD [(aG 3),(aG 4)]) (oY (aa 0)) js)
  (eT 2)))
def iu:Sx :=
  (Ui (c8 1 [] 0 [B,B] bQ (ab (Q3 0) (ab (aa 2) aj))))
def gC:Fn:=fn 1 3
  (ak (iw 1 (eNew 0 fD aj))
  (ak (fo (aG 2) (cA (aa 0)) iu)
  (ak (oW 1)
  (fT (jk 0 dY (aa 1) aj)))))
def iV:Fn:=fn 1 1
  (fT (eN iR (ab (bD 1 (aG 0) (cA (aa 0)) L (e2 aC (aa 0) (Q3 0))) aj)))
def gM:Fn:=fn 2 2
  (fT (bD 1 (aG 0) (cA (aW ic (ab (aa 0) (ab (aa 1) aj)))) L (aW iV (ab (aa 0) aj))))
def g9:Fn:=fn 2 2
  (fT (eN Cs (ab (bD 1 (aG 0) (cA (aa 1)) L (e2 kD (aa 0) (aa 1))) aj)))
def eI:Fn:=fn 2 2
  (fT (e2 bA (eM uq (aa 0) (ab (aa 1) aj)) (eN bO (ab (aa 1) aj))))
def bR:Fn:=fn 2 4
  (ak (aN 2 (eN uW (ab (bD 1 (aG 0) (cA (aa 1)) L (e2 aC (e2 aC (aa 1) (aa 0)) (Q3 1))) aj)))
  (ak (aN 3 (bD 1 (aG 0) (cA (aa 1)) (Z (e2 oEq (e2 aC (e2 aC (aa 1) (aa 0)) (Q3 1)) (aa 3))) (aa 0)))
  (fT (As (aa 3) (aW b7 (ab (aa 1) (ab (aa 0) aj)))))))
def nr:Sx :=
  (sX (xP (aW cB (ab (aa 0) (ab (aa 2) aj)))))
def hU:Fn:=fn 2 7
  (ak (fo (aG 2) (cA (aa 1)) nr)
  (ak (aN 3 (aW gC (ab (aa 0) aj)))
  (ak (aN 4 (eN iR (ab (aa 1) aj)))
  (ak (aN 5 (bD 2 (iD [(aG 0),(aG 1)]) (oY (aW gM (ab (aa 0) (ab (aa 3) aj)))) (Z (aW g9 (ab (aa 1) (ab (aa 6) aj)))) (aa 0)))
  (ak (aN 6 (aW b7 (ab (aa 3) (ab (aW bR (ab (aa 3) (ab (aa 5) aj))) aj))))
  (fT (gk (ab (aa 6) (ab (bD 1 (aG 0) (cA (aa 1)) L (aW eI (ab (e2 aC (aa 1) (aa 0)) (ab (aa 7) aj)))) aj)))))))))
def ji:Sx :=
  (ak (aN 3 (e2 oMod (e2 bA (e2 bA (e2 iI (aa 3) (Q3 69621)) (e2 iI (Q3 7) (aa 5))) (Q3 1)) (Q3 2147483647)))
  (ak (aN 6 (e2 oMod (e2 iI (aa 3) (aa 3)) (Q3 2147483629)))
  (aN 4 (e2 bA (e2 iI (aa 4) (Q3 999983)) (e2 oMod (e2 iI (aa 6) (e2 bA (e2 oMod (aa 6) (Q3 65521)) (Q3 3))) (Q3 999983))))))
def cQ:Fn:=fn 2 7
  (ak (aN 2 (e2 bA (e2 iI (aa 1) (Q3 7919)) (Q3 104729)))
  (ak (Lw (e2 N2 (eN bO (ab (aa 0) aj)) (Q3 0)) (aN 2 (e2 bA (e2 aC (aa 0) (e2 oMod (aa 1) (eN bO (ab (aa 0) aj)))) (e2 iI (e2 l5 (aa 1) (eN bO (ab (aa 0) aj))) (Q3 48271)))) gf)
  (ak (Lw (e2 oEq (e2 oMod (aa 2) (Q3 2)) (Q3 0)) (fT (fg (ab (e2 l5 (aa 2) (Q3 2)) aj))) gf)
  (ak (aN 3 (e2 oMod (e2 bA (e2 l5 (aa 2) (Q3 2)) (e2 iI (Q3 40503) (aa 1))) (Q3 2147483629)))
  (ak (aN 4 (Q3 0))
  (ak (fo (aG 5) (cR (Q3 24)) ji)
  (fT (fg (ab (aa 4) aj)))))))))
def aA:Vb->Option (Vb×T):=Oa 2 3 [B]
  (ak (aN 2 (e2 oMod (e2 aC (Tz (aa 0)) (Q3 0)) (aa 1)))
  (ak (jY 0 [.un] (Q3 0) (e2 l5 (e2 aC (Tz (aa 0)) (Q3 0)) (aa 1)))
  (eT 2)))
def dF:Vb->Option (Vb×T):=Oa 3 3 [B,B]
  (nq (EV [] (md (aV [(.io 0 J),(.px (xI (e2 bA (aa 2) (Q3 1))))] aA) (x2 aC (xI (aa 2)) (aV [(.io 1 J),(.px (xI (eN bO (ab (aa 2) aj))))] aA)))))
def fP:Vb->Option (Vb×T):=Oa 1 5 []
  (ak (aN 1 (eC (.str [97,98,99,100,101,102,103,104,105,106,107,108,109,110,111,112,113,114,115,116,117,118,119,120,121,122])))
  (ak (eJ 2 (nB (fg (ab (Q3 2) (ab (Q3 1) (ab (Q3 3) (ab (Q3 2) (ab (Q3 4) (ab (Q3 2) (ab (Q3 3) (ab (Q3 26) aj))))))))) (aV [(.io 0 J),(.px (xI (Q3 8)))] aA)))
  (ak (eJ 3 (aV [(.io 0 J),(.px (xI (Q3 26)))] aA))
  (ak (eJ 4 (nB (fg (ab (Q3 1) (ab (Q3 3) (ab (Q3 25) (ab (Q3 7) aj))))) (aV [(.io 0 J),(.px (xI (Q3 4)))] aA)))
  (fT (eM ly (eC (.str [])) (ab (bD 1 (aG 0) (cR (aa 2)) L (e2 aC (aa 2) (e2 oMod (e2 bA (aa 4) (e2 iI (aa 5) (aa 0))) (Q3 26)))) aj)))))))
def iC:Sx :=
  (ak (eJ 5 (aV [(.io 0 J),(.px (xI (aa 1))),(.px (nB (fg (ab (Q3 6) (ab (Q3 3) (ab (Q3 10) (ab (Q3 8) aj))))) (aV [(.io 0 J),(.px (xI (Q3 4)))] aA)))] dF))
  (ak (vX (kz (e2 N2 (aa 4) (Q3 0)) (Po (x2 oEq (aV [(.io 0 J),(.px (xI (Q3 4)))] aA) (xI (Q3 1))))) (ak (eJ 6 (tZ 3 (aV [(.io 0 J),(.px (xI (aa 4)))] aA)))
  (eJ 5 (R3 (x2 bA (R3 (xI (aa 6)) (Z (aV [(.io 0 J),(.px (xI (e2 bA (eN bO (ab (aa 6) aj)) (Q3 1))))] aA)) L) (xI (aa 5))) L (Z (xI (Q3 14)))))) gf)
  (sX (pP 3 [] aJ (ab (aa 5) aj)))))
def gD:Vb->Option (Vb×T):=Oa 2 7 [B]
  (ak (eJ 2 (nB (fg (ab (Q3 2) (ab (Q3 1) (ab (Q3 3) (ab (Q3 2) (ab (Q3 4) (ab (Q3 0) (ab (Q3 1) (ab (Q3 8) aj))))))))) (aV [(.io 0 J),(.px (xI (Q3 8)))] aA)))
  (ak (iw 3 (fg aj))
  (ak (fo (aG 4) (cR (aa 2)) iC)
  (ak (vX (kz (i9 oLt oLt (Q3 0) (aa 2) (Q3 3)) (Po (x2 oEq (aV [(.io 0 J),(.px (xI (Q3 6)))] aA) (xI (Q3 1))))) (qT 3 [] (Q3 0) (x2 xX (x2 bA (x2 bA (xI (e2 aC (aa 3) (Q3 0))) (aV [(.io 0 J),(.px (xI (aa 1))),(.px (xI (Q3 24)))] dF)) (xI (e2 aC (aa 3) (Q3 (-1))))) (x2 bA (xI (Q3 1)) (aV [(.io 0 J),(.px (xI (Q3 2)))] aA)))) gf)
  (eT 3)))))
def fh:Sx :=
  (lS 1 (eSl (aa 3) (Z (aa 4)) (Z (aa 5))) (ab (gk (ab (aa 2) (ab (aa 5) aj))) aj))
def jT:Sx :=
  (fo (aG 5) (nX (e2 bA (aa 4) (Q3 1)) (e2 bA (eN bO (ab (aa 3) aj)) (Q3 1))) fh)
def gY:Sx :=
  (ak (Aa 1 (eC (.str [])) (e2 bA (e2 LN (aa 1) (eC (.str []))) (bD 1 (aG 0) (cR (e2 bA (eN bO (ab (aa 3) aj)) (Q3 1))) L (gk (ab (aa 3) (ab (aa 0) aj))))))
  (fo (aG 4) (cR (eN bO (ab (aa 3) aj))) jT))
def eK:Fn:=fn 1 6
  (ak (iw 1 (pZ 0 [((eC (.str [])),(fg aj))]))
  (ak (fo (iD [(aG 2),(aG 3)]) (oY (aa 0)) gY)
  (eT 1)))
def gr:Sx :=
  (ak (aN 4 (bD 2 (iD [(aG 0),(aG 1)]) (cA (e2 mE (aa 0) (aa 3))) L (aa 0)))
  (Lw (e2 oEq (eN bO (ab (bD 1 (aG 0) (cA (aa 1)) (Z (e2 bV (aa 0) (aa 5))) (aa 0)) aj)) (Q3 0)) (Lw (Oo (e2 N2 (eN bO (ab (aa 3) aj)) (eN bO (ab (aa 2) aj))) (kJ (e2 oEq (eN bO (ab (aa 3) aj)) (eN bO (ab (aa 2) aj))) (e2 oLt (aa 3) (aa 2)))) (aN 2 (aa 3)) gf) gf))
def gp:Sx :=
  (sX (pP 5 [] aJ (ab (eN uA (ab (bD 2 (iD [(aG 0),(aG 1)]) (cA (e2 mE (aa 0) (aa 2))) (Z (e2 oEq (aa 0) (aa 8))) (aa 1)) aj)) aj)))
def gw:Fn:=fn 2 7
  (ak (aN 2 (eC (.str [])))
  (Ad 0 (aG 3) gr
  (ak (iw 5 (fg aj))
  (ak (fo (aG 6) (cA (aa 1)) gp)
  (ak (oW 5)
  (fT (gk (ab (aa 2) (ab (aa 5) aj)))))))))
def jM:Sx :=
  (ak (zG 6 (aW hU (ab (e2 aC (aa 4) (Q3 0)) (ab (e2 aC (aa 4) (Q3 1)) aj))))
  (ak (Lw (Oo (nJ (PU .tuple (aa 6))) (Oo (e2 NF (aa 6) (aa 3)) (Oo (e2 NF (aa 4) (gk (ab (aa 0) (ab (aa 2) aj)))) (nJ (PU .list (e2 aC (aa 6) (Q3 1))))))) (fT (eC (.bl B))) gf)
  (ak (Lw (e2 NF (bD 1 (aG 0) (cA (e2 aC (aa 6) (Q3 1))) (Z (PU .bool (aa 0))) (aa 0)) (fg aj)) (fT (eC (.bl B))) gf)
  (sX (BC 6 (Q3 1) (ab (Q3 0) aj))))))
def fO:Fn:=fn 3 7
  (ak (aN 3 (aW gw (ab (aa 1) (ab (aa 2) aj))))
  (ak (aN 4 (gk (ab (eN mQ (ab (aa 0) aj)) (ab (eN mQ (ab (aa 2) aj)) aj))))
  (ak (fo (aG 5) (cR (Q3 2)) jM)
  (fT (eC (.bl J))))))
def oK:Sx :=
  (ak (nF 7 (DS (md (x2 bA (xI (Q3 1)) (aV [(.io 5 B),(.px (xI (Q3 5)))] aA)) (aV [(.io 6 B),(.px (xI (eN bO (ab (aa 4) aj))))] aA))))
  (ak (oW 7)
  (Lw (nJ (aW fO (ab (aa 3) (ab (aa 4) (ab (aa 7) aj))))) (fT (eC (.bl B))) gf)))
def BG:Fn:=fn 1 8
  (ak (iw 1 (aW cQ (ab (aa 0) (ab (Q3 0) aj))))
  (ak (eJ 2 (aV [(.io 1 B)] fP))
  (ak (nF 3 (aV [(.io 1 B),(.px (xI (aa 2)))] gD))
  (ak (oW 3)
  (ak (Lw (e2 oEq (aa 3) (fg aj)) (Bk 3 (aV [(.io 1 B),(.px (xI (aa 2))),(.px (xI (Q3 6)))] dF)) gf)
  (ak (oW 1)
  (ak (aN 4 (aW eK (ab (aa 3) aj)))
  (ak (iw 5 (aW cQ (ab (aa 0) (ab (Q3 1) aj))))
  (ak (fo (aG 6) (cR (Q3 3)) oK)
  (ak (oW 5)
  (fT (eC (.bl J)))))))))))))
end
end T32
end
section
namespace AU
structure St where
 lg:Vh
 lk:List (Option Nat)
 wy:List (List (Nat×Nat))
noncomputable def gW(w:List (Nat×Nat))(c:Nat):Option Nat:=(w.find? λp=>p.1==c).map (·.2)
noncomputable def pW(w:List (Nat×Nat))(c m:Nat):List (Nat×Nat):=if w.any (λp=>p.1==c) then w.map (λp=>if p.1==c then (p.1,m) else p) else w++[(c,m)]
structure WF(S:St):Prop where
 lk:S.lk.length=S.lg.length
 wy:S.wy.length=S.lg.length
 pos:0<S.lg.length
 up:∀i n,S.lk.getD i none=some n->n<S.lg.length
 on:∀i c n,gW (S.wy.getD i []) c=some n->n<S.lg.length
 nd:∀w∈S.wy,(w.map (·.1)).Nodup
 az:∀w∈S.wy,∀p∈w,97<=p.1/\p.1<=122
theorem sub_len{α:Type}[DecidableEq α]:∀(l r:List α),l.Nodup->(∀x∈l,x∈r)->l.length<=r.length
 |[],_,_,_=>Yk _
 |a :: l,r,nd,h=>by
  obtain⟨g,f⟩:=Zb.mp nd;have d:=h a Zx;have:=sub_len l (r.erase a) f λx b=>(List.mem_erase_of_ne (λe=>g (by rw[← e];exact b))).mpr (h x (Zy _ b));rw[List.length_erase_of_mem d]at this;have:=List.length_pos_of_mem d;rw[Zi];lia
def WF.small{S:St}(W:WF S)(i:Nat):(S.wy.getD i []).length<16777216:=by
 by_cases h:i<S.wy.length
 ·have a:S.wy.getD i []∈S.wy:=by
   rw[Zs,Zu h];exact ZC h
  have:=sub_len ((S.wy.getD i []).map (·.1)) (List.range 123) (W.nd _ a) λx b=>by
   obtain⟨p,d,rfl⟩:=ZV.mp b;have:=(W.az _ a p d).2;exact Yc.mpr (by exact Nat.lt_succ_of_le this)
  rw[Zt,ZT]at this;lia
 ·rw[Zs,ZF (ZO h)];decide
def FO(w:List (Nat×Nat))(c:Nat):(w.any λp=>p.1==c)=(gW w c).isSome:=by
 unfold gW;rw[Xp,Xq,Xg,List.find?_isSome]
def Eu(w:List (Nat×Nat))(c m d:Nat):gW (pW w c m) d=if d=c then Z m else gW w d:=by
 unfold pW;split
 ·rename_i h
  induction w with
  |nil=>simp at h
  |cons p w f =>
   rw[Zg];unfold gW;rw[Z6,Z6];by_cases q:p.1=c
   ·rw[Zp (by simpa using q)];by_cases r:p.1=d
    ·have:(p.1==d)=J:=by simpa using r
     simp only[this];rw[Zp (by rw[← r,q])];rfl
    ·have a:(p.1==d)=B:=by simpa using r
     have:d≠c:=λe=>r (by rw[e,q]);simp only[a,Zn this];have key:∀w:List (Nat×Nat),(w.map λp=>if p.1==c then (p.1,m) else p).find? (λp=>p.1==d)=w.find? λp=>p.1==d:=by
      intro w
      induction w with
      |nil=>rfl
      |cons x w f =>
       rw[Zg,Z6,Z6,f];by_cases y:x.1=c
       ·rw[Zp (by simpa using y)];have:(x.1==d)=B:=by simpa using λe=>this (by rw[← e,y])
        simp only[this]
       ·rw[Zn (by simpa using y)]
     rw[key w]
   ·rw[Zn (by simpa using q)];have b:=f (by
     rw[YH]at h;simpa[q] using h)
    by_cases r:p.1=d
    ·have a:(p.1==d)=J:=by simpa using r
     simp only[a];rw[Zn (λe=>q (by rw[r,e]))]
    ·have a:(p.1==d)=B:=by simpa using r
     simp only[a];exact b
 ·rename_i h;unfold gW;rw[List.find?_append];by_cases q:d=c
  ·subst q;have:w.find? (λp=>p.1==d)=L:=by
    rw[List.find?_eq_none];intro p g e;exact h (Xg.mpr ⟨p,g,e⟩)
   rw[this,Zp Y];simp
  ·rw[Zn q];have:((c==d)=B):=by simpa using λe=>q e.symm
   simp[this]
def Dn(w:List (Nat×Nat))(c m:Nat)(d:(w.map (·.1)).Nodup):((pW w c m).map (·.1)).Nodup:=by
 unfold pW;split
 ·rw[ZD];have:((λp:Nat×Nat=>p.1) ∘ λp=>if (p.1==c)=J then (p.1,m) else p)=λp=>p.1:=by
   funext p;simp only[Function.comp];split<;>rfl
  rw[this];exact d
 ·rename_i h;rw[Z8,ZL];refine⟨d,by simp,λa g b hb e=>?_⟩;have i:b=c:=by simpa using hb
  subst e i;obtain⟨p,f,e⟩:=ZV.mp g;exact h (Xg.mpr ⟨p,f,by simpa using e⟩)
def Hj(h:p∈pW w c m):p.1=c\/p∈w:=by
 unfold pW at h;split at h
 ·obtain⟨q,a,rfl⟩:=ZV.mp h;by_cases r:(q.1==c)=J
  ·rw[Zp r];exact .inl (by simpa using r)
  ·rw[Zn r];exact .inr a
 ·rcases ZW.mp h with h | h
  ·exact .inr h
  ·rw[Zj.mp h];exact .inl Y
def iT{α:Type}(l:List α)(i j:Nat)(x d:α):(l.set i x).getD j d=if i=j/\i<l.length then x else l.getD j d:=by
 rw[Zs,Zs,Vn];by_cases h:i=j
 ·subst h;by_cases a:i<l.length
  ·rw[Zp Y,Zp a,Zp ⟨rfl,a⟩];rfl
  ·rw[Zp Y,Zn a,Zn (λz=>a z.2),ZF (ZO a)]
 ·rw[Zn h,Zn (λz=>h z.1)]
def cn{α:Type}(l:List α)(x d:α)(j:Nat):(l++[x]).getD j d=if j=l.length then x else l.getD j d:=by
 rw[Zs,Zs];by_cases h:j<l.length
 ·rw[Yu h,Zn (Zf h)]
 ·rw[Yf (ZO h)];by_cases a:j=l.length
  ·rw[Zp a,a,Nat.sub_self];rfl
  ·rw[Zn a,ZF (ZO h),ZF (by simp;lia)]
def WF.way(W:WF S){n c v:Nat}(g:v<S.lg.length)(j:97<=c/\c<=122):WF ⟨S.lg,S.lk,S.wy.set n (pW (S.wy.getD n []) c v)⟩:=by
 refine⟨W.lk,by rw[Yo];exact W.wy,W.pos,W.up,λi d m h=>?_,λw hw=>?_,λw hw p f=>?_⟩
 ·have b:=h;rw[iT]at b;split at b
  ·rw[Eu]at b;split at b
   ·cases b;exact g
   ·exact W.on n d m b
  ·exact W.on i d m b
 ·by_cases a:n<S.wy.length
  ·rcases List.mem_or_eq_of_mem_set hw with h | h
   ·exact W.nd w h
   ·rw[h];refine Dn _ c v (W.nd _ ?_);rw[Zs,Zu a];exact ZC a
  ·rw[List.set_eq_of_length_le (ZO a)]at hw;exact W.nd w hw
 ·by_cases a:n<S.wy.length
  ·rcases List.mem_or_eq_of_mem_set hw with h | h
   ·exact W.az w h p f
   ·rw[h]at f;rcases Hj f with e | e
    ·rw[e];exact j
    ·refine W.az _ ?_ p e;rw[Zs,Zu a];exact ZC a
  ·rw[List.set_eq_of_length_le (ZO a)]at hw;exact W.az w hw p f
def WF.link(W:WF S){n v:Nat}(b:v<S.lg.length):WF ⟨S.lg,S.lk.set n (Z v),S.wy⟩:=by
 refine⟨by rw[Yo];exact W.lk,W.wy,W.pos,λi m h=>?_,W.on,W.nd,W.az⟩;have a:=h;rw[iT]at a;split at a
 ·cases a;exact b
 ·exact W.up i m a
def WF.more(W:WF S){l:Nat}{o:Option Nat}{w:List (Nat×Nat)}(f:∀n,o=Z n->n<S.lg.length)(hw:∀c n,gW w c=Z n->n<S.lg.length)(e:(w.map (·.1)).Nodup)(g:∀p∈w,97<=p.1/\p.1<=122):WF ⟨S.lg++[l],S.lk++[o],S.wy++[w]⟩:=by
 have b:∀{n},n<S.lg.length->n<(S.lg++[l]).length:=λh=>by rw[Zq,ZG];exact Yq h
 refine⟨by rw[Zq,Zq,W.lk];rfl,by rw[Zq,Zq,W.wy];rfl,by rw[Zq];exact ZU W.pos (YU _ _),λi n h=>?_,λi c n h=>?_,λx d=>?_,λx d=>?_⟩
 ·have a:=h;rw[cn]at a;split at a
  ·exact b (f n a)
  ·exact b (W.up i n a)
 ·have a:=h;rw[cn]at a;split at a
  ·exact b (hw c n a)
  ·exact b (W.on i c n a)
 ·rcases ZW.mp d with h | h
  ·exact W.nd x h
  ·rw[Zj.mp h];exact e
 ·rcases ZW.mp d with h | h
  ·exact W.az x h
  ·rw[Zj.mp h];exact g
def up1(c v:Nat):Nat->St->Option Nat->Option (St×Option Nat)
 |_,S,none=>Z (S,L)
 |0,_,some _=>L
 |k+1,S,some n=>if (gW (S.wy.getD n []) c).isSome then Z (S,Z n) else up1 c v k ⟨S.lg,S.lk,S.wy.set n (pW (S.wy.getD n []) c v)⟩ (S.lk.getD n L)
def Pq(c a v:Nat):Nat->St->Option Nat->Option St
 |_,S,none=>Z S
 |0,_,some _=>L
 |k+1,S,some n=>if gW (S.wy.getD n []) c=Z a then Pq c a v k ⟨S.lg,S.lk,S.wy.set n (pW (S.wy.getD n []) c v)⟩ (S.lk.getD n L) else Z S
def Pz(S:St)(n c:Nat):Option (St×Nat):=(gW (S.wy.getD n []) c).bind λold=>if S.lg.getD old 0=S.lg.getD n 0+1 then Z (S,old) else
 (Pq c old S.lg.length 1000 ⟨S.lg++[S.lg.getD n 0+1],(S.lk++[S.lk.getD old L]).set old (Z S.lg.length),S.wy++[S.wy.getD old []]⟩ (Z n)).map λa=>(a,S.lg.length)
def hb(S:St)(h c:Nat):Option (St×Nat):=if (gW (S.wy.getD h []) c).isSome then Pz S h c else
 (up1 c S.lg.length 1000 ⟨S.lg++[S.lg.getD h 0+1],S.lk++[Z 0],S.wy++[[]]⟩ (Z h)).bind λz=>match z.2 with
  |none=>Z (z.1,S.lg.length)
  |some n=>(Pz z.1 n c).map λy=>(⟨y.1.lg,y.1.lk.set S.lg.length (Z y.2),y.1.wy⟩,S.lg.length)
def hg(S:St)(h:Nat):Vh->Option (St×Nat)
 |[]=>Z (S,h)
 |c :: r=>(hb S h c).bind λz=>hg z.1 z.2 r
noncomputable def Sm(S:St):Prop:=S.lg.length<=100001
def WF.R4(W:WF S)(i:Nat):((S.wy.getD i []).map (·.1)).Nodup/\∀p∈S.wy.getD i [],97<=p.1/\p.1<=122:=by
 by_cases h:i<S.wy.length
 ·have a:S.wy.getD i []∈S.wy:=by
   rw[Zs,Zu h];exact ZC h
  exact⟨W.nd _ a,W.az _ a⟩
 ·rw[Zs,ZF (ZO h)];exact⟨Yt,λp b=>nomatch b⟩
noncomputable def S0:St:=⟨[0],[L],[[]]⟩
def EY:WF S0:=by
 refine⟨rfl,rfl,by decide,λi n h=>?_,λi c n h=>?_,λw hw=>?_,λw hw p a=>?_⟩
 ·cases i with
  |zero=>cases h
  |succ i=>cases h
 ·cases i with
  |zero=>cases h
  |succ i=>cases h
 ·rw[Zj.mp hw];exact Yt
 ·rw[Zj.mp hw]at a;cases a
end AU
end
section
namespace VS
def e2v{f:Val->Val->Vc}{a b:Ex}{U:Env}{x y:Val}(g:a U=Z x)(e:b U=Z y)(d:f x y=Z z):e2 f a b U=Z z:=by
 show (a U).bind _=_;rw[g,Zr,e];exact d
def xv{a:Ex}{r:Ko}{U:Env}{x:Val}(e:a U=Z x)(d:r U=Z b):ab a r U=Z (x :: b):=by
 show (a U).bind _=_;rw[e,Zr,d];rfl
def uD{b:Sx}{m:Md}(h:c U=Z (m,.bl J)):Lw c a b U=a U:=by
 show (c U).bind _=_;rw[h];rfl
def p8{m:Md}(h:c U=Z (m,.bl B)):Lw c a b U=b U:=by
 show (c U).bind _=_;rw[h];rfl
def jm(h:a U=Z b)(d:f b=Z v):eN f a U=Z v:=by
 show (a U).bind f=_;rw[h,Zr,d]
def fF{e:Ex}{U:Env}(h:e U=Z (.fr,t)):fT e U=Z (.rt (.fr,t) U):=by
 show (e U).bind _=_;rw[h];rfl
def om(h:a U=Z (.rt v d)):ak a b U=Z (.rt v d):=by
 show (a U).bind _=_;rw[h];rfl
def au{b:Sx}(h:a U=Z (.nx d)):ak a b U=b d:=by
 show (a U).bind _=_;rw[h];rfl
def sq{b:Sx}{U U1:Env}{r:Option Out}(h:a U=Z (.nx U1))(q:b U1=r):ak a b U=r:=(au h).trans q
def UA{U:Env}{m:Md}{r:Option Out}(h:c U=Z (m,.bl J))(q:a U=r):Lw c a b U=r:=(uD h).trans q
def uR{b:Sx}{m:Md}{r:Option Out}(h:c U=Z (m,.bl B))(q:b U=r):Lw c a b U=r:=(p8 h).trans q
def dJ{a:Vb}{U:Env}(f:a.length=d)(h:b (a.map (λt=>Z (.pu t))++List.replicate (e-d) L)=Z (.rt v U)):fn d e b a=Z v:=by
 unfold fn;rw[Zp f,h];rfl
def Em{a:Vb}{U:Env}(f:a.length=d)(h:b (a.map (λt=>Z (.pu t))++List.replicate (e-d) L)=Z (.nx U)):fn d e b a=Z (.fr,.non):=by
 unfold fn;rw[Zp f,h];rfl
def vA(f:a U=Z (m,.bl x))(e:x=J->b U=Z v)(d:x=B->v=(.fr,.bl B)):kJ a b U=Z v:=by
 show (a U).bind _=_;rw[f,Zr];cases x with
 |true=>exact e Y
 |false=>exact congrArg Z (d Y).symm
def Al{m:Md}{x:Bool}(f:a U=Z (m,.bl x))(e:x=B->b U=Z v)(d:x=J->v=(.fr,.bl J)):Oo a b U=Z v:=by
 show (a U).bind _=_;rw[f,Zr];cases x with
 |false=>exact e Y
 |true=>exact congrArg Z (d Y).symm
def JE{m n:Md}(f:a U=Z (m,.bl x))(d:b U=Z (.fr,.bl y)):kJ a b U=Z (.fr,.bl (x&&y)):=vA f (λe=>by rw[e];exact d) (λe=>by rw[e];rfl)
def Ur{m n:Md}{x y:Bool}(f:a U=Z (m,.bl x))(d:b U=Z (.fr,.bl y)):Oo a b U=Z (.fr,.bl (x||y)):=Al f (λe=>by rw[e];exact d) (λe=>by rw[e];rfl)
def oF{m:Md}{b:Bool}(h:a U=Z (m,.bl b)):nJ a U=Z (.fr,.bl (!b)):=by
 show (a U).bind _=_;rw[h];rfl
def n8{x y z:Val}(j:a U=Z x)(i:b U=Z y)(h:f x y=Z (.fr,.bl J))(e:c U=Z z)(d:g y z=Z v):i9 f g a b c U=Z v:=by
 show (a U).bind _=_;rw[j,Zr,i,Zr,h,Zr];rw[e];exact d
def DE{x y:Val}(h:a U=Z x)(e:b U=Z y)(d:f x y=Z (.fr,.bl B)):i9 f g a b c U=Z (.fr,.bl B):=by
 show (a U).bind _=_;rw[h,Zr,e,Zr,d];rfl
def xE{n:Nat}{i:Int}(b:0<=i)(a:i<n):KU n i=Z i.toNat:=by rw[KU,Zp b,Zp a]
def zS(a:i<n):KU n (i:Int)=Z i:=by
 rw[KU,Zp (WX i),Zp (Int.ofNat_lt.mpr a)];rfl
def Dg(l:Vg)(i:Int)(b:0<=i)(a:i<l.length):aC (m,.scr l) (n,.int i)=Z (.fr,.int (l.getD i.toNat 0)):=by
 show (KU l.length i).bind _=_;rw[xE b a,Zr,Zs,Zu (by lia)];rfl
def Cf(t:Tx)(i:Int)(b:0<=i)(a:i<t.length):aC (m,.str t) (n,.int i)=Z (.fr,.str [t.getD i.toNat 0]):=by
 show (KU t.length i).bind _=_;rw[xE b a,Zr,Zs,Zu (by lia)];rfl
def nc{r:Bool}(e:KY 60 a=J)(d:KY 60 b=J)(h:eqT a b=r):oEq (m,a) (n,b)=Z (.fr,.bl r):=by
 show (if KY 60 a/\KY 60 b then Z (Md.fr,T.bl (eqT a b)) else L)=_;rw[Zp ⟨e,d⟩,h]
def zZ{m n:Md}{r:Bool}(e:KY 60 a=J)(d:KY 60 b=J)(h:eqT a b=r):NF (m,a) (n,b)=Z (.fr,.bl (!r)):=by
 show (if KY 60 a/\KY 60 b then Z (Md.fr,T.bl (!eqT a b)) else L)=_;rw[Zp ⟨e,d⟩,h]
def oX{i:Nat}{e:Ex}{U:Env}(d:U[i]?=Z (Z (.ow (.lst l))))(b:e U=Z (.fr,v))(a:l.length<16777216):sX (pP i [] aJ (ab e aj)) U=Z (.nx (U.set i (Z (.ow (.lst (l++[v])))))):=by
 unfold sX pP;rw[d];show ((Z ([])).bind _ |>.map _)=_;rw[Zr,(xv b Y),Zr];show ((aJ (.lst l) [(.fr,v)]).map _ |>.map _)=_;rw[dq a];rfl
def Fq{m:Md}(e:a U=Z (m,.str x))(d:b U=Z (n,.str y))(h:x.length+y.length<=16777216):e2 bA a b U=Z (.fr,.str (x++y)):=e2v e d (lW h)
end VS
end
section
namespace T32
open VS AU
noncomputable abbrev pc(t:T):Ve:=Z (.pu t)
abbrev Q0(i:Int):Option Cell:=Z (.pu (.int i))
abbrev Q2(t:Tx):Option Cell:=Z (.pu (.str t))
noncomputable abbrev oc(t:T):Ve:=Z (.ow t)
noncomputable def KG(w:List (Nat×Nat)):T:=.dct 0 (w.map λp=>(T.str [p.1],T.int (p.2:Int)))
noncomputable def Kx:Option Nat->T
 |none=>.non
 |some n=>.int (n:Int)
def Mo(S:St):vN:=[(1,.lst (S.lg.map λ(n:Nat)=>T.int (n:Int))),(2,.lst (S.lk.map Kx)),(3,.lst (S.wy.map KG))]
def J0(S:St)(b:Bool):T:=.obj 1 ((0,.bl b) :: Mo S)
def mY(o:Option Nat):J3 (Kx o)=J:=by cases o<;>rfl
theorem kg{α:Type}(f:α->T)(h:∀a,ja (f a)=J):∀l:List α,cz (l.map f)=J
 |[]=>rfl
 |a :: l=>by rw[Zg,cz,h a,kg f h l];rfl
def AJ(w:List (Nat×Nat)):ja (KG w)=J:=by
 show vd (w.map λp=>(T.str [p.1],T.int (p.2:Int)))=J
 induction w with
 |nil=>rfl
 |cons p w a=>rw[Zg,vd,a];rfl
def n9(S:St):jw (Mo S)=J:=by
 have d:ja (.lst (S.lg.map λ(n:Nat)=>T.int (n:Int)))=J:=kg _ (λ_=>rfl) _;have b:ja (.lst (S.lk.map Kx))=J:=kg _ (λo=>o9 _ (mY o)) _;have a:ja (.lst (S.wy.map KG))=J:=kg _ AJ _;show ((ja _ && !(1==0&&Uz _))&&((ja _ && !(2==0&&Uz _))&&((ja _ && !(3==0&&Uz _))&&J)))=J;rw[d,b,a];rfl
def HF(S:St)(b:Bool):zi 1 (J0 S b)=Z (.lst (S.lg.map λ(n:Nat)=>T.int (n:Int))):=rfl
def JC(S:St)(b:Bool):zi 2 (J0 S b)=Z (.lst (S.lk.map Kx)):=rfl
def JN(S:St)(b:Bool):zi 3 (J0 S b)=Z (.lst (S.wy.map KG)):=rfl
def rR(h:a U=Z (m,t))(b:zi k t=Z u):bY k a U=Z (sub m u):=by
 unfold bY;rw[h,Zr,b];rfl
def qQ{α:Type}{m n:Md}(f:α->T)(l:List α)(i:Nat)(d:α)(h:i<l.length):aC (m,.lst (l.map f)) (n,.int (i:Int))=Z (sub m (f (l.getD i d))):=by
 show (KU (l.map f).length (i:Int)).bind _=_;rw[Zt,zS h,Zr,Zd,Zu h,Zs,Zu h];rfl
section
def um{i:Nat}(h:a U=Z (m,J0 S b))(he:e U=Z (n,.int (i:Int)))(d:i<S.lg.length):e2 aC (bY 1 a) e U=Z (.fr,.int ((S.lg.getD i 0:Nat):Int)):=e2v (rR h (HF S b)) he (qQ _ _ i 0 d)
def xU{i:Nat}(h:a U=Z (m,J0 S b))(he:e U=Z (n,.int (i:Int)))(d:i<S.lk.length):e2 aC (bY 2 a) e U=Z (.fr,Kx (S.lk.getD i L)):=(e2v (rR h (JC S b)) he (qQ _ _ i L d)).trans (by
 show Z (up _ _)=_;unfold up;rw[mY];rfl)
def oJ{i:Nat}(h:a U=Z (m,J0 S b))(he:e U=Z (n,.int (i:Int)))(d:i<S.wy.length):e2 aC (bY 3 a) e U=Z (m,KG (S.wy.getD i [])):=e2v (rR h (JN S b)) he (qQ _ _ i [] d)
def Hx(h:a U=Z (m,J0 S b)):eN bO (ab (bY 1 a) aj) U=Z (.fr,.int (S.lg.length:Nat)):=jm (xv (rR h (HF S b)) Y) (by
 show Z (Md.fr,T.int (((S.lg.map λ(n:Nat)=>T.int (n:Int)).length:Nat):Int))=_;rw[Zt])
end
def GF(a c:Nat):eqT (.str [a]) (.str [c])=(a==c):=by
 by_cases h:a=c
 ·simp[h]
 ·simp[h]
def rM(w:List (Nat×Nat))(c:Nat):dn (w.map λp=>(T.str [p.1],T.int (p.2:Int))) (.str [c])=(gW w c).map λ(n:Nat)=>T.int (n:Int):=by
 unfold dn gW;rw[List.find?_map];have:((λp:T×T=>eqT p.1 (.str [c])) ∘ λp:Nat×Nat=>(T.str [p.1],T.int (p.2:Int)))=λp:Nat×Nat=>p.1==c:=by
  funext p;exact GF p.1 c
 rw[this];cases w.find? λp=>p.1==c with
 |none=>rfl
 |some p=>rfl
def IH(w:List (Nat×Nat))(c m:Nat):dput (w.map λp=>(T.str [p.1],T.int (p.2:Int))) (.str [c]) (.int (m:Int))=(pW w c m).map λp=>(T.str [p.1],T.int (p.2:Int)):=by
 have a:(w.map λp=>(T.str [p.1],T.int (p.2:Int))).any (λp=>eqT p.1 (.str [c]))=w.any λp=>p.1==c:=by
  rw[List.any_map];congr 1;funext p;exact GF p.1 c
 unfold dput pW;rw[a];split
 ·rw[ZD,ZD];apply YR;intro p _;simp only[Function.comp,GF];split<;>rfl
 ·rw[Z8];rfl
section
def Jz(h:a U=Z (m,KG w))(he:e U=Z (n,.str [c])):e2 kD e a U=Z (.fr,.bl (gW w c).isSome):=e2v he h (by
 show (if J=J then Z (Md.fr,T.bl (dn _ _).isSome) else L)=_;rw[Zp Y,rM,Xp])
def EF(h:a U=Z (m,KG w))(he:e U=Z (n,.str [c])):e2 bV e a U=Z (.fr,.bl (!(gW w c).isSome)):=e2v he h (by
 show (match (if J=J then Z (Md.fr,T.bl (dn (w.map λp=>(T.str [p.1],T.int (p.2:Int))) (.str [c])).isSome) else L) with | some (_,.bl b)=>some (Md.fr,T.bl (!b)) | _=>none)=_;rw[Zp Y,rM,Xp])
def yo(h:a U=Z (m,KG w))(he:e U=Z (n,.str [c]))(d:gW w c=Z v):e2 LN a e U=Z (.fr,.int (v:Int)):=e2v h he (by
 show (if J=J then (dn _ _).map (sub m) else L)=_;rw[Zp Y,rM,d];rfl)
def Ib(h:a U=Z (m,KG w))(he:e U=Z (n,.str [c])):e2 yN a e U=Z (.fr,Kx (gW w c)):=e2v h he (by
 show (if J=J then Z (match dn (w.map λp=>(T.str [p.1],T.int (p.2:Int))) (.str [c]) with | some t=>sub m t | none=>(.fr,.non)) else none)=_;rw[Zp Y,rM];cases gW w c with
 |none=>rfl
 |some v=>rfl)
def Ci{S:St}{v:Nat}(d:i<S.wy.length)(he:e (oc (J0 S b) :: r)=Z (n,.int (i:Int)))(l:ec (oc (J0 S b) :: r)=Z (m,.str [c]))(g:ev (oc (J0 S b) :: r)=Z (k,.int (v:Int)))(f:(S.wy.getD i []).length<16777216) :
  jY 0 [.fld 3,.ix e] ec ev (oc (J0 S b) :: r)=Z (.nx (oc (J0 ⟨S.lg,S.lk,S.wy.set i (pW (S.wy.getD i []) c v)⟩ b) :: r)):=by
 unfold jY;rw[g,Zr];show ((keys [.fld 3,.ix e] (oc (J0 S b) :: r)).bind _)=_;have j:keys [.fld 3,.ix e] (oc (J0 S b) :: r)=Z [.fld 3,.at (.int (i:Int))]:=by
  show ((e _).bind _).map _=_;rw[he];rfl
 rw[j,Zr,l,Zr];have h:pm (ux (m,.str [c]) (k,.int (v:Int))) [.fld 3,.at (.int (i:Int))] (J0 S b)=Z (J0 ⟨S.lg,S.lk,S.wy.set i (pW (S.wy.getD i []) c v)⟩ b,()):=by
  show ((pm (ux (m,.str [c]) (k,.int (v:Int))) [.at (.int (i:Int))] (.lst (S.wy.map KG))).map _)=_;have:pm (ux (m,.str [c]) (k,.int (v:Int))) [.at (.int (i:Int))] (.lst (S.wy.map KG))=Z (.lst ((S.wy.set i (pW (S.wy.getD i []) c v)).map KG),()):=by
   show ((KU (S.wy.map KG).length (i:Int)).bind _)=_;rw[Zt,zS d,Zr,Zd,Zu d];have e1:S.wy.getD i []=S.wy[i]:=by rw[Zs,Zu d];rfl
   rw[e1]at f ⊢;show ((if J=J/\J=J/\(S.wy[i].map _).length<fq then Z (T.dct 0 (dput _ _ _),()) else L).map _)=_;rw[Zp ⟨rfl,rfl,by rw[Zt];exact f⟩,IH,Vo];rfl
  rw[this];rfl
 rw[h];rfl
def Ao{S:St}{v:Nat}{r:List (Ve)}(h:i<S.lk.length)(he:e (oc (J0 S b) :: r)=Z (n,.int (i:Int)))(d:ev (oc (J0 S b) :: r)=Z (.fr,.int (v:Int))) :
  jY 0 [.fld 2] e ev (oc (J0 S b) :: r)=Z (.nx (oc (J0 ⟨S.lg,S.lk.set i (Z v),S.wy⟩ b) :: r)):=by
 unfold jY;rw[d,Zr];show ((keys [.fld 2] (oc (J0 S b) :: r)).bind _)=_;have g:keys [.fld 2] (oc (J0 S b) :: r)=Z [.fld 2]:=rfl;rw[g,Zr,he,Zr];have f:pm (ux (n,.int (i:Int)) (.fr,.int (v:Int))) [.fld 2] (J0 S b)=Z (J0 ⟨S.lg,S.lk.set i (Z v),S.wy⟩ b,()):=by
  show ((ux (n,.int (i:Int)) (.fr,.int (v:Int)) (.lst (S.lk.map Kx))).map _)=_;have:ux (n,.int (i:Int)) (.fr,.int (v:Int)) (.lst (S.lk.map Kx))=Z (.lst ((S.lk.set i (Z v)).map Kx),()):=by
   show ((KU (S.lk.map Kx).length (i:Int)).map _)=_;rw[Zt,zS h,Vo];rfl
  rw[this];rfl
 rw[f];rfl
end
end T32
end
section
namespace VS
def wr(a:Bool)(k:Nat)(t:T):T:=if a then OW k t else t
def PR(l:Vb):List Ia:=l.map λt=>Ia.ex (eC t)
theorem Ab(U:Env):∀l:Vb,pV U (PR l)=Z l
 |[]=>rfl
 |t :: l=>by
  show ((Z (Md.fr,t)).bind λv=>(exV v).bind λt=>(pV U (PR l)).map (t :: ·))=_;rw[Ab U l];rfl
theorem xR(U:Env):∀l:Vb,j0 (PR l) [] U=U
 |[]=>rfl
 |t :: l=>xR U l
theorem EL:∀l:Vb,KP (PR l)=[]
 |[]=>rfl
 |t :: l=>EL l
section
def ci{r:List Ia}(d:U[i]?=Z (Z (.ow (wr un k t0))))(e:pV U r=Z l)(w:KP r=[])(n:∀U,j0 r [] U=U)(p:oV t0=J)(o:ja t0=J)(q:cz l=J)(v:g (t0 :: l)=Z ([t1],y)) :
  oU (.io i un :: r) g U=Z ((.fr,y),U.set i (Z (.ow (wr un k t1)))):=by
 have e2:pV U (.io i un :: r)=Z (t0 :: l):=by
  show (SD un U[i]?).bind _=_;rw[d];have:SD un (Z (Z (.ow (wr un k t0))))=Z t0:=by
   cases un
   ·show (if oV t0 then Z t0 else L)=_;rw[Zp p]
   ·rfl
  rw[this];rw[e];rfl
 unfold oU;rw[e2,Zr,Zp ⟨ZZ.mpr ⟨o,q⟩,by show (i :: KP r).Nodup;rw[w];exact Zb.mpr ⟨(λh=>nomatch h),Yt⟩⟩,v];show Z ((Md.fr,y),j0 r [] (U.set i (Z (.ow (qL un U[i]? t1)))))=_;rw[n,d];cases un<;>rfl
def cx{U:Env}(q:U[i]?=Z (Z c0))(d:mV r U=Z (PR l,U1))(p:U1[i]?=Z (Z (.ow (wr un k t0))))(h:oV t0=J)(e:ja t0=J)(n:cz l=J)(o:g (t0 :: l)=Z ([t1],y)) :
  aV (.io i un :: r) g U=Z ((.fr,y),U1.set i (Z (.ow (wr un k t1)))):=by
 have e1:mV (.io i un :: r) U=Z (.io i un :: PR l,U1):=by
  unfold mV;rw[q];rw[d];rfl
 unfold aV;rw[e1];exact ci p (Ab U1 l) (EL l) (λU=>xR U l) h e n o
def qX(d:x U=Z ((.fr,t),U1))(h:J3 t=J)(e:mV r U1=Z (PR l,U2)):mV (.px x :: r) U=Z (PR (t :: l),U2):=by
 unfold mV;rw[d,Zr,Zp h,e];rfl
def de(h:c U=Z (m,t))(hi:J3 t=J):xI c U=Z ((.fr,t),U):=by
 unfold xI;rw[h,Zr,Zp hi]
def nu(p:a U=Z ((.fr,s),U1))(o:b U1=Z ((.fr,t),U2))(n:f (.fr,s) (.fr,t)=Z (m,u))(h:J3 s=J)(e:J3 t=J)(d:J3 u=J):x2 f a b U=Z ((.fr,u),U2):=by
 unfold x2;rw[p,Zr,o,Zr,n,Zr,Zp ⟨h,e,d⟩]
def ir(h:x U=Z ((.fr,t),U1))(hi:J3 t=J)(d:j<U1.length):eJ j x U=Z (.nx (U1.set j (Z (.pu t)))):=by
 unfold eJ;rw[h,Zr,Zp ⟨hi,d⟩]
def Du(h:x U=Z ((.fr,t),U1))(d:J3 t=J):nq x U=Z (.rt (.fr,t) U1):=by
 unfold nq;rw[h,Zr,Zp d]
def yx(l:Vg):fZ (l.map .int)=J:=by
 induction l with
 |nil=>rfl
 |cons a l d=>exact d
def oi{i:Int}(l:Vg)(h:c U=Z (.fr,.lst (l.map .int)))(e:b U=Z ((.fr,.int i),U1))(n:0<=i)(d:i<l.length):nB c b U=Z ((.fr,.int (l.getD i.toNat 0)),U1):=by
 unfold nB;rw[h,Zr];show (b U).bind _=_;rw[e,Zr];show (KU (l.map T.int).length i).bind _=_;rw[Zt,xE n d,Zr,Zd,Zu (by omega)];show (if fZ (l.map .int)=J/\J3 (T.int (l[i.toNat]'(by omega)))=J then Z ((Md.fr,T.int (l[i.toNat]'(by omega))),U1) else L)=_;rw[Zp ⟨yx l,rfl⟩,Zs,Zu (by omega)];rfl
def Cw{U:Env}{n:Nat}{c:Cell}{i:Int}(l:List Tx)(h:U[n]?=Z (Z c))(q:b U=Z ((.fr,.int i),U1))(p:U1[n]?=Z (Z d))(o:ku d=.lst (l.map .str))(v:0<=i)(e:i<l.length):tZ n b U=Z ((.fr,.str (l.getD i.toNat [])),U1):=by
 unfold tZ;rw[h];rw[q,Zr];rw[p];dsimp only;rw[o];show (KU (l.map T.str).length i).bind _=_;rw[Zt,xE v e,Zr,Zd,Zu (by omega)];rw[Zs,Zu (by omega)];rfl
def xB{i:Int}(h:x U=Z ((.fr,.int i),U1)):pG (Z x) U=Z (Z i,U1):=by
 show (x U).bind _=_;rw[h];rfl
def EM{lo hi:Option Xx}(h:a U=Z ((.fr,.str w),U1))(e:pG lo U1=Z (p,U2))(d:pG hi U2=Z (q,U3)):R3 a lo hi U=Z ((.fr,.str (cut w p q)),U3):=by
 unfold R3;rw[h,Zr];show (pG lo U1).bind _=_;rw[e,Zr];rw[d];rfl
def sC{e:List Bool}{h n:Vb}{v:Val}(z:h.length+1=o/\e.length=h.length)(A:d ((Z (.ow (OW 1 t0)) :: List.zipWith kj e (markL 1 e h))++List.replicate (p-o) L)=Z (.rt v U))(q:ni U 0 (J :: e)=Z n)(C:Ah n v=J)(w:cz n=J):Oa o p e d (t0 :: h)=Z (n,v.2):=by
 dsimp only[Oa];rw[Zp z,A,Zr];dsimp only;rw[q,Zr,Zp ⟨C,w⟩]
def EW(h:d U=Z (J,U1)):vX d p q U=p U1:=by
 unfold vX;rw[h];rfl
def xq(h:d U=Z (B,U1)):vX d p q U=q U1:=by
 unfold vX;rw[h];rfl
def AN(h:c U=Z (m,.bl B)):kz c d U=Z (B,U):=by
 unfold kz;rw[h];rfl
def AR(h:c U=Z (m,.bl J)):kz c d U=d U:=by
 unfold kz;rw[h];rfl
def Ii{b:Bool}(h:x U=Z ((.fr,.bl b),U1)):Po x U=Z (b,U1):=by
 unfold Po;rw[h];rfl
def wA{i j:Int}(e:a U=Z ((.fr,.int i),U1))(d:b U1=Z ((.fr,.int j),U2)):Po (x2 oEq a b) U=Z (i==j,U2):=Ii (nu e d (nc Y Y (by simp only[eqT])) Y Y Y)
def Gi{f:Val->Vd->Vc}{x:Val}(p:o U=Z x)(n:e U=Z d)(h:f x d=Z v):eM f o e U=Z v:=by
 unfold eM;rw[p,Zr,n];exact h
def x9(h:x U=Z ((m,t),U1))(d:j<U1.length):nF j x U=Z (.nx (U1.set j (Z (.ow t)))):=by
 unfold nF;rw[h,Zr,Zp d]
end
end VS
end
section
namespace T32
open VS
abbrev sp(a:Bool)(n:Int):Ve:=oc (wr a 1 (.lst [.int n]))
def Gy(n m:Int)(h:0<m/\m<1073741824):aA [.lst [.int n],.int m]=Z ([.lst [.int (n/m)]],.int (n%m)):=by
 have s1:aN 2 (e2 oMod (e2 aC (Tz (aa 0)) (Q3 0)) (aa 1)) [sp J n,Q0 m,L]=Z (.nx [sp J n,Q0 m,Q0 (n%m)]) :=
  aE (e2v Y Y (gm h.1)) (by decide) (by show 2<3;decide)
 exact sC (v:=(.fr,.int (n%m))) ⟨rfl,rfl⟩ ((au s1).trans ((au (by
  unfold jY;rw[e2v (f:=l5) (x:=(.fr,.int n)) (y:=(.fr,.int m)) (U:=[sp J n,Q0 m,Q0 (n%m)]) (a:=e2 aC (Tz (aa 0)) (Q3 0)) (b:=aa 1) Y Y (lP h)];rfl)).trans Y)) Y Y Y
section
variable{n m:Int}
def nx{U:Env}(a:0<m/\m<1073741824)(g:U[i]?=Z (Z c0))(e:x U=Z ((.fr,.int m),U1))(f:U1[i]?=Z (sp un n)):∃d b,0<=d/\d<m/\aV [.io i un,.px x] aA U=Z ((.fr,.int d),U1.set i (sp un b)) :=
 ⟨n%m,n/m,XY _ (by lia),Xu _ a.1,cx g (qX e Y Y) f Y Y Y (Gy n m a)⟩
end
def ox{i:Int}(h:x (Q0 i :: U)=Z ((.fr,t),c :: a))(f:J3 t=J)(e:gU x r a=Z (b,d)):gU x (i :: r) U=Z (t :: b,d):=by
 unfold gU;rw[h,Zr];show (if J3 t=J then (gU x r a).map _ else _)=_;rw[Zp f,e];rfl
def BY(L:Tx)(a n:Int)(y:0<L.length)(D:L.length<1000)(C:0<=a)(A:a<1000):∃(b:Int)(t:Tx),dF [.lst [.int n],.str L,.int a]=Z ([.lst [.int b]],.str t)/\t.length<=a.toNat/\∀c∈t,c∈L:=by
 have loop:∀(r:Vg)(n:Int),∃(b:Int)(s:Tx),gU (x2 aC (xI (aa 2)) (aV [(.io 1 J),(.px (xI (eN bO (ab (aa 2) aj))))] aA)) r [sp J n,Q2 L,Q0 a]=Z (s.map λc=>T.str [c],[sp J b,Q2 L,Q0 a])/\s.length=r.length/\∀c∈s,c∈L:=by
  intro r
  induction r with
  |nil=>intro n;exact⟨n,[],rfl,rfl,λ_ h=>nomatch h⟩
  |cons i r q =>
   intro n;obtain⟨d,f,l,p,e⟩:=nx (i:=1) (x:=xI (eN bO (ab (aa 2) aj))) (U:=[Q0 i,sp J n,Q2 L,Q0 a]) (by lia) Y (de Y Y) Y;obtain⟨b,s,o,g,j⟩:=q f;have hd:d.toNat<L.length:=by lia
   refine⟨b,L.getD d.toNat 0 :: s,ox (nu (de Y Y) e (Cf L d l p) Y Y Y) Y o,by rw[Zi,Zi,g],λc w=>?_⟩;rcases Zo.mp w with rfl | h
   ·rw[Zs,Zu hd];exact ZC hd
   ·exact j c h
 obtain⟨d,f,l,p,e⟩:=nx (i:=0) (x:=xI (e2 bA (aa 2) (Q3 1))) (U:=[sp J n,Q2 L,Q0 a]) (by lia) Y (de Y Y) Y;obtain⟨b,s,o,g,j⟩:=loop (N9 0 d.toNat) f;have u:s.length=d.toNat:=by rw[g];unfold N9;rw[Zt,Y2]
 refine⟨b,s,?_,by lia,j⟩;have v:md (aV [(.io 0 J),(.px (xI (e2 bA (aa 2) (Q3 1))))] aA) (x2 aC (xI (aa 2)) (aV [(.io 1 J),(.px (xI (eN bO (ab (aa 2) aj))))] aA)) [sp J n,Q2 L,Q0 a]=Z (s.map λc=>T.str [c],[sp J b,Q2 L,Q0 a]):=by
  unfold md;rw[e,Zr];show (if 0<=d/\d<1000000 then gU _ (N9 0 d.toNat) _ else none)=_;rw[Zp ⟨l,by lia⟩];exact o
 refine sC (U:=[sp J b,Q2 L,Q0 a]) ⟨rfl,rfl⟩ (Du ?_ Y) Y Y Y;refine(congrArg (λz=>Option.bind z _) v).trans ?_;have:=qD (m:=.fr) (n:=.fr) (strs_map (λx=>[x]) s) (by rw[gh];lia);rw[gh]at this;show (ly (.fr,.str []) [(.fr,.lst (s.map λc=>T.str [c]))]).map _=_;rw[this];rfl
noncomputable def az:Tx:=[97,98,99,100,101,102,103,104,105,106,107,108,109,110,111,112,113,114,115,116,117,118,119,120,121,122]
def Gz:∀c∈az,97<=c/\c<=122:=by decide
def getD_mem'{l:Tx}(h:i<l.length):l.getD i 0∈l:=by
 rw[Zs,Zu h];exact ZC h
def DV(n:Int):∃(r:Int)(s:Tx),fP [.lst [.int n]]=Z ([.lst [.int r]],.str s)/\0<s.length/\s.length<=26/\∀c∈s,97<=c/\c<=122:=by
 obtain⟨d,q,C,A,e⟩:=nx (i:=0) (x:=xI (Q3 8)) (U:=[sp J n,Q2 az,L,L,L]) (by decide) Y (de Y Y) Y;have u:∀k,k<8->1<=([2,1,3,2,4,2,3,26]:Vg).getD k 0/\([2,1,3,2,4,2,3,26]:Vg).getD k 0<=26:=by decide
 have f1:=u d.toNat (by lia);have g:=ir (oi (c:=(fg (ab (Q3 2) (ab (Q3 1) (ab (Q3 3) (ab (Q3 2) (ab (Q3 4) (ab (Q3 2) (ab (Q3 3) (ab (Q3 26) aj)))))))))) ([2,1,3,2,4,2,3,26]) Y e C A) Y (by show 2<5;decide);generalize ([2,1,3,2,4,2,3,26]:Vg).getD d.toNat 0=Lq at f1 g;obtain⟨a,p,M,H,e3⟩:=nx (i:=0) (x:=xI (Q3 26)) (U:=[sp J q,Q2 az,Q0 Lq,L,L]) (by decide) Y (de Y Y) Y;obtain⟨o,h,F,E,z⟩:=nx (i:=0) (x:=xI (Q3 4)) (U:=[sp J p,Q2 az,Q0 Lq,Q0 a,L]) (by decide) Y (de Y Y) Y;have f:=ir (oi (c:=(fg (ab (Q3 1) (ab (Q3 3) (ab (Q3 25) (ab (Q3 7) aj)))))) ([1,3,25,7]) Y z F E) Y (by show 4<5;decide);have t:∀k,k<4->0<=([1,3,25,7]:Vg).getD k 0/\([1,3,25,7]:Vg).getD k 0<=26:=by decide
 have y:=t o.toNat (by lia);generalize ([1,3,25,7]:Vg).getD o.toNat 0=st at y f;have D:=cF (k:=1) (tg:=aG 0) (it:=cR (aa 2)) (elt:=e2 aC (aa 2) (e2 oMod (e2 bA (aa 4) (e2 iI (aa 5) (aa 0))) (Q3 26))) (U:=[sp J h,Q2 az,Q0 Lq,Q0 a,Q0 st]) (λ(j:Nat)=>T.int (j:Int)) (λj=>T.str [az.getD ((a+st*(j:Int))%26).toNat 0]) (List.range Lq.toNat) (by
   rw[g8 Y (by lia),jS]) Y (by rw[ZT];lia) λj G=>⟨_,rfl,by
   refine e2v Y (e2v (e2v Y (e2v Y Y (lb (by omega))) Y) Y (gm (by decide))) (Cf az _ (XY _ (by decide)) (Xu _ (by decide)))⟩
 have l:=qD (m:=.fr) (n:=.fr) (strs_map (λ(j:Nat)=>[az.getD ((a+st*(j:Int))%26).toNat 0]) (List.range Lq.toNat)) (by rw[show (List.range Lq.toNat).map (λ(j:Nat)=>[az.getD ((a+st*(j:Int))%26).toNat 0])=((List.range Lq.toNat).map λ(j:Nat)=>az.getD ((a+st*(j:Int))%26).toNat 0).map (λx=>[x]) from by rw[ZD];rfl,gh,Zt,ZT];lia);rw[show (List.range Lq.toNat).map (λ(j:Nat)=>[az.getD ((a+st*(j:Int))%26).toNat 0])=((List.range Lq.toNat).map λ(j:Nat)=>az.getD ((a+st*(j:Int))%26).toNat 0).map (λx=>[x]) from by rw[ZD];rfl,gh]at l;refine⟨h,(List.range Lq.toNat).map λ(j:Nat)=>az.getD ((a+st*(j:Int))%26).toNat 0,sC (v:=(.fr,.str _)) ⟨rfl,rfl⟩ ((au Y).trans ((au g).trans ((au (ir e3 Y (by show 3<5;decide))).trans ((au f).trans (fF ?_))))) Y Y Y,by rw[Zt,ZT];lia,by rw[Zt,ZT];lia,λc w=>?_⟩
 ·exact Gi Y (xv D Y) l
 ·obtain⟨j,_,rfl⟩:=ZV.mp w;have:=XY (a+st*(j:Int)) (b:=26) (by decide);have:=Xu (a+st*(j:Int)) (b:=26) (by decide);exact Gz _ (getD_mem' (by show _<26;lia))
theorem iP{β:Type}{tg:Tg}{body:Sx}(g:β->T)(Inv:List β->Env->Prop)(h:∀t r U,Inv (t :: r) U->∃i a,tg (g t) U=Z i/\body i=Z (.nx a)/\Inv r a):∀(l:List β)(U:Env),Inv l U->∃b,forL tg body (l.map g) U=Z (.nx b)/\Inv [] b
 |[],U,f=>⟨U,rfl,f⟩
 |t :: l,U,f=>by
  obtain⟨i,a,e1,e2,e⟩:=h t l U f;obtain⟨b,e3,d⟩:=iP g Inv h l a e;exact⟨b,(cw e1 e2).trans e3,d⟩
noncomputable def Az(t:Tx):Prop:=∀c∈t,97<=c/\c<=122
abbrev EB(n:Int)(L:Tx)(a:Int)(f:List Tx)(e d b:Ve):Env:=[sp J n,Q2 L,Q0 a,oc (.lst (f.map .str)),e,d,b]
section
variable{L:Tx}{many:Int}
def RC(n m:Int)(b:0<m/\m<1073741824){c:Ex}(e:c (EB n L many bk z4 z5 z6)=Z (.fr,.int m)):∃d a,0<=d/\d<m/\aV [.io 0 J,.px (xI c)] aA (EB n L many bk z4 z5 z6)=Z ((.fr,.int d),EB a L many bk z4 z5 z6) :=
 nx b Y (de e Y) Y
def P9(g:0<L.length/\L.length<=26/\Az L)(n d a:Int)(f:0<=a/\a<1000){x:Xx}(i:x (EB n L many bk z4 z5 z6)=Z ((.fr,.int a),EB d L many bk z4 z5 z6)):∃(b:Int)(t:Tx),t.length<=a.toNat/\Az t/\aV [.io 0 J,.px (xI (aa 1)),.px x] dF (EB n L many bk z4 z5 z6)=Z ((.fr,.str t),EB b L many bk z4 z5 z6):=by
 obtain⟨b,t,e,m,j⟩:=BY L a d g.1 (by lia) f.1 f.2;exact⟨b,t,m,λc h=>g.2.2 c (j c h),cx (r:=[.px (xI (aa 1)),.px x]) (l:=[.str L,.int a]) Y (qX (de Y Y) Y (qX i Y Y)) Y Y Y Y e⟩
end
def zP(h:Az t):Az (cut t p q):=λc a=>h c (CW t p q a)
def vG(h:Az s)(g:Az t):Az (s++t):=λc a=>(ZW.mp a).elim (h c) (g c)
def By(t:Tx)(k:Nat):(cut t L (Z (k:Int))).length<=k:=by
 rw[Fg];exact List.length_take_le _ _
def Da:∀k,k<8->0<=([2,1,3,2,4,0,1,8]:Vg).getD k 0/\([2,1,3,2,4,0,1,8]:Vg).getD k 0<=8:=by decide
def DF:∀k,k<4->0<=([6,3,10,8]:Vg).getD k 0/\([6,3,10,8]:Vg).getD k 0<=10:=by decide
def mJ{l:List Tx}{i:Nat}(h:i<l.length):l.getD i []∈l:=by
 rw[Zs,Zu h];exact ZC h
def yL{L:Tx}(Q:0<L.length/\L.length<=26/\Az L){h:Int}(P:∀t∈bk,t.length<=14/\Az t)(h8:bk.length<8)(n:Int)(F z6:Ve) :
  ∃(l:Int)(t:Tx)(x o:Ve),iC (EB n L h bk (Q0 (bk.length:Int)) F z6)=Z (.nx (EB l L h (bk++[t]) (Q0 (bk.length:Int)) x o))/\t.length<=14/\Az t:=by
 obtain⟨d,O,d0,d1,e⟩:=RC (bk:=bk) n 4 (by decide) (c:=Q3 4) Y;have g:=DF d.toNat (by lia);obtain⟨u,t,ht,w,Kz⟩:=P9 Q n O _ ⟨g.1,by lia⟩ (oi (c:=fg (ab (Q3 6) (ab (Q3 3) (ab (Q3 10) (ab (Q3 8) aj))))) ([6,3,10,8]) Y e d0 d1);have E:t.length<=14:=by lia
 have s1:=ir Kz Y (by show 5<7;decide);have fin:∀(l:Int)(t:Tx)(o:Ve),t.length<=14->Az t->∃(v:Int)(r:Tx)(x UW:Ve),sX (pP 3 [] aJ (ab (aa 5) aj)) (EB l L h bk (Q0 (bk.length:Int)) (Q2 t) o)=Z (.nx (EB v L h (bk++[r]) (Q0 (bk.length:Int)) x UW))/\r.length<=14/\Az r:=λl t o S R=>by
  refine⟨l,t,Q2 t,o,?_,S,R⟩;rw[oX Y Y (by rw[Zt];lia)];show Z (Out.nx [sp J l,Q2 L,Q0 h,oc (.lst (bk.map T.str++[.str t])),Q0 (bk.length:Int),Q2 t,o])=_;rw[show bk.map T.str++[.str t]=(bk++[t]).map T.str from by rw[Z8];rfl]
 by_cases hk:bk.length=0
 ·obtain⟨p,t3,a,b,f1,f2⟩:=fin u t z6 E w;refine⟨p,t3,a,b,(au s1).trans ((au ((xq (AN (m:=.fr) ?_)).trans Y)).trans f1),f2⟩;refine e2v Y Y ?_;show Z (Md.fr,T.bl (decide ((0:Int)<(bk.length:Int))))=_;rw[ZN (by lia)]
 ·obtain⟨D,p,a0,a1,e3⟩:=RC (z6:=z6) u 4 (by decide) (c:=Q3 4) Y;have tt:kz (e2 N2 (aa 4) (Q3 0)) (Po (x2 oEq (aV [(.io 0 J),(.px (xI (Q3 4)))] aA) (xI (Q3 1)))) (EB u L h bk (Q0 (bk.length:Int)) (Q2 t) z6)=Z (D==1,EB p L h bk (Q0 (bk.length:Int)) (Q2 t) z6):=by
   refine(AR (m:=.fr) ?_).trans (wA e3 (de Y Y));refine e2v Y Y ?_;show Z (Md.fr,T.bl (decide ((0:Int)<(bk.length:Int))))=_;rw[ZR (by lia)]
  cases hd:(D==1) with
  |false =>
   rw[hd]at tt;obtain⟨q,t3,a,b,f1,f2⟩:=fin p t z6 E w;exact⟨q,t3,a,b,(au s1).trans ((au ((xq tt).trans Y)).trans f1),f2⟩
  |true =>
   rw[hd]at tt;obtain⟨C,q,b0,b1,X⟩:=RC (z4:=Q0 (bk.length:Int)) p (bk.length:Int) (by lia) (c:=aa 4) Y;have y:=ir (Cw (n:=3) bk Y X Y Y b0 b1) Y (by show 6<7;decide);have z:=P _ (mJ (i:=C.toNat) (by lia));generalize bk.getD C.toNat []=old at y z;obtain⟨A,s,_,_,U⟩:=RC (z6:=Q2 old) q ((old.length:Int)+1) (by lia) (c:=e2 bA (eN bO (ab (aa 6) aj)) (Q3 1)) Y;have Ny:=GB old (Z A) none;have M:xI (aa 6) (EB q L h bk (Q0 (bk.length:Int)) (Q2 t) (Q2 old))=Z ((.fr,.str old),_):=de Y Y;have H:xI (aa 5) (EB s L h bk (Q0 (bk.length:Int)) (Q2 t) (Q2 old))=Z ((.fr,.str t),_):=de Y Y;have G:xI (Q3 14) (EB s L h bk (Q0 (bk.length:Int)) (Q2 t) (Q2 old))=Z ((.fr,.int 14),_):=de Y Y;obtain⟨N,t3,a,b,f1,f2⟩:=fin s (cut (cut old (Z A) none++t) none (Z 14)) (Q2 old) (By _ 14) (zP (vG (zP z.2) w));exact⟨N,t3,a,b,(au s1).trans ((au ((EW tt).trans ((au y).trans (ir (j:=5) (EM (nu (f:=bA) (EM (hi:=none) M (xB U) Y) H (lW (by lia)) Y Y Y) (lo:=none) Y (xB G)) Y (by show 5<7;decide))))).trans f1),f2⟩
def Gk{b:List Tx}(h:∀t∈b,t.length<=14):(b.map List.length).sum<=14*b.length:=by
 induction b with
 |nil=>exact Zk _
 |cons a l d =>
  have:=d λt e=>h t (Zy _ e);have:=h a Zx;rw[Zg,WT,Zi];lia
def zN(n:Int)(a:List Tx):Ah [.lst [.int n]] (.fr,.lst (a.map .str))=J:=by
 unfold Ah;rw[WD];refine .inr ?_;show (a.map T.str).all BE=J;rw[Xn];exact Za.mpr λ_ _=>rfl
def BA(l:List Tx)(h:0<l.length):aC (m,.lst (l.map .str)) (n,.int (-1))=Z (.fr,.str (l.getD (l.length-1) [])):=by
 show ((KU (l.map T.str).length (-1)).bind _)=_;have:KU (l.map T.str).length (-1)=Z (l.length-1):=by
  unfold KU;rw[Zt,Zn (by decide),Zp (by lia)];congr 1;lia
 rw[this,Zr,Zd,Zs,Zu (by omega)];rfl
theorem xp(w:Tx):∀k,(List.replicate k w).flatten.length=k*w.length
 |0=>by rw[Nat.zero_mul];rfl
 |k+1=>by rw[XE,ZK,Zq,xp w k,Nat.succ_mul,Vp]
def Hk{L:Tx}(hL:0<L.length/\L.length<=26/\Az L)(n:Int):∃(E:Int)(bk:List Tx),gD [.lst [.int n],.str L]=Z ([.lst [.int E]],.lst (bk.map .str))/\bk.length<=8/\(bk.map List.length).sum<=120/\∀t∈bk,Az t:=by
 obtain⟨d,n1,d0,d1,e⟩:=nx (i:=0) (x:=xI (Q3 8)) (U:=[sp J n,Q2 L,none,none,none,none,none]) (by decide) Y (de Y Y) Y;have hf:=Da d.toNat (by lia);have s1:=ir (oi (c:=(fg (ab (Q3 2) (ab (Q3 1) (ab (Q3 3) (ab (Q3 2) (ab (Q3 4) (ab (Q3 0) (ab (Q3 1) (ab (Q3 8) aj)))))))))) ([2,1,3,2,4,0,1,8]) Y e d0 d1) Y (by show 2<7;decide);generalize ([2,1,3,2,4,0,1,8]:Vg).getD d.toNat 0=many at hf s1;obtain⟨U',f1,C,bk,o,l,g,rfl,_,hb,hlen⟩:=iP (tg:=aG 4) (λ(k:Nat)=>T.int (k:Int)) (λr U=>∃(n:Int)(bk:List Tx)(o l g:Ve),U=EB n L many bk o l g/\r=List.range' bk.length r.length/\(∀t∈bk,t.length<=14/\Az t)/\bk.length+r.length=many.toNat) (by
  rintro k r _ ⟨n,bk,o,l,g,rfl,hr,hb,hl⟩;rw[Zi]at hl;rw[Zi,Wk]at hr;obtain⟨rfl,G⟩:=Vy hr;obtain⟨E,t,MN,Pn,e,h1,h2⟩:=yL hL hb (by lia) n l g;refine⟨EB n L many bk (Q0 (bk.length:Int)) l g,_,rfl,e,E,bk++[t],_,MN,Pn,rfl,by rw[Zq];exact G,λu F=>?_,by rw[Zq,ZG];lia⟩;rcases ZW.mp F with h | h
  ·exact hb u h
  ·rw[Zj.mp h];exact⟨h1,h2⟩) (List.range many.toNat) (EB n1 L many [] none none none) ⟨n1,[],none,none,none,rfl,by rw[ZT];exact W0,(λ_ h=>nomatch h),by rw[ZT];exact WK _⟩
 have SW:bk.length=many.toNat:=hlen;have fin:∀{q:Int}{v:List Tx}(b:Sx),b (EB C L many bk o l g)=Z (.nx (EB q L many v o l g))->Oa 2 7 [false] (ak (eJ 2 (nB (fg (ab (Q3 2) (ab (Q3 1) (ab (Q3 3) (ab (Q3 2) (ab (Q3 4) (ab (Q3 0) (ab (Q3 1) (ab (Q3 8) aj))))))))) (aV [(.io 0 J),(.px (xI (Q3 8)))] aA))) (ak (iw 3 (fg aj)) (ak (fo (aG 4) (cR (aa 2)) iC) (ak b (eT 3))))) [.lst [.int n],.str L]=Z ([.lst [.int q]],.lst (v.map .str)):=λb hb =>
  sC ⟨rfl,rfl⟩ ((au s1).trans ((au Y).trans ((au (by
  refine(bH (m:=.fr) ?_ Y).trans f1;rw[g8 (m:=.fr) (j:=many) Y (by lia),jS])).trans ((au hb).trans Y)))) Y (zN _ _) Y
 have Tp:bk.length<=8/\(bk.map List.length).sum<=120/\∀t∈bk,Az t:=⟨by lia,by have:=Gk λt p=>(hb t p).1;lia,λt p=>(hb t p).2⟩
 obtain⟨d2,q,a0,a1,e3⟩:=RC C 6 (by decide) (c:=Q3 6) Y;by_cases hm:0<many/\many<3
 ·have tt:kz (i9 oLt oLt (Q3 0) (aa 2) (Q3 3)) (Po (x2 oEq (aV [(.io 0 J),(.px (xI (Q3 6)))] aA) (xI (Q3 1)))) (EB C L many bk o l g)=Z (d2==1,EB q L many bk o l g):=by
   refine(AR (m:=.fr) (n8 Y Y ?_ Y ?_)).trans (wA e3 (de Y Y))
   ·show Z (Md.fr,T.bl (decide ((0:Int)<many)))=_;rw[ZR hm.1]
   ·show Z (Md.fr,T.bl (decide (many<3)))=_;rw[ZR hm.2]
  cases hd:(d2==1) with
  |false =>
   rw[hd]at tt;exact⟨q,bk,fin _ ((xq tt).trans Y),Tp⟩
  |true =>
   rw[hd]at tt;have D:0<bk.length:=by lia
   obtain⟨X,t,p,hz,e4⟩:=P9 hL q q 24 (by decide) (x:=xI (Q3 24)) (de Y Y);obtain⟨s,S,b0,b1,e5⟩:=RC X 2 (by decide) (c:=Q3 2) Y;have i0:e2 aC (aa 3) (Q3 0) (EB q L many bk o l g)=Z (.fr,.str (bk.getD 0 [])):=e2v Y Y (qQ T.str bk 0 [] D);have i1:e2 aC (aa 3) (Q3 (-1)) (EB X L many bk o l g)=Z (.fr,.str (bk.getD (bk.length-1) [])):=e2v Y Y (BA bk D);have R:=hb _ (mJ D);have Q:=hb _ (mJ (i:=bk.length-1) (by lia));generalize hA:bk.getD 0 []=A at i0 R;generalize bk.getD (bk.length-1) []=B at i1 Q;have P:=nu (nu (de i0 Y) e4 (lW (by lia)) Y Y Y) (de i1 Y) (lW (by rw[Zq];lia)) Y Y Y;have xr:=nu (f:=bA) (de (c:=Q3 1) Y Y) e5 Y Y Y Y;have N:(A++t++B).length<=52:=by rw[Zq,Zq];lia
   have S9:=vG (vG R.2 hz) Q.2;generalize A++t++B=w at P N S9;have O:=nu P xr (f:=xX) (by
    show (if w.length*(1+s).toNat<=16777216/\-4611686018427387904<=1+s/\1+s<4611686018427387904 then _ else _)=_;rw[Zp ⟨by
     have:w.length*(1+s).toNat<=52*2:=Nat.mul_le_mul N (by lia);lia,by lia,by lia⟩]) Y Y Y
   have SH:(List.replicate (1+s).toNat w).flatten.length<=104:=by
    rw[xp];have:(1+s).toNat*w.length<=2*52:=Nat.mul_le_mul (by lia) N;omega
   have M:Az (List.replicate (1+s).toNat w).flatten:=λc hc=>by
    obtain⟨u,F,Lf⟩:=Vk.mp hc;rw[(List.mem_replicate.mp F).2]at Lf;exact S9 c Lf
   generalize (List.replicate (1+s).toNat w).flatten=W at O SH M;refine⟨S,bk.set 0 W,fin _ ((EW tt).trans ?_),?_⟩
   ·refine(congrArg (λz=>Option.bind z _) O).trans ?_;show ((((KU (bk.map T.str).length 0).map λj=>(T.lst ((bk.map T.str).set j (.str W)),())).map _))=_;rw[Zt,show KU bk.length 0=Z 0 from zS D];show Z (Out.nx [sp J S,Q2 L,Q0 many,oc (.lst ((bk.map T.str).set 0 (.str W))),o,l,g])=_;rw[show (bk.map T.str).set 0 (.str W)=(bk.set 0 W).map T.str from by rw[Vo]]
   ·have:bk.length=1\/bk.length=2:=by lia
    rcases this with h | h
    ·obtain⟨a,rfl⟩:=List.length_eq_one_iff.mp h;refine⟨by show 1<=8;decide,by show W.length+0<=120;lia,λt p=>?_⟩;rw[Zj.mp (p)];exact M
    ·match bk,h with
     |[a,b],_ =>
      have H:=hb b (by simp);refine⟨by show 2<=8;decide,by show W.length+(b.length+0)<=120;lia,λt p=>?_⟩;rcases Zo.mp (p) with rfl | p
      ·exact M
      ·rw[Zj.mp p];exact H.2
 ·exact⟨C,bk,fin _ ((xq (by
   refine AN (m:=.fr) ?_;by_cases h0:0<many
   ·refine n8 (x:=(.fr,.int 0)) (y:=(.fr,.int many)) (z:=(.fr,.int 3)) Y Y ?_ Y ?_
    ·show Z (Md.fr,T.bl (decide ((0:Int)<many)))=_;rw[ZR h0]
    ·show Z (Md.fr,T.bl (decide (many<3)))=_;rw[ZN (by lia)]
   ·refine DE (x:=(.fr,.int 0)) (y:=(.fr,.int many)) Y Y ?_;show Z (Md.fr,T.bl (decide ((0:Int)<many)))=_;rw[ZN h0])).trans Y),Tp⟩
noncomputable abbrev s1(c:Nat):T:=.str [c]
def eq_int{i:Int}(k:Int)(h:a U=Z (m,.int i)):e2 oEq a (Q3 k) U=Z (.fr,.bl (i==k)):=e2v h Y (nc Y Y (by simp only[eqT]))
def mul_r{i j:Int}(h:-18446744073709551616<j/\j<18446744073709551616):iI (m,.int i) (n,.int j)=Z (.fr,.int (i*j)):=Zp (.inr h)
def ve(d:Vg)(P:d.length<=63)(k:Nat)(H:k<1000):∃n,cQ [.scr d,.int k]=Z (.fr,.lst [.int n]):=by
 have s1:aN 2 (e2 bA (e2 iI (aa 1) (Q3 7919)) (Q3 104729)) [pc (.scr d),Q0 k,L,L,L,L,L]=Z (.nx [pc (.scr d),Q0 k,Q0 ((k:Int)*7919+104729),L,L,L,L]) :=
  aE (e2v (e2v Y Y (lb (by lia))) Y Y) (by decide) (by show 2<7;decide)
 have o:∃c,Lw (e2 N2 (eN bO (ab (aa 0) aj)) (Q3 0)) (aN 2 (e2 bA (e2 aC (aa 0) (e2 oMod (aa 1) (eN bO (ab (aa 0) aj)))) (e2 iI (e2 l5 (aa 1) (eN bO (ab (aa 0) aj))) (Q3 48271)))) gf [pc (.scr d),Q0 k,Q0 ((k:Int)*7919+104729),L,L,L,L]=Z (.nx [pc (.scr d),Q0 k,Q0 c,L,L,L,L]):=by
  have z:e2 N2 (eN bO (ab (aa 0) aj)) (Q3 0) [pc (.scr d),Q0 k,Q0 ((k:Int)*7919+104729),L,L,L,L]=Z (.fr,.bl (decide ((0:Int)<(d.length:Int)))):=e2v Y Y Y;by_cases h:0<d.length
  ·exact⟨_,(uD (z.trans (by rw[ZR (by lia)]))).trans (aE (e2v (e2v Y (e2v Y Y (gm (by lia))) (Dg d _ (XY (k:Int) (b:=(d.length:Int)) (by lia)) (Xu (k:Int) (b:=(d.length:Int)) (by lia)))) (e2v (e2v Y Y (lP (by lia))) Y (mul_r (by decide))) Y) (by decide) (by show 2<7;decide))⟩
  ·exact⟨_,(p8 (z.trans (by rw[ZN (by lia)]))).trans Y⟩
 obtain⟨c,o⟩:=o;have p:e2 oEq (e2 oMod (aa 2) (Q3 2)) (Q3 0) [pc (.scr d),Q0 k,Q0 c,L,L,L,L]=Z (.fr,.bl (c%2==0)):=eq_int 0 (e2v Y Y (gm (by decide)));cases hb:(c%2==0) with
 |true =>
  rw[hb]at p;refine⟨c/2,dJ Y ((au s1).trans ((au o).trans (om ((uD p).trans (fF ?_)))))⟩;unfold fg;rw[xv (e2v Y Y (lP (by decide))) Y];rfl
 |false =>
  rw[hb]at p;have t:=aE (U:=[pc (.scr d),Q0 k,Q0 c,L,L,L,L]) (e2v (e2v (f:=bA) (e2v (a:=aa 2) (b:=Q3 2) Y Y (lP (by decide))) (e2v (a:=Q3 40503) (b:=aa 1) Y Y (lb (by decide))) Y) (b:=Q3 2147483629) Y (gm (by decide))) (by decide) (by show 3<7;decide);have u:=XY (c/2+40503*(k:Int)) (b:=2147483629) (by decide);have D:=Xu (c/2+40503*(k:Int)) (b:=2147483629) (by decide);generalize (c/2+40503*(k:Int))%2147483629=left at t u D;obtain⟨O,f1,l,n,q,g,rfl,_⟩:=iP (tg:=aG 5) (body:=ji) (λ(j:Nat)=>T.int (j:Int)) (λr U=>∃(l n:Int)(q g:Ve),U=[pc (.scr d),Q0 k,Q0 c,Q0 l,Q0 n,q,g]/\0<=l/\l<2147483647/\∀j∈r,j<24) (by
   rintro j r _ ⟨l,n,q,g,rfl,N,M,s⟩;have C:aN 3 (e2 oMod (e2 bA (e2 bA (e2 iI (aa 3) (Q3 69621)) (e2 iI (Q3 7) (aa 5))) (Q3 1)) (Q3 2147483647)) [pc (.scr d),Q0 k,Q0 c,Q0 l,Q0 n,Q0 (j:Int),g]=Z (.nx [pc (.scr d),Q0 k,Q0 c,Q0 ((l*69621+7*(j:Int)+1)%2147483647),Q0 n,Q0 (j:Int),g]) :=
    aE (e2v (e2v (e2v (e2v Y Y (lb (by lia))) (e2v Y Y (lb (by decide))) Y) Y Y) Y (gm (by decide))) (by decide) (by show 3<7;decide)
   have w:=XY (l*69621+7*(j:Int)+1) (b:=2147483647) (by decide);have v:=Xu (l*69621+7*(j:Int)+1) (b:=2147483647) (by decide);generalize (l*69621+7*(j:Int)+1)%2147483647=e at C w v;have A:aN 6 (e2 oMod (e2 iI (aa 3) (aa 3)) (Q3 2147483629)) [pc (.scr d),Q0 k,Q0 c,Q0 e,Q0 n,Q0 (j:Int),g]=Z (.nx [pc (.scr d),Q0 k,Q0 c,Q0 e,Q0 n,Q0 (j:Int),Q0 (e*e%2147483629)]) :=
    aE (e2v (e2v Y Y (lb (by lia))) Y (gm (by decide))) (by decide) (by show 6<7;decide)
   have F:=XY (e*e) (b:=2147483629) (by decide);have E:=Xu (e*e) (b:=2147483629) (by decide);generalize e*e%2147483629=mo at A F E;exact⟨_,_,rfl,(au C).trans ((au A).trans (aE (m:=.fr) (e2v (e2v (x:=(.fr,.int n)) (y:=(.fr,.int 999983)) Y Y (mul_r (by decide))) (e2v (e2v (x:=(.fr,.int mo)) Y (e2v (e2v (x:=(.fr,.int mo)) (y:=(.fr,.int 65521)) Y Y (gm (by decide))) (y:=(.fr,.int 3)) Y Y) (lb (by lia))) (y:=(.fr,.int 999983)) Y (gm (by decide))) Y) (by decide) (by show 4<7;decide))),e,_,_,_,rfl,w,v,λi G=>s i (Zy _ G)⟩) (List.range 24) [pc (.scr d),Q0 k,Q0 c,Q0 left,Q0 0,L,L] ⟨left,0,L,L,rfl,u,by lia,λj s=>Yc.mp s⟩
  refine⟨n,dJ Y ((au s1).trans ((au o).trans ((au ((p8 p).trans Y)).trans ((au t).trans ((au Y).trans ((au (by
   refine(bH (m:=.fr) ?_ Y).trans f1;rw[g8 (m:=.fr) (j:=24) Y (by decide),jS];rfl)).trans (fF ?_)))))))⟩
  rfl
end T32
end
section
namespace T32
open VS AU
def lV{n:Nat}{b:Env}{m:Md}(e:c U=Z (m,.bl J))(d:a U=Z (.nx b)):dN c a (n+1) U=dN c a n b:=by
 show (c U).bind _=_;rw[e];show (if J=J then (a U).bind _ else Z (.nx U))=_;rw[Zp Y,d];rfl
def eU(b:c U=Z (m,.bl B)):dN c a (n+1) U=Z (.nx U):=by
 show (c U).bind _=_;rw[b];rfl
def jO{mv:List Bool}{as:Ko}{b:Bool}{r:List (Ve)}(h:as (oc (J0 S b) :: r)=Z a)(i:argsOk mv a=J)(j:cz (trees a)=J)(f:g (Mo S) (trees a)=Z (Mo d,v))(e:J3 v=J) :
  c8 0 [] 0 mv g as (oc (J0 S b) :: r)=Z ((.fr,v),oc (J0 d b) :: r):=by
 show ((Z ([])).bind λks=>(as (oc (J0 S b) :: r)).bind λa=>(pm (ye 0 mv g a) ks (J0 S b)).map λz=>(z.2,(oc (J0 S b) :: r).set 0 (oc z.1)))=_;rw[Zr,h,Zr];show ((if 1=0+1/\jw (Mo S)=J/\argsOk mv a=J/\cz (trees a)=J then (g (Mo S) (trees a)).bind λz=>if jw z.1=J/\J3 z.2=J then Z (T.obj 1 ((0,.bl b) :: z.1),(Md.fr,z.2)) else L else L).map _)=_;rw[Zp ⟨rfl,n9 S,i,j⟩,f,Zr,Zp ⟨n9 d,e⟩];rfl
def FQ{e:Ex}{S:St}{b:Bool}{r:List (Ve)}{v:Nat}(h:e (oc (J0 S b) :: r)=Z (.fr,.int (v:Int)))(d:S.lg.length<16777216):sX (nH 0 [.fld 1] aJ (ab e aj)) (oc (J0 S b) :: r)=Z (.nx (oc (J0 ⟨S.lg++[v],S.lk,S.wy⟩ b) :: r)):=by
 show (((Z [Ky.fld 1]).bind λks=>(ab e aj (oc (J0 S b) :: r)).bind λa=>(pm (λx=>aJ x a) ks (J0 S b)).map _).map _)=_;rw[Zr,xv h Y,Zr];show (((aJ (.lst (S.lg.map λ(n:Nat)=>T.int (n:Int))) [(.fr,.int (v:Int))]).map _).map _ |>.map _)=_;rw[dq (by rw[Zt];exact d),show (S.lg.map λ(n:Nat)=>T.int (n:Int))++[.int (v:Int)]=(S.lg++[v]).map λ(n:Nat)=>T.int (n:Int) from by rw[Z8];rfl];rfl
def Hh{e:Ex}{S:St}{b:Bool}{r:List (Ve)}{v:Option Nat}(h:e (oc (J0 S b) :: r)=Z (.fr,Kx v))(d:S.lk.length<16777216):sX (nH 0 [.fld 2] aJ (ab e aj)) (oc (J0 S b) :: r)=Z (.nx (oc (J0 ⟨S.lg,S.lk++[v],S.wy⟩ b) :: r)):=by
 show (((Z [Ky.fld 2]).bind λks=>(ab e aj (oc (J0 S b) :: r)).bind λa=>(pm (λx=>aJ x a) ks (J0 S b)).map _).map _)=_;rw[Zr,xv h Y,Zr];show (((aJ (.lst (S.lk.map Kx)) [(.fr,Kx v)]).map _).map _ |>.map _)=_;rw[dq (by rw[Zt];exact d),show (S.lk.map Kx)++[Kx v]=(S.lk++[v]).map Kx from by rw[Z8];rfl];rfl
def Ft(o:Option Nat):up .pu (Kx o)=(.fr,Kx o):=by
 unfold up;rw[mY];rfl
def Ay(S:St)(l:Nat)(o:Option Nat)(w:List (Nat×Nat))(f:S.lg.length<16777216)(d:S.lk.length<16777216)(a:S.wy.length<16777216):aT (Mo S) [.int (l:Int),Kx o,KG w]=Z (Mo ⟨S.lg++[l],S.lk++[o],S.wy++[w]⟩,.int (S.lg.length:Int)):=by
 have g:=fF (e:=e2 A7 (eN bO (ab (bY 1 (aa 0)) aj)) (Q3 1)) (U:=[oc (J0 ⟨S.lg++[l],S.lk++[o],S.wy++[w]⟩ J),Q0 (l:Int),pc (Kx o),L]) (e2v (Hx Y) Y (by
  show Z (Md.fr,T.int ((((S.lg++[l]).length:Nat):Int)-1))=_;rw[Zq,ZG,show (((S.lg.length+1:Nat)):Int)-1=(S.lg.length:Int) by lia]))
 unfold aT MT;rw[Zp ⟨rfl,rfl⟩];have body:=(au (b:=ak (sX (nH 0 [.fld 2] aJ (ab (aa 2) aj))) (ak (rg 0 [.fld 3] 3) (fT (e2 A7 (eN bO (ab (bY 1 (aa 0)) aj)) (Q3 1))))) (FQ (S:=S) (b:=J) (r:=[Q0 (l:Int),pc (Kx o),oc (KG w)]) (e:=aa 1) (v:=l) Y f)).trans ((au (Hh (S:=⟨S.lg++[l],S.lk,S.wy⟩) (b:=J) (r:=[Q0 (l:Int),pc (Kx o),oc (KG w)]) (e:=aa 2) (v:=o) (congrArg Z (Ft o)) d)).trans ((au (by
  show ((aJ (.lst (S.wy.map KG)) [(.fr,KG w)]).map _ |>.map _)=_;rw[dq (by rw[Zt];exact a),show (S.wy.map KG)++[KG w]=(S.wy++[w]).map KG from by rw[Z8];rfl];rfl)).trans g))
 exact congrArg (λz:Option Out=>z.bind _) body
def GQ(x:97<=c/\c<=122):∀(k:Nat)(S b:St)(o:Option Nat),WF S->v<S.lg.length->(∀n,o=Z n->n<S.lg.length)->Pq c a v k S o=Z b->WF b/\b.lg=S.lg/\∃f,∀N,k<N->∀z:Ve,
  dN (kJ (ie (aa 1)) (e2 oEq (e2 yN (e2 aC (bY 3 (aa 0)) (aa 1)) (aa 2)) (aa 3))) c9 N [oc (J0 S J),pc (Kx o),Q2 ([c]),Q0 (a:Int),z,Q0 (v:Int)] =
   Z (.nx [oc (J0 b J),pc (Kx f),Q2 ([c]),Q0 (a:Int),z,Q0 (v:Int)]):=by
 intro k
 induction k with
 |zero =>
  intro S b o W g j e;cases o with
  |none =>
   cases (e);refine⟨W,rfl,L,λN hN z=>?_⟩;obtain⟨N,rfl⟩:∃d,N=d+1:=⟨N-1,by lia⟩
   exact eU Y
  |some n=>cases e
 |succ k u =>
  intro S b o W g j e;cases o with
  |none =>
   cases (e);refine⟨W,rfl,L,λN hN z=>?_⟩;obtain⟨N,rfl⟩:∃d,N=d+1:=⟨N-1,by lia⟩
   exact eU Y
  |some n =>
   have l:=j n Y;have p:n<S.wy.length:=by rw[W.wy];exact l
   have cond:∀z:Ve,kJ (ie (aa 1)) (e2 oEq (e2 yN (e2 aC (bY 3 (aa 0)) (aa 1)) (aa 2)) (aa 3)) [oc (J0 S J),Q0 (n:Int),Q2 ([c]),Q0 (a:Int),z,Q0 (v:Int)]=Z (.fr,.bl (decide (gW (S.wy.getD n []) c=Z a))):=λz=>by
    refine vA Y (λ_=>?_) (λh=>by cases h);refine e2v (Ib (oJ Y Y p) Y) Y ?_;cases hg:gW (S.wy.getD n []) c with
    |none=>rw[ZN (by simp)];exact nc Y Y Y
    |some q =>
     refine(nc Y Y (show eqT (.int (q:Int)) (.int (a:Int))=decide (Z q=Z a) from ?_));by_cases h:q=a
     ·subst h;simp
     ·rw[ZN (λz=>h (Zh z))];exact beq_eq_false_iff_ne.mpr (by lia)
   unfold Pq at e;split at e
   ·rename_i i;obtain⟨t,s,f,r⟩:=u _ b (S.lk.getD n L) (W.way (n:=n) (c:=c) (v:=v) g x) g (λm w=>W.up n m w) e;refine⟨t,s,f,λN hN z=>?_⟩;obtain⟨N,rfl⟩:∃d,N=d+1:=⟨N-1,by lia⟩
    refine(lV ((cond z).trans (by rw[ZR i])) ?_).trans (r N (by exact Xe hN) z);refine(au (Ci p Y Y Y (W.small n))).trans ?_;exact aE (xU (S:=⟨S.lg,S.lk,S.wy.set n (pW (S.wy.getD n []) c v)⟩) Y Y (by rw[W.lk];exact l)) (by decide) (by decide:1<6)
   ·rename_i i;cases e;refine⟨W,rfl,Z n,λN hN z=>?_⟩;obtain⟨N,rfl⟩:∃d,N=d+1:=⟨N-1,by lia⟩
    exact eU ((cond z).trans (by rw[ZN i]))
def Ff(w:97<=c/\c<=122):∀(k:Nat)(S a:St)(o d:Option Nat),WF S->v<S.lg.length->(∀n,o=Z n->n<S.lg.length)->up1 c v k S o=Z (a,d)->WF a/\a.lg=S.lg/\(∀n,d=Z n->n<S.lg.length)/\∀N,k<N->∀z:Ve,
  dN (kJ (ie (aa 4)) (e2 bV (aa 2) (e2 aC (bY 3 (aa 0)) (aa 4)))) cM N [oc (J0 S J),z,Q2 ([c]),Q0 (v:Int),pc (Kx o)] =
   Z (.nx [oc (J0 a J),z,Q2 ([c]),Q0 (v:Int),pc (Kx d)]):=by
 intro k
 induction k with
 |zero =>
  intro S a o d W f i e;cases o with
  |none =>
   cases (e);refine⟨W,rfl,(λn h=>nomatch h),λN hN z=>?_⟩;obtain⟨N,rfl⟩:∃b,N=b+1:=⟨N-1,by lia⟩
   exact eU Y
  |some n=>cases e
 |succ k t =>
  intro S a o d W f i e;cases o with
  |none =>
   cases (e);refine⟨W,rfl,(λn h=>nomatch h),λN hN z=>?_⟩;obtain⟨N,rfl⟩:∃b,N=b+1:=⟨N-1,by lia⟩
   exact eU Y
  |some n =>
   have j:=i n Y;have l:n<S.wy.length:=by rw[W.wy];exact j
   have cond:∀z:Ve,kJ (ie (aa 4)) (e2 bV (aa 2) (e2 aC (bY 3 (aa 0)) (aa 4))) [oc (J0 S J),z,Q2 ([c]),Q0 (v:Int),Q0 (n:Int)]=Z (.fr,.bl (!(gW (S.wy.getD n []) c).isSome)):=λz =>
    vA Y (λ_=>EF (oJ Y Y l) Y) (λh=>by cases h)
   unfold up1 at e;split at e
   ·rename_i g;cases e;refine⟨W,rfl,i,λN hN z=>?_⟩;obtain⟨N,rfl⟩:∃b,N=b+1:=⟨N-1,by lia⟩
    exact eU ((cond z).trans (by rw[g];rfl))
   ·rename_i g;obtain⟨s,r,p,q⟩:=t _ a (S.lk.getD n L) d (W.way (n:=n) (c:=c) (v:=v) f w) f (λm u=>W.up n m u) e;refine⟨s,r,p,λN hN z=>?_⟩;obtain⟨N,rfl⟩:∃b,N=b+1:=⟨N-1,by lia⟩
    have x:(gW (S.wy.getD n []) c).isSome=B:=by simpa using g
    refine(lV ((cond z).trans (by rw[x];rfl)) ?_).trans (q N (by exact Xe hN) z);refine(au (Ci l Y Y Y (W.small n))).trans ?_;exact aE (xU (S:=⟨S.lg,S.lk,S.wy.set n (pW (S.wy.getD n []) c v)⟩) Y Y (by rw[W.lk];exact j)) (by decide) (by decide:4<5)
def GD(a b:Nat):oEq (m,.int (a:Int)) (n,.int (b:Int))=Z (.fr,.bl (decide (a=b))):=nc Y Y (by
 by_cases h:a=b
 ·subst h;simp
 ·rw[ZN h];exact beq_eq_false_iff_ne.mpr (by lia))
def AH{r:Nat}(W:WF S)(u:Sm S)(j:n<S.lg.length)(w:97<=c/\c<=122)(e:Pz S n c=Z (a,r)):WF a/\r<a.lg.length/\S.lg.length<=a.lg.length/\a.lg.length<=S.lg.length+1/\ay (Mo S) [.int (n:Int),.str [c]]=Z (Mo a,.int (r:Int)):=by
 obtain⟨old,i,e⟩:=Zz.mp e;have hold:=W.on n c old i;have JZ:old<S.lk.length:=by rw[W.lk];exact hold
 have G:S.lg.length<=100001:=u;unfold ay MT;rw[Zp ⟨rfl,rfl⟩];have s1:=aE (e:=e2 LN (e2 aC (bY 3 (aa 0)) (aa 1)) (aa 2)) (U:=[oc (J0 S J),Q0 (n:Int),Q2 ([c]),L,L,L]) (yo (oJ Y Y (by rw[W.wy];exact j)) Y i) (by decide) (by decide:3<6);have h:=aE (e:=e2 bA (e2 aC (bY 1 (aa 0)) (aa 1)) (Q3 1)) (U:=[oc (J0 S J),Q0 (n:Int),Q2 ([c]),Q0 (old:Int),L,L]) (e2v (um Y Y j) Y Y) (by decide) (by decide:4<6);have cd:e2 oEq (e2 aC (bY 1 (aa 0)) (aa 3)) (aa 4) [oc (J0 S J),Q0 (n:Int),Q2 ([c]),Q0 (old:Int),Q0 ((S.lg.getD n 0+1:Nat):Int),L]=Z (.fr,.bl (decide (S.lg.getD old 0=S.lg.getD n 0+1))):=e2v (um Y Y hold) Y (GD _ _);split at e
 ·rename_i g;obtain⟨rfl,rfl⟩:=X4 (Zh e);rw[ZR g]at cd;refine⟨W,hold,Zk _,Y6 _,?_⟩;have body:∀b:Sx,ak (aN 3 (e2 LN (e2 aC (bY 3 (aa 0)) (aa 1)) (aa 2))) (ak (aN 4 (e2 bA (e2 aC (bY 1 (aa 0)) (aa 1)) (Q3 1))) (ak (Lw (e2 oEq (e2 aC (bY 1 (aa 0)) (aa 3)) (aa 4)) (eT 3) gf) b)) [oc (J0 S J),Q0 (n:Int),Q2 ([c]),L,L,L]=Z (.rt (.fr,.int (old:Int)) [oc (J0 S J),Q0 (n:Int),Q2 ([c]),Q0 (old:Int),Q0 ((S.lg.getD n 0+1:Nat):Int),L]):=λb =>
   (au s1).trans ((au h).trans (om ((uD cd).trans Y)))
  exact congrArg (λz:Option Out=>z.bind _) (body _)
 ·rename_i g;rw[ZN g]at cd;obtain⟨D,E,e3⟩:=Zw.mp e;obtain⟨rfl,rfl⟩:=X4 e3;have wn:=W.R4 old;have C:=W.more (l:=S.lg.getD n 0+1) (λm f=>W.up old m f) (λd m f=>W.on old d m f) wn.1 wn.2;have hlen:(S.lg++[S.lg.getD n 0+1]).length=S.lg.length+1:=by rw[Zq];rfl
  have A:=C.link (n:=old) (v:=S.lg.length) (by lia);obtain⟨s,q,F,o⟩:=GQ w 1000 _ D (Z n) A (by lia) (λm f=>by cases f;lia) E;refine⟨s,by lia,by lia,by exact XH (by rw[q];exact hlen),?_⟩;have args:ab (aa 4) (ab (e2 aC (bY 2 (aa 0)) (aa 3)) (ab (eN pK (ab (e2 aC (bY 3 (aa 0)) (aa 3)) aj)) aj)) [oc (J0 S J),Q0 (n:Int),Q2 ([c]),Q0 (old:Int),Q0 ((S.lg.getD n 0+1:Nat):Int),L]=Z [(.fr,.int ((S.lg.getD n 0+1:Nat):Int)),(.fr,Kx (S.lk.getD old L)),(.fr,KG (S.wy.getD old []))] :=
   xv Y (xv (xU Y Y JZ) (xv (jm (xv (oJ Y Y (by rw[W.wy];exact hold)) Y) (by
    show (if fZ (((S.wy.getD old []).map λp=>(T.str [p.1],T.int (p.2:Int))).map (·.2))=J then Z (Md.fr,KG (S.wy.getD old [])) else L)=_;rw[Zp (by rw[ZD];exact gR _ (λ_=>rfl) _)])) Y))
  have y:argsOk [B,B,J] [(.fr,.int ((S.lg.getD n 0+1:Nat):Int)),(.fr,Kx (S.lk.getD old L)),(.fr,KG (S.wy.getD old []))]=J:=by
   show (J&&(J3 (Kx (S.lk.getD old L))&&J))=J;rw[mY];rfl
  have x:=jO args y (by
   show (J&&(ja (Kx (S.lk.getD old L))&&(ja (KG (S.wy.getD old []))&&J)))=J;rw[o9 _ (mY _),AJ];rfl) (Ay S (S.lg.getD n 0+1) (S.lk.getD old L) (S.wy.getD old []) (by lia) (by rw[W.lk];lia) (by rw[W.wy];lia)) Y
  have t:=Ao (S:=⟨S.lg++[S.lg.getD n 0+1],S.lk++[S.lk.getD old L],S.wy++[S.wy.getD old []]⟩) (b:=J) (r:=[Q0 (n:Int),Q2 ([c]),Q0 (old:Int),Q0 ((S.lg.getD n 0+1:Nat):Int),Q0 (S.lg.length:Int)]) (e:=aa 3) (ev:=aa 5) (by rw[Zq];lia) Y Y;exact congrArg (λz:Option Out=>z.bind _) ((au s1).trans ((au h).trans ((au ((p8 cd).trans Y)).trans ((au (by
   unfold eJ;rw[x];rfl)).trans ((au t).trans ((au (o vw (by decide) (Q0 ((S.lg.getD n 0+1:Nat):Int)))).trans Y))))))
def HG{r:Nat}(W:WF S)(P:S.lg.length<=100000)(x:h<S.lg.length)(y:97<=c/\c<=122)(e:hb S h c=Z (a,r)):WF a/\r<a.lg.length/\S.lg.length<=a.lg.length/\a.lg.length<=S.lg.length+2/\bE (Mo S) [.int (h:Int),.str [c]]=Z (Mo a,.int (r:Int)):=by
 unfold hb at e;unfold bE MT;rw[Zp ⟨rfl,rfl⟩];have cd:e2 kD (aa 2) (e2 aC (bY 3 (aa 0)) (aa 1)) [oc (J0 S J),Q0 (h:Int),Q2 ([c]),L,L]=Z (.fr,.bl (gW (S.wy.getD h []) c).isSome):=Jz (oJ Y Y (by rw[W.wy];exact x)) Y;split at e
 ·rename_i u;rw[u]at cd;obtain⟨j,t,s,q,E⟩:=AH W (Vr P) x y e;refine⟨j,t,s,by exact Vr q,?_⟩;have i:=jO (mv:=[B,B]) (as:=ab (aa 1) (ab (aa 2) aj)) (b:=J) (r:=[Q0 (h:Int),Q2 ([c]),L,L]) Y Y Y E Y;have s1:nq (c8 0 [] 0 [B,B] ay (ab (aa 1) (ab (aa 2) aj))) [oc (J0 S J),Q0 (h:Int),Q2 ([c]),L,L]=Z (.rt (.fr,.int (r:Int)) [oc (J0 a J),Q0 (h:Int),Q2 ([c]),L,L]):=by
   unfold nq;rw[i];rfl
  exact congrArg (λz:Option Out=>z.bind _) (om ((uD cd).trans s1))
 ·rename_i u;have Q:(gW (S.wy.getD h []) c).isSome=B:=by simpa using u
  rw[Q]at cd;obtain⟨⟨f,o⟩,e1,D⟩:=Zz.mp e;have hlen:(S.lg++[S.lg.getD h 0+1]).length=S.lg.length+1:=by rw[Zq];rfl
  obtain⟨j,t,s,q⟩:=Ff y 1000 _ f (Z h) o (W.more (l:=S.lg.getD h 0+1) (o:=Z 0) (w:=[]) (λm g=>by cases g;exact W.pos) (λd m g=>by cases g) Yt (λp N=>nomatch N)) (by lia) (λm g=>by cases g;lia) e1;have args:ab (e2 bA (e2 aC (bY 1 (aa 0)) (aa 1)) (Q3 1)) (ab (Q3 0) (ab (pZ 0 []) aj)) [oc (J0 S J),Q0 (h:Int),Q2 ([c]),L,L]=Z [(.fr,.int ((S.lg.getD h 0+1:Nat):Int)),(.fr,.int 0),(.fr,.dct 0 [])] :=
   xv (e2v (um Y Y x) Y Y) (xv Y (xv Y Y))
  have i:=jO (mv:=[B,B,J]) args Y Y (Ay S (S.lg.getD h 0+1) (Z 0) [] (by lia) (by rw[W.lk];lia) (by rw[W.wy];lia)) Y;have hd:∀b:Sx,ak (Lw (e2 kD (aa 2) (e2 aC (bY 3 (aa 0)) (aa 1))) (nq (c8 0 [] 0 [B,B] ay (ab (aa 1) (ab (aa 2) aj)))) gf)
    (ak (eJ 3 (c8 0 [] 0 [B,B,J] aT (ab (e2 bA (e2 aC (bY 1 (aa 0)) (aa 1)) (Q3 1)) (ab (Q3 0) (ab (pZ 0 []) aj)))))
    (ak (aN 4 (aa 1)) (ak (kF (kJ (ie (aa 4)) (e2 bV (aa 2) (e2 aC (bY 3 (aa 0)) (aa 4)))) cM) b))) [oc (J0 S J),Q0 (h:Int),Q2 ([c]),L,L] =
    b [oc (J0 f J),Q0 (h:Int),Q2 ([c]),Q0 (S.lg.length:Int),pc (Kx o)]:=λb =>
   (au ((p8 cd).trans Y)).trans ((au (by
   unfold eJ;rw[i];rfl)).trans ((au Y).trans (au (q vw (by decide) (Q0 (h:Int))))))
  cases o with
  |none =>
   obtain⟨rfl,rfl⟩:=X4 (Zh D);have fin:ak (Lw (ie (aa 4)) (qT 0 [.fld 2] (aa 3) (c8 0 [] 0 [B,B] ay (ab (aa 4) (ab (aa 2) aj)))) gf) (eT 3) [oc (J0 f J),Q0 (h:Int),Q2 ([c]),Q0 (S.lg.length:Int),pc (Kx L)] =
     Z (.rt (.fr,.int (S.lg.length:Int)) [oc (J0 f J),Q0 (h:Int),Q2 ([c]),Q0 (S.lg.length:Int),pc (Kx L)]):=(au ((p8 Y).trans Y)).trans Y
   refine⟨j,by lia,by lia,by lia,?_⟩;exact congrArg (λz:Option Out=>z.bind _) ((hd _).trans fin)
  |some n =>
   obtain⟨⟨A,m⟩,e3,O⟩:=Zw.mp D;obtain⟨rfl,rfl⟩:=X4 O;obtain⟨C,G,U,R,F⟩:=AH j (by show f.lg.length<=100001;lia) (by
    have:=s n Y;rw[t];exact this) y e3
   have i:=jO (mv:=[B,B]) (as:=ab (aa 4) (ab (aa 2) aj)) (b:=J) (r:=[Q0 (h:Int),Q2 ([c]),Q0 (S.lg.length:Int),Q0 (n:Int)]) Y Y Y F Y;have M:=Ao (b:=J) (r:=[Q0 (h:Int),Q2 ([c]),Q0 (S.lg.length:Int),Q0 (n:Int)]) (e:=aa 3) (ev:=λ_=>Z (.fr,.int (m:Int))) (by rw[C.lk];lia) Y Y;have H:qT 0 [.fld 2] (aa 3) (c8 0 [] 0 [B,B] ay (ab (aa 4) (ab (aa 2) aj))) [oc (J0 f J),Q0 (h:Int),Q2 ([c]),Q0 (S.lg.length:Int),Q0 (n:Int)]=Z (.nx [oc (J0 ⟨A.lg,A.lk.set S.lg.length (Z m),A.wy⟩ J),Q0 (h:Int),Q2 ([c]),Q0 (S.lg.length:Int),Q0 (n:Int)]):=by
    unfold qT;rw[i];exact M
   refine⟨(C.link (n:=S.lg.length) (v:=m) G),by lia,by lia,by lia,?_⟩;exact congrArg (λz:Option Out=>z.bind _) ((hd _).trans ((au ((uD (m:=.fr) Y).trans H)).trans Y))
theorem AY:∀{word:Vh}{h r:Nat},WF S->S.lg.length+2*word.length<=100000->h<S.lg.length->(∀c∈word,97<=c/\c<=122)->hg S h word=Z (f,r) →
  WF f/\r<f.lg.length/\f.lg.length<=S.lg.length+2*word.length/\∀g:Ve,∀a:T,∃l,forL (aG 3) cZ (word.map λc=>T.str [c]) [oc (J0 S J),Q0 (h:Int),pc a,g]=Z (.nx [oc (J0 f J),Q0 (r:Int),pc a,l])
 |[],h,r,W,m,i,j,e=>by
  obtain⟨rfl,rfl⟩:=X4 (Zh e);exact⟨W,i,by simp,λg a=>⟨g,rfl⟩⟩
 |c :: word,h,r,W,m,i,j,e=>by
  obtain⟨⟨C,A⟩,e1,w⟩:=Zz.mp e;rw[Zi]at m;obtain⟨p,o,y,x,n⟩:=HG W (by lia) i (j c Zx) e1;obtain⟨u,t,z,s⟩:=AY p (by lia) o (λd hd=>j d (Zy _ hd)) w;refine⟨u,t,by rw[Zi];lia,λg a=>?_⟩;obtain⟨l,q⟩:=s (Q2 ([c])) a;refine⟨l,?_⟩;rw[Zg];refine(cw (U1:=[oc (J0 S J),Q0 (h:Int),pc a,Q2 ([c])]) Y ?_).trans q;have v:=jO (mv:=[B,B]) (as:=ab (aa 1) (ab (aa 3) aj)) (b:=J) (r:=[Q0 (h:Int),pc a,Q2 ([c])]) Y Y Y n Y;unfold cZ eJ;rw[v];rfl
def Iz{a:Tx}(W:WF S)(j:S.lg.length+2*a.length<=100000)(l:h<S.lg.length)(m:∀c∈a,97<=c/\c<=122)(e:hg S h a=Z (b,r)) :
  WF b/\r<b.lg.length/\b.lg.length<=S.lg.length+2*a.length/\bQ (Mo S) [.int (h:Int),.str a]=Z (Mo b,.int (r:Int)):=by
 obtain⟨i,g,f,d⟩:=AY W j l m e;obtain⟨n,q⟩:=d L (.str a);refine⟨i,g,f,?_⟩;unfold bQ MT;rw[Zp ⟨rfl,rfl⟩];have s1:=(bH (it:=cA (aa 2)) Y Y).trans q;exact congrArg (λz:Option Out=>z.bind _) ((au s1).trans Y)
end T32
end
section
namespace AU
noncomputable abbrev Wd:=Vh
noncomputable abbrev W(a:List Wd)(n:Nat):Wd:=a.getD n []
structure I(fr:Option Nat)(S:St)(nd:Wd->Option Nat)(wd:List Wd):Prop where
 wf:WF S
 len:wd.length=S.lg.length
 lg:∀n,n<wd.length->S.lg.getD n 0=(W wd n).length
 z:nd []=some 0
 wz:W wd 0=[]
 lt:∀{x n},nd x=some n->n<wd.length
 sf:∀{x n},nd x=some n->x <:+ W wd n
 top:∀{n},n<wd.length->nd (W wd n)=some n
 iv:∀{x y n},nd x=some n->x <:+ y->y <:+ W wd n->nd y=some n
 pre:∀{x c n},nd (x++[c])=some n->∃m,nd x=some m
 OS:∀{x y n},nd y=some n->x <:+ y->∃m,nd x=some m
 PD:S.lk.getD 0 none=none
 lk:∀{n},0<n->n<wd.length->some n≠fr->∃m,S.lk.getD n none=some m/\(m<wd.length/\some m≠fr)/\W wd m <:+ W wd n/\(W wd m).length<(W wd n).length/\∀y,y <:+ W wd n->(W wd m).length<y.length->nd y=some n
 wy:∀{x n},nd x=some n->∀c,gW (S.wy.getD n []) c=nd (x++[c])
def cW{α:Type}{x y w:List α}(d:x <:+ w)(b:y <:+ w)(a:x.length<=y.length):x <:+ y:=List.suffix_of_suffix_length_le d b a
section
def I.up(H:I fr S nd wd):∀(k n:Nat)(x:Wd),(W wd n).length<=k->n<wd.length->Z n≠fr->x <:+ W wd n->∃m,nd x=Z m/\W wd m <:+ W wd n:=by
 intro k
 induction k with
 |zero =>
  intro n x e b f a;rw[(Y8.mp (Nat.le_zero.mp e))]at a;have:x=[]:=YL.mp a;subst this;exact⟨0,H.z,by rw[H.wz];exact XC⟩
 |succ k l =>
  intro n x e b f a;by_cases h:n=0
  ·subst h;rw[H.wz]at a;have:x=[]:=YL.mp a;subst this;exact⟨0,H.z,Z4 _⟩
  ·obtain⟨m,t,⟨p,r⟩,g,s,o⟩:=H.lk (YW h) b f;by_cases d:(W wd m).length<x.length
   ·exact⟨n,o x a d,Z4 _⟩
   ·obtain⟨q,j,i⟩:=l m x (by lia) p r (cW a g (by exact ZO d));exact⟨q,j,i.trans g⟩
def I.T7(H:I fr S nd wd)(b:n<wd.length)(d:Z n≠fr)(a:x <:+ W wd n):∃m,nd x=Z m/\W wd m <:+ W wd n:=H.up _ n x (Zk _) b d a
def I.all(H:I fr S nd wd)(e:q<wd.length)(f:Z q≠fr)(d:nd x=Z n)(b:nd y=Z n)(h:x <:+ W wd q):y <:+ W wd q:=by
 obtain⟨m,a,g⟩:=H.T7 e f h;rw[d]at a;cases a;exact(H.sf b).trans g
def I.inj(H:I fr S nd wd)(b:m<wd.length)(a:n<wd.length)(h:W wd m=W wd n):m=n:=by
 have:=H.top b;rw[h,H.top a]at this;exact(Zh this).symm
def I.way(H:I fr S nd wd){n c:Nat}(b:n<wd.length)(h:gW (S.wy.getD n []) c=Z a):nd (W wd n++[c])=Z a:=by
 rw[← H.wy (H.top b) c];exact h
def I.zero(H:I fr S nd wd)(h:nd x=Z 0):x=[]:=by
 have:=H.sf h;rw[H.wz]at this;exact YL.mp this
def I.low(H:I fr S nd wd)(g:Z n≠fr)(a:S.lk.getD n L=Z m)(b:nd y=Z n):(W wd m).length<y.length/\m<wd.length/\W wd m <:+ W wd n/\Z m≠fr:=by
 by_cases f:n=0
 ·subst f;rw[H.PD]at a;cases a
 ·obtain⟨l,i,⟨e,j⟩,d,h,o⟩:=H.lk (YW f) (H.lt b) g;rw[i]at a;cases a;refine⟨Nat.lt_of_not_le λhle=>?_,e,d,j⟩;have:=H.iv b (cW (H.sf b) d hle) d;rw[H.top e]at this;cases this;exact YO _ h
def I.below(H:I fr S nd wd)(e:n<wd.length)(g:Z n≠fr)(a:S.lk.getD n L=Z q)(f:m<wd.length)(b:W wd m <:+ W wd n)(l:m≠n):W wd m <:+ W wd q:=by
 by_cases d:n=0
 ·subst d;rw[H.PD]at a;cases a
 ·obtain⟨p,j,⟨s,_⟩,i,r,h⟩:=H.lk (YW d) e g;rw[j]at a;cases a;refine cW b i (ZO λo=>l ?_);have:=h _ b o;rw[H.top f]at this;exact Zh this
def I.root(H:I fr S nd wd)(b:n<wd.length)(g:Z n≠fr)(d:S.lk.getD n L=L)(f:m<wd.length)(a:W wd m <:+ W wd n):m=n:=by
 have i:n=0:=Nat.eq_zero_of_not_pos λe=>by
  obtain⟨q,h,_⟩:=H.lk e b g;rw[h]at d;cases d
 subst i;rw[H.wz]at a;exact H.inj f b (by rw[H.wz,YL.mp a])
def gB(a:List (List (Nat×Nat)))(n m c v d:Nat)(b:n<a.length):gW ((a.set n (pW (a.getD n []) c v)).getD m []) d=if m=n/\d=c then Z v else gW (a.getD m []) d:=by
 rw[iT];by_cases h:n=m
 ·subst h;rw[Zp ⟨rfl,b⟩,Eu];by_cases hd:d=c
  ·rw[Zp hd,Zp ⟨rfl,hd⟩]
  ·rw[Zn hd,Zn (λz=>hd z.2)]
 ·rw[Zn (λz=>h z.1),Zn (λz=>h z.1.symm)]
def I.Rq(H:I fr S nd wd){c v:Nat}:∀(k:Nat)(T:St)(n:Nat),n<wd.length->Z n≠fr->(W wd n).length<k->(∀m,m<wd.length->W wd m <:+ W wd n->T.lk.getD m L=S.lk.getD m L)->wd.length<=T.wy.length →
  (∀m i,m<wd.length->i<wd.length->W wd m <:+ W wd i->W wd i <:+ W wd n->gW (T.wy.getD m []) c=Z b->gW (T.wy.getD i []) c=Z b) →
  ∃l,Pq c b v k T (Z n)=Z ⟨T.lg,T.lk,l⟩/\l.length=T.wy.length/\∀m d,gW (l.getD m []) d=if d=c/\m<wd.length/\W wd m <:+ W wd n/\gW (T.wy.getD m []) c=Z b then Z v else gW (T.wy.getD m []) d:=by
 intro k
 induction k with
 |zero=>intro T n _ _ h;lia
 |succ k D =>
  intro T n f t G y hw mono;have o:=ZU f hw;unfold Pq;by_cases j:gW (T.wy.getD n []) c=Z b
  ·rw[Zp j,y n f (Z4 _)];cases s:S.lk.getD n L with
   |none =>
    refine⟨T.wy.set n (pW (T.wy.getD n []) c v),by cases k<;>rfl,Yo,λm d=>?_⟩;rw[gB _ _ _ _ _ _ o];by_cases a:m=n/\d=c
    ·rw[Zp a,Zp ⟨a.2,by rw[a.1];exact f,by rw[a.1];exact Z4 _,by rw[a.1];exact j⟩]
    ·rw[Zn a,Zn λz=>a ⟨H.root f t s z.2.1 z.2.2.1,z.1⟩]
   |some q =>
    obtain⟨F,C,r,A⟩:=H.low t s (H.top f);have ne:∀m,W wd m <:+ W wd q->m≠n:=λm a e=>by
     rw[e]at a;have:=a.length_le;lia
    obtain⟨l,e1,e2,e3⟩:=D ⟨T.lg,T.lk,T.wy.set n (pW (T.wy.getD n []) c v)⟩ q C A (by lia) (λm a p=>y m a (p.trans r)) (by rw[Yo];exact hw) (λm i a E p u h=>by
     have w:=h;rw[gB _ _ _ _ _ _ o,Zn (λz=>ne m (p.trans u) z.1)]at w;rw[gB _ _ _ _ _ _ o,Zn (λz=>ne i u z.1)];exact mono m i a E p (u.trans r) w)
    refine⟨l,e1,by rw[e2];exact Yo,λm d=>?_⟩;rw[e3 m d];by_cases a:m=n
    ·subst a;rw[Zn (λz=>ne m z.2.2.1 Y),gB _ _ _ _ _ _ o];by_cases hd:d=c
     ·rw[Zp ⟨rfl,hd⟩,Zp ⟨hd,f,Z4 _,j⟩]
     ·rw[Zn (λz=>hd z.2),Zn (λz=>hd z.1)]
    ·have x:∀d,gW ((T.wy.set n (pW (T.wy.getD n []) c v)).getD m []) d=gW (T.wy.getD m []) d:=λd=>by rw[gB _ _ _ _ _ _ o,Zn (λz=>a z.1)]
     rw[x,x];by_cases g:d=c/\m<wd.length/\W wd m <:+ W wd n/\gW (T.wy.getD m []) c=Z b
     ·rw[Zp g,Zp ⟨g.1,g.2.1,H.below f t s g.2.1 g.2.2.1 a,g.2.2.2⟩]
     ·rw[Zn g,Zn λz=>g ⟨z.1,z.2.1,z.2.2.1.trans r,z.2.2.2⟩]
  ·rw[Zn j];refine⟨T.wy,rfl,rfl,λm d=>?_⟩;rw[Zn λz=>j (mono m n z.2.1 f z.2.2.1 (Z4 _) z.2.2.2)]
def I.Rr(H:I fr S nd wd){c v:Nat}:∀(k:Nat)(T:St)(n:Nat),n<wd.length->Z n≠fr->(W wd n).length<k->(∀m,m<wd.length->W wd m <:+ W wd n->T.lk.getD m L=S.lk.getD m L)->wd.length<=T.wy.length →
  (∀m i,m<wd.length->i<wd.length->W wd m <:+ W wd i->W wd i <:+ W wd n->(gW (T.wy.getD i []) c).isSome->(gW (T.wy.getD m []) c).isSome) →
  ∃w s,up1 c v k T (Z n)=Z (⟨T.lg,T.lk,w⟩,s)/\w.length=T.wy.length/\(∀m d,gW (w.getD m []) d=if d=c/\m<wd.length/\W wd m <:+ W wd n/\gW (T.wy.getD m []) c=L then Z v else gW (T.wy.getD m []) d) ∧
   (s=L->∀m,m<wd.length->W wd m <:+ W wd n->gW (T.wy.getD m []) c=L) ∧
   ∀p,s=Z p->p<wd.length/\W wd p <:+ W wd n/\(gW (T.wy.getD p []) c).isSome/\∀m,m<wd.length->W wd m <:+ W wd n->(W wd p).length<(W wd m).length->gW (T.wy.getD m []) c=L:=by
 intro k
 induction k with
 |zero=>intro T n _ _ h;lia
 |succ k U =>
  intro T n f o hk M hw mono;have r:=ZU f hw;unfold up1;by_cases l:(gW (T.wy.getD n []) c).isSome=J
  ·rw[Zp l];refine⟨T.wy,Z n,rfl,rfl,λm d=>?_,(λh=>nomatch h),λp t=>?_⟩
   ·rw[Zn λz=>?_];have:=mono m n z.2.1 f z.2.2.1 (Z4 _) l;rw[z.2.2.2]at this;cases this
   ·cases t;refine⟨f,Z4 _,l,λm a b j=>?_⟩;have:=b.length_le;lia
  ·have y:gW (T.wy.getD n []) c=L:=by
    cases h:gW (T.wy.getD n []) c with
    |none=>rfl
    |some x=>rw[h]at l;exact absurd Y l
   rw[Zn l,M n f (Z4 _)];cases j:S.lk.getD n L with
   |none =>
    refine⟨T.wy.set n (pW (T.wy.getD n []) c v),L,by cases k<;>rfl,Yo,λm d=>?_,λ_ m a b=>?_,(λp t=>nomatch t)⟩
    ·rw[gB _ _ _ _ _ _ r];by_cases a:m=n/\d=c
     ·rw[Zp a,Zp ⟨a.2,by rw[a.1];exact f,by rw[a.1];exact Z4 _,by rw[a.1];exact y⟩]
     ·rw[Zn a,Zn λz=>a ⟨H.root f o j z.2.1 z.2.2.1,z.1⟩]
    ·rw[H.root f o j a b];exact y
   |some q =>
    obtain⟨l1,R,A,Q⟩:=H.low o j (H.top f);have ne:∀m,W wd m <:+ W wd q->m≠n:=λm a e=>by
     rw[e]at a;have:=a.length_le;lia
    obtain⟨w,s,e1,e2,e3,e4,e5⟩:=U ⟨T.lg,T.lk,T.wy.set n (pW (T.wy.getD n []) c v)⟩ q R Q (by lia) (λm a b=>M m a (b.trans A)) (by rw[Yo];exact hw) (λm i a Lx b C h=>by
     have E:=h;rw[gB _ _ _ _ _ _ r,Zn (λz=>ne i C z.1)]at E;rw[gB _ _ _ _ _ _ r,Zn (λz=>ne m (b.trans C) z.1)];exact mono m i a Lx b (C.trans A) E)
    have old:∀m,W wd m <:+ W wd q->gW ((T.wy.set n (pW (T.wy.getD n []) c v)).getD m []) c=gW (T.wy.getD m []) c:=λm a=>by rw[gB _ _ _ _ _ _ r,Zn (λz=>ne m a z.1)]
    refine⟨w,s,e1,by rw[e2];exact Yo,λm d=>?_,λX m a b=>?_,λp t=>?_⟩
    ·rw[e3 m d];by_cases a:m=n
     ·subst a;rw[Zn (λz=>ne m z.2.2.1 Y),gB _ _ _ _ _ _ r];by_cases hd:d=c
      ·rw[Zp ⟨rfl,hd⟩,Zp ⟨hd,f,Z4 _,y⟩]
      ·rw[Zn (λz=>hd z.2),Zn (λz=>hd z.1)]
     ·have F:∀d,gW ((T.wy.set n (pW (T.wy.getD n []) c v)).getD m []) d=gW (T.wy.getD m []) d:=λd=>by rw[gB _ _ _ _ _ _ r,Zn (λz=>a z.1)]
      rw[F,F];by_cases g:d=c/\m<wd.length/\W wd m <:+ W wd n/\gW (T.wy.getD m []) c=L
      ·rw[Zp g,Zp ⟨g.1,g.2.1,H.below f o j g.2.1 g.2.2.1 a,g.2.2.2⟩]
      ·rw[Zn g,Zn λz=>g ⟨z.1,z.2.1,z.2.2.1.trans A,z.2.2.2⟩]
    ·by_cases u:m=n
     ·rw[u];exact y
     ·have hb:=H.below f o j a b u;rw[← old m hb];exact e4 X m a hb
    ·obtain⟨P,D,O,N⟩:=e5 p t;have G:=O;rw[old p D]at G;refine⟨P,D.trans A,G,λm a b Kq=>?_⟩;by_cases u:m=n
     ·rw[u];exact y
     ·have hb:=H.below f o j a b u;rw[← old m hb];exact N m a hb Kq
end
def Gg(g:97<=c/\c<=122):∀(k:Nat)(S a:St)(o:Option Nat),WF S->v<S.lg.length->Pq c b v k S o=Z a->WF a:=by
 intro k
 induction k with
 |zero =>
  intro S a o H d e;cases o with
  |none=>cases (e);exact H
  |some n=>cases e
 |succ k f =>
  intro S a o H d e;cases o with
  |none=>cases (e);exact H
  |some n =>
   unfold Pq at e;split at e
   ·exact f ⟨S.lg,S.lk,S.wy.set n (pW (S.wy.getD n []) c v)⟩ a _ (H.way (n:=n) d g) d e
   ·cases e;exact H
def Hq(g:97<=c/\c<=122):∀(k:Nat)(S a:St)(o b:Option Nat),WF S->v<S.lg.length->up1 c v k S o=Z (a,b)->WF a:=by
 intro k
 induction k with
 |zero =>
  intro S a o b H d e;cases o with
  |none=>cases (e);exact H
  |some n=>cases e
 |succ k f =>
  intro S a o b H d e;cases o with
  |none=>cases (e);exact H
  |some n =>
   unfold up1 at e;split at e
   ·cases e;exact H
   ·exact f ⟨S.lg,S.lk,S.wy.set n (pW (S.wy.getD n []) c v)⟩ a _ b (H.way (n:=n) d g) d e
def jQ{α:Type}{x y:List α}{a b:α}(h:x++[a] <:+ y++[b]):a=b/\x <:+ y:=by
 obtain⟨t,e⟩:=h;rw[← ZI]at e;obtain⟨e1,e2⟩:=List.append_inj' e Y;exact⟨by simpa using e2,⟨t,e1⟩⟩
def iS{α:Type}{x y:List α}(a:α)(h:x <:+ y):x++[a] <:+ y++[a]:=by
 obtain⟨t,e⟩:=h;exact⟨t,by rw[← e,ZI]⟩
noncomputable def jl(b:Wd->Option Nat)(a l h:Nat)(x:Wd):Option Nat:=if b x=Z a/\x.length<=l then Z h else b x
theorem I.split(H:I N S o b)(G:n<b.length)(hf:Z n≠N)(hc:97<=c/\c<=122)(ho:gW (S.wy.getD n []) c=Z a)(QT:Z a≠N)(NK:N≠Z b.length)(Lh:S.lg.getD a 0≠S.lg.getD n 0+1)(hk:(W b n).length<1000) :
  ∃S',Pz S n c=Z (S',S.lg.length)/\I N S' (jl o a ((W b n).length+1) b.length) (b++[W b n++[c]]):=by
 have M:=H.len.symm;have hw:=H.way G ho;have hold:=H.lt hw;have t:=H.sf hw;have lw:(W b n++[c]).length=(W b n).length+1:=by rw[Zq];rfl
 rw[H.lg a hold,H.lg n G]at Lh;have Kq:(W b n).length+1<(W b a).length:=by
  have:=t.length_le;rw[lw]at this;lia
 have U:a≠0:=λe=>by
  rw[e,H.wz]at Kq;simp at Kq
 have Th:0<b.length:=by rw[H.len];exact H.wf.pos
 have l1:S.lk.length=b.length:=by rw[H.wf.lk,M]
 have l2:S.wy.length=b.length:=by rw[H.wf.wy,M]
 have PF:∀m,((S.lk++[S.lk.getD a L]).set a (Z S.lg.length)).getD m L=if m=a then Z b.length else if m=b.length then S.lk.getD a L else S.lk.getD m L:=λm=>by
  rw[iT,cn,l1,M];by_cases h:m=a
  ·rw[Zp ⟨h.symm,by rw[Zq,l1];lia⟩,Zp h]
  ·rw[Zn (λz=>h z.1.symm),Zn h]
 have Mv:∀m,(S.wy++[S.wy.getD a []]).getD m []=if m=b.length then S.wy.getD a [] else S.wy.getD m []:=λm=>by rw[cn,l2]
 have NT:∀m,m<b.length->(S.wy++[S.wy.getD a []]).getD m []=S.wy.getD m []:=λm f=>by rw[Mv,Zn (Zf f)]
 obtain⟨w2,e1,e2,e3⟩:=H.Rq (c:=c) (v:=S.lg.length) 1000 ⟨S.lg++[S.lg.getD n 0+1],(S.lk++[S.lk.getD a L]).set a (Z S.lg.length),S.wy++[S.wy.getD a []]⟩ n G hf hk (λm f X=>by
   have:=X.length_le;rw[PF,Zn (λe=>by rw[e]at this;lia),Zn (Zf f)])
  (by rw[Zq,l2];exact YU _ _)
  (λm u f D X Lp h=>by
   have C:=h;rw[NT m f]at C;rw[NT u D,H.wy (H.top D) c];rw[H.wy (H.top f) c]at C;exact H.iv C (iS c X) ((iS c Lp).trans t))
 have wn:=H.wf.R4 a;have W1:=H.wf.more (l:=S.lg.getD n 0+1) (λm f=>H.wf.up a m f) (λd m f=>H.wf.on a d m f) wn.1 wn.2;have hlen:(S.lg++[S.lg.getD n 0+1]).length=S.lg.length+1:=by rw[Zq];rfl
 have W2:=W1.link (n:=a) (v:=S.lg.length) (by lia);have UX:=Gg hc 1000 _ _ _ W2 (by lia) e1;refine⟨⟨S.lg++[S.lg.getD n 0+1],(S.lk++[S.lk.getD a L]).set a (Z S.lg.length),w2⟩,?_,?_⟩
 ·unfold Pz;rw[ho,Zr,Zn (by rw[H.lg a hold,H.lg n G];exact Lh),e1];rfl
 have Wn:∀m,W (b++[W b n++[c]]) m=if m=b.length then W b n++[c] else W b m:=λm=>cn b _ _ m
 have s:W (b++[W b n++[c]]) b.length=W b n++[c]:=by rw[Wn,Zp Y]
 have g:∀{m},m<b.length->W (b++[W b n++[c]]) m=W b m:=λ{m} f=>by rw[Wn,Zn (Zf f)]
 have di:(b++[W b n++[c]]).length=b.length+1:=by rw[Zq];rfl
 have tell:∀{x m},jl o a ((W b n).length+1) b.length x=Z m->(m=b.length/\o x=Z a/\x.length<=(W b n).length+1)\/(m<b.length/\o x=Z m/\¬(m=a/\x.length<=(W b n).length+1)):=λ{x m} h=>by
  unfold jl at h;split at h
  ·rename_i q;cases h;exact .inl ⟨rfl,q.1,q.2⟩
  ·rename_i q;exact .inr ⟨H.lt h,h,λz=>q ⟨by rw[h,z.1],z.2⟩⟩
 have Q:∀{x},o x=Z a->x.length<=(W b n).length+1->jl o a ((W b n).length+1) b.length x=Z b.length:=λ{x} A h2=>Zp ⟨A,h2⟩;have tO:∀{x m},o x=Z m->¬(m=a/\x.length<=(W b n).length+1)->jl o a ((W b n).length+1) b.length x=Z m:=λ{x m} A h2=>by
  unfold jl;rw[Zn (λz=>h2 ⟨by rw[A]at z;exact Zh z.1,z.2⟩),A]
 have Pw:∀{x m},o x=Z m->∃u,jl o a ((W b n).length+1) b.length x=Z u:=λ{x m} h=>by
  unfold jl;split
  ·exact⟨_,rfl⟩
  ·exact⟨m,h⟩
 have un:∀{x m},jl o a ((W b n).length+1) b.length x=Z m->∃u,o x=Z u:=λ{x m} h=>(tell h).elim (λz=>⟨_,z.2.1⟩) λz=>⟨_,z.2.1⟩
 refine⟨UX,by rw[di,hlen,M],λm f=>?_,tO H.z (λz=>U z.1.symm),by rw[g Th];exact H.wz,λ{x m} h=>by rcases tell h with z | z<;>lia,λ{x m} h=>?_,λ{m} f=>?_,λ{x y m} h O i=>?_,λ{x d m} h=>?_,λ{x y m} h O=>?_,?_,λ{m} h0 f hmf=>?_,λ{x m} h d=>?_⟩
 ·rw[di]at f;rw[cn,M];by_cases e:m=b.length
  ·rw[Zp e,e,s,H.lg n G,lw]
  ·rw[Zn e,g (by lia),H.lg m (by lia)]
 ·rcases tell h with⟨rfl,j,E⟩ | ⟨F,j,_⟩
  ·rw[s];exact cW (H.sf j) t (by rw[lw];exact E)
  ·rw[g F];exact H.sf j
 ·rw[di]at f;by_cases e:m=b.length
  ·rw[e,s];exact Q hw (by rw[lw];exact Zk _)
  ·rw[g (by lia)];exact tO (H.top (by lia)) (λz=>by have:=z.2;rw[z.1]at this;lia)
 ·rcases tell h with⟨rfl,j,E⟩ | ⟨F,j,E⟩
  ·rw[s]at i;have:=i.length_le;rw[lw]at this;exact Q (H.iv j O (i.trans t)) this
  ·rw[g F]at i;exact tO (H.iv j O i) (λz=>E ⟨z.1,ZJ O.length_le z.2⟩)
 ·obtain⟨u,C⟩:=un h;obtain⟨q,p⟩:=H.pre C;exact Pw p
 ·obtain⟨u,C⟩:=un h;obtain⟨q,p⟩:=H.OS C O;exact Pw p
 ·rw[PF,Zn (Yy U),Zn (by exact Zf Th)];exact H.PD
 ·rw[di]at f;show ∃q,((S.lk++[S.lk.getD a L]).set a (Z S.lg.length)).getD m L=Z q/\_;rw[PF,di];obtain⟨q,q1,⟨P,VB⟩,q3,q4,q5⟩:=H.lk (YW U) hold QT;obtain⟨lo,_⟩:=H.low QT q1 hw;rw[lw]at lo;by_cases e:m=a
  ·subst e;rw[Zp Y];refine⟨b.length,rfl,⟨by exact Z3 _,λz=>NK z.symm⟩,?_,?_,λy i w=>?_⟩
   ·rw[s,g hold];exact t
   ·rw[s,g hold,lw];exact Kq
   ·rw[s,lw]at w;rw[g hold]at i;exact tO (H.iv hw (cW t i (by rw[lw];exact Y5 w)) i) (λz=>by have:=z.2;lia)
  ·rw[Zn e];by_cases eL:m=b.length
   ·subst eL;rw[Zp Y,q1];refine⟨q,rfl,⟨by exact Yq P,VB⟩,?_,?_,λy i w=>?_⟩
    ·rw[s,g P];exact cW q3 t (by rw[lw];exact Y5 lo)
    ·rw[s,g P,lw];exact lo
    ·rw[s]at i;rw[g P]at w;have:=i.length_le;rw[lw]at this;exact Q (q5 y (i.trans t) w) this
   ·rw[Zn eL];have D:m<b.length:=by lia
    obtain⟨r,r1,⟨r2,R⟩,r3,r4,r5⟩:=H.lk h0 D hmf;rw[r1];refine⟨r,rfl,⟨by exact Yq r2,R⟩,by rw[g r2,g D];exact r3,by rw[g r2,g D];exact r4,λy i w=>?_⟩;rw[g D]at i;rw[g r2]at w;exact tO (r5 y i w) (λz=>e z.1)
 ·rw[e3 m d];rcases tell h with⟨rfl,j,E⟩ | ⟨F,j,E⟩
  ·rw[Zn (λz=>YO _ z.2.1),Mv,Zp Y,H.wy j d];unfold jl;rw[Zn];intro z;have A:=z.1;rw[← H.wy j d,H.wy (H.top hold) d]at A;have:=(H.sf A).length_le;rw[Zq,ZG]at this;lia
  ·rw[NT m F,H.wy j c,H.wy j d];unfold jl;by_cases p:o (x++[d])=Z a/\(x++[d]).length<=(W b n).length+1
   ·obtain⟨rfl,hx⟩:=jQ (cW (H.sf p.1) t (by rw[lw];exact p.2));obtain⟨u,m1,m2⟩:=H.T7 G hf hx;rw[j]at m1;cases m1;rw[Zp ⟨rfl,F,m2,p.1⟩,Zp p,M]
   ·rw[Zn p,Zn];rintro⟨rfl,_,a3,a4⟩;refine p ⟨a4,?_⟩;have b1:=(H.sf j).length_le;have b2:=a3.length_le;rw[Zq,ZG];lia
end AU
end
section
namespace AU
open Classical in
noncomputable def i6(a:Wd->Option Nat)(w:Wd)(f:Nat)(x:Wd):Option Nat:=match a x with
 |some m=>Z m
 |none=>if x <:+ w then Z f else L
def dX(h:a x=Z m):i6 a w f x=Z m:=by
 unfold i6;rw[h]
def gP(h:a x=L)(b:x <:+ w):i6 a w f x=Z f:=by
 unfold i6;rw[h];exact Zp b
def cV(h:i6 a w f x=Z m):a x=Z m\/(m=f/\a x=L/\x <:+ w):=by
 unfold i6 at h;split at h
 ·rename_i q e;cases h;exact .inl e
 ·rename_i e;split at h
  ·rename_i b;cases h;exact .inr ⟨rfl,e,b⟩
  ·cases h
def zR{α:Type}{y t:List α}{c:α}(h:y <:+ t++[c])(d:y≠[]):∃a,y=a++[c]/\a <:+ t:=by
 rcases List.eq_nil_or_concat y with e | ⟨a,b,e⟩
 ·exact absurd e d
 ·rw[List.concat_eq_append]at e;subst e;obtain⟨e1,e2⟩:=jQ h;exact⟨a,by rw[e1],e2⟩
section
def I.fresh(H:I L S nd wd){c:Nat}(t:h<wd.length)(hc:97<=c/\c<=122)(hn:gW (S.wy.getD h []) c=L)(hk:(W wd h).length<1000) :
  ∃D u,up1 c S.lg.length 1000 ⟨S.lg++[S.lg.getD h 0+1],S.lk++[Z 0],S.wy++[[]]⟩ (Z h)=Z (D,u)/\I (Z wd.length) D (i6 nd (W wd h++[c]) wd.length) (wd++[W wd h++[c]])/\D.lk.getD wd.length L=Z 0/\D.lg.length=S.lg.length+1 ∧
   (∀m,m<wd.length->(gW (S.wy.getD m []) c).isSome->gW (D.wy.getD m []) c=gW (S.wy.getD m []) c) ∧
   (u=L->∀m,m<wd.length->W wd m <:+ W wd h->gW (S.wy.getD m []) c=L) ∧
   ∀p,u=Z p->p<wd.length/\W wd p <:+ W wd h/\(gW (S.wy.getD p []) c).isSome/\∀m,m<wd.length->W wd m <:+ W wd h->(W wd p).length<(W wd m).length->gW (S.wy.getD m []) c=L:=by
 have C:=H.len.symm;have l1:S.lk.length=wd.length:=by rw[H.wf.lk,C]
 have l2:S.wy.length=wd.length:=by rw[H.wf.wy,C]
 have Th:0<wd.length:=by rw[H.len];exact H.wf.pos
 have O:∀m,(S.lk++[Z 0]).getD m L=if m=wd.length then Z 0 else S.lk.getD m L:=λm=>by rw[cn,l1]
 have Mv:∀m,(S.wy++[[]]).getD m []=if m=wd.length then [] else S.wy.getD m []:=λm=>by rw[cn,l2]
 have s:∀m,m<wd.length->(S.wy++[[]]).getD m []=S.wy.getD m []:=λm b=>by rw[Mv,Zn (Zf b)]
 obtain⟨w2,u,e1,e2,e3,e4,e5⟩:=H.Rr (c:=c) (v:=S.lg.length) 1000 ⟨S.lg++[S.lg.getD h 0+1],S.lk++[Z 0],S.wy++[[]]⟩ h t (λz=>nomatch z) hk (λm b _=>by
   rw[O,Zn (Zf b)])
  (by rw[Zq,l2];exact YU _ _)
  (λm m' b j g Lp q=>by
   have X:=q;rw[s m' j,H.wy (H.top j) c]at X;rw[s m b,H.wy (H.top b) c];obtain⟨r,f⟩:=Yi.mp X;obtain⟨U,P⟩:=H.OS f (iS c g);rw[P];rfl)
 have hlen:(S.lg++[S.lg.getD h 0+1]).length=S.lg.length+1:=by rw[Zq];rfl
 have UX:=Hq hc 1000 _ _ _ _ (H.wf.more (l:=S.lg.getD h 0+1) (o:=Z 0) (w:=[]) (λm b=>by cases b;exact H.wf.pos) (λd m b=>by cases b) Yt (λp Q=>nomatch Q)) (by lia) e1;have lw:(W wd h++[c]).length=(W wd h).length+1:=by rw[Zq];rfl
 have Wn:∀m,W (wd++[W wd h++[c]]) m=if m=wd.length then W wd h++[c] else W wd m:=λm=>cn wd _ _ m
 have N:W (wd++[W wd h++[c]]) wd.length=W wd h++[c]:=by rw[Wn,Zp Y]
 have i:∀{m},m<wd.length->W (wd++[W wd h++[c]]) m=W wd m:=λ{m} b=>by rw[Wn,Zn (Zf b)]
 have di:(wd++[W wd h++[c]]).length=wd.length+1:=by rw[Zq];rfl
 refine⟨⟨S.lg++[S.lg.getD h 0+1],S.lk++[Z 0],w2⟩,u,e1,?_,by rw[O,Zp Y],hlen,λm b g=>?_,λho m b g=>?_,λp Q=>?_⟩
 rotate_left
 ·rw[e3 m c];rw[s m b,Zn (λz=>by rw[z.2.2.2]at g;cases g)]
 ·have:=e4 ho m b g;have F:=this;rw[s m b]at F;exact F
 ·obtain⟨p1,p2,p3,p4⟩:=e5 p Q;have Sk:=p3;rw[s p p1]at Sk;refine⟨p1,p2,Sk,λm b g M=>?_⟩;have:=p4 m b g M;have F:=this;rw[s m b]at F;exact F
 refine⟨UX,by rw[di];rw[hlen,C],λm b=>?_,dX H.z,by rw[i Th];exact H.wz,λ{x m} q=>?_,λ{x m} q=>?_,λ{m} b=>?_,λ{x y m} q E n=>?_,λ{x d m} q=>?_,λ{x y m} q E=>?_,?_,λ{m} h0 b R=>?_,λ{x m} q d=>?_⟩
 ·rw[di]at b;rw[cn,C];by_cases e:m=wd.length
  ·rw[Zp e,e,N,H.lg h t,lw]
  ·rw[Zn e,i (by lia),H.lg m (by lia)]
 ·rw[di];rcases cV q with z | z
  ·have:=H.lt z;exact Yq this
  ·lia
 ·rcases cV q with z | ⟨rfl,_,z⟩
  ·rw[i (H.lt z)];exact H.sf z
  ·rw[N];exact z
 ·rw[di]at b;by_cases e:m=wd.length
  ·rw[e,N];exact gP (by rw[← H.wy (H.top t) c];exact hn) (Z4 _)
  ·rw[i (by lia)];exact dX (H.top (by lia))
 ·rcases cV q with z | ⟨rfl,G,z2⟩
  ·rw[i (H.lt z)]at n;exact dX (H.iv z E n)
  ·rw[N]at n;refine gP ?_ n;cases e:nd y with
   |none=>rfl
   |some r =>
    obtain⟨U,f⟩:=H.OS e E;rw[G]at f;cases f
 ·rcases cV q with z | ⟨_,_,z⟩
  ·obtain⟨r,f⟩:=H.pre z;exact⟨r,dX f⟩
  ·obtain⟨_,A⟩:=jQ z;obtain⟨r,f⟩:=H.OS (H.top t) A;exact⟨r,dX f⟩
 ·rcases cV q with z | ⟨_,_,z⟩
  ·obtain⟨r,f⟩:=H.OS z E;exact⟨r,dX f⟩
  ·cases e:nd x with
   |none=>exact⟨_,gP e (E.trans z)⟩
   |some r=>exact⟨r,dX e⟩
 ·rw[O,Zn (by exact Zf Th)];exact H.PD
 ·rw[di]at b;have j:m<wd.length:=by
   have:m≠wd.length:=λe=>R (by rw[e]);lia
  show ∃q,(S.lk++[Z 0]).getD m L=Z q/\_;rw[O,Zn (Zf j),di];obtain⟨r,r1,⟨r2,_⟩,r3,r4,r5⟩:=H.lk h0 j (λz=>nomatch z);refine⟨r,r1,⟨by exact Yq r2,λz=>?_⟩,by rw[i r2,i j];exact r3,by rw[i r2,i j];exact r4,λy n M=>?_⟩
  ·have:=Zh z;lia
  ·rw[i j]at n;rw[i r2]at M;exact dX (r5 y n M)
 ·rw[e3 m d];rcases cV q with z | ⟨rfl,G,z2⟩
  ·have b:=H.lt z;rw[s m b,H.wy z c,H.wy z d];cases e:nd (x++[d]) with
   |some r =>
    rw[dX e,Zn];rintro⟨rfl,_,_,a⟩;rw[e]at a;cases a
   |none =>
    by_cases g:x++[d] <:+ W wd h++[c]
    ·obtain⟨rfl,A⟩:=jQ g;obtain⟨m',m1,m2⟩:=H.T7 t (λz=>nomatch z) A;rw[z]at m1;cases m1;rw[gP e g,Zp ⟨rfl,b,m2,e⟩,C]
    ·have:i6 nd (W wd h++[c]) wd.length (x++[d])=L:=by
      unfold i6;rw[e];exact Zn g
     rw[this,Zn];rintro⟨rfl,_,a,_⟩;exact g (iS d ((H.sf z).trans a))
  ·rw[Zn (λa=>YO _ a.2.1),Mv,Zp Y];have e:nd (x++[d])=L:=by
    cases e:nd (x++[d]) with
    |none=>rfl
    |some r =>
     obtain⟨U,f⟩:=H.pre e;rw[G]at f;cases f
   have:i6 nd (W wd h++[c]) wd.length (x++[d])=L:=by
    unfold i6;rw[e];refine Zn λg=>?_;obtain⟨_,A⟩:=jQ g;obtain⟨r,f⟩:=H.OS (H.top t) A;rw[G]at f;cases f
   rw[this];rfl
def I.fix{f m:Nat}(H:I (Z f) S nd wd)(j:f<wd.length)(b:m<wd.length)(h:W wd m <:+ W wd f)(a:(W wd m).length<(W wd f).length)(g:∀y,y <:+ W wd f->(W wd m).length<y.length->nd y=Z f):I L ⟨S.lg,S.lk.set f (Z m),S.wy⟩ nd wd:=by
 refine⟨H.wf.link (by rw[← H.len];exact b),H.len,H.lg,H.z,H.wz,H.lt,H.sf,H.top,H.iv,H.pre,H.OS,?_,λ{n} l i _=>?_,H.wy⟩
 ·rw[iT,Zn (λz=>(λe=>by
  rw[e,H.wz]at a;simp at a) z.1)]
  exact H.PD
 ·show ∃q,(S.lk.set f (Z m)).getD n L=Z q/\_;rw[iT];by_cases e:f=n
  ·subst e;rw[Zp ⟨rfl,(by rw[H.wf.lk,← H.len];exact j)⟩];exact⟨m,rfl,⟨b,λz=>nomatch z⟩,h,a,g⟩
  ·rw[Zn (λz=>e z.1)];obtain⟨r,r1,⟨r2,_⟩,d⟩:=H.lk l i (λz=>e (Zh z).symm);exact⟨r,r1,⟨r2,λz=>nomatch z⟩,d⟩
end
end AU
end
section
namespace AU
structure TZ(nd KS:Wd->Option Nat)(w:Wd):Prop where
 eq:∀{x y m n},KS x=some m->KS y=some n->(m=n↔nd x=nd y/\(x <:+ w↔y <:+ w))
section
def I.Sw(H:I fr S nd wd){n c:Nat}(u:n<wd.length)(R:Z n≠fr)(U:97<=c/\c<=122)(t:gW (S.wy.getD n []) c=Z a)(o:Z a≠fr)(p:fr≠Z wd.length)(Q:(W wd n).length<1000) :
  ∃j r s Ku,Pz S n c=Z (j,r)/\I fr j s Ku/\r<Ku.length/\Z r≠fr/\W Ku r=W wd n++[c]/\(∀m,m<wd.length->W Ku m=W wd m)/\wd.length<=Ku.length/\Ku.length<=wd.length+1 ∧
   (∀x,(∃m,s x=Z m) ↔ ∃m,nd x=Z m)/\TZ nd s (W wd n++[c])/\∀x f,f≠a->nd x=Z f->s x=Z f:=by
 have hw:=H.way u t;have hold:=H.lt hw;have G:=H.sf hw;have lw:(W wd n++[c]).length=(W wd n).length+1:=by rw[Zq];rfl
 by_cases w:S.lg.getD a 0=S.lg.getD n 0+1
 ·have e:W wd a=W wd n++[c]:=by
   have:=w;rw[H.lg a hold,H.lg n u]at this;exact(G.eq_of_length (by rw[lw,this])).symm
  refine⟨S,a,nd,wd,?_,H,hold,o,e,λm _=>rfl,Zk _,Y6 _,λx=>Iff.rfl,⟨λ{x y m k} d b=>?_⟩,λx f _ h=>h⟩
  ·unfold Pz;rw[t,Zr,Zp w]
  ·constructor
   ·rintro rfl;exact⟨by rw[d,b],λh=>by rw[← e]at h ⊢;exact H.all hold o d b h,λh=>by rw[← e]at h ⊢;exact H.all hold o b d h⟩
   ·rintro⟨h,_⟩;rw[d,b]at h;exact Zh h
 ·obtain⟨j,e1,A⟩:=H.split u R U t o p w Q;have F:W (wd++[W wd n++[c]]) wd.length=W wd n++[c]:=(cn wd _ _ _).trans (Zp Y);have di:(wd++[W wd n++[c]]).length=wd.length+1:=by rw[Zq];rfl
  have inv:∀{x m},jl nd a ((W wd n).length+1) wd.length x=Z m->(m=wd.length/\nd x=Z a/\x.length<=(W wd n).length+1)\/nd x=Z m:=λ{x m} h=>by
   unfold jl at h;split at h
   ·rename_i q;cases h;exact .inl ⟨rfl,q.1,q.2⟩
   ·exact .inr h
  have g:∀{x},nd x=Z a->(x.length<=(W wd n).length+1↔x <:+ W wd n++[c]):=λ{x} h=>⟨λP=>cW (H.sf h) G (by rw[lw];exact P),λi=>by have:=i.length_le;rw[lw]at this;exact this⟩
  refine⟨j,S.lg.length,_,_,e1,A,by rw[di,← H.len];exact Z3 _,by rw[← H.len];exact λz=>p z.symm,by rw[← H.len];exact F,(λm O=>(cn wd _ _ m).trans (Zn (Zf O))),by lia,by exact XH di,λx=>⟨λ⟨m,h⟩=>(inv h).elim (λz=>⟨_,z.2.1⟩) λz=>⟨_,z⟩,λ⟨m,h⟩=>?_⟩,⟨λ{x y m k} d b=>?_⟩,λx f v h=>?_⟩
  ·unfold jl;split
   ·exact⟨_,rfl⟩
   ·exact⟨m,h⟩
  ·constructor
   ·rintro rfl;have C:wd.length<(wd++[W wd n++[c]]).length:=by lia
    have E:=λh=>A.all C (λz=>p z.symm) d b h;have D:=λh=>A.all C (λz=>p z.symm) b d h;rw[F]at E D;refine⟨?_,E,D⟩;rcases inv d with⟨X,M,_⟩ | z
    ·rcases inv b with⟨_,N,_⟩ | y
     ·rw[M,N]
     ·have:=H.lt y;lia
    ·rcases inv b with⟨y1,_,_⟩ | y
     ·have:=H.lt z;lia
     ·rw[z,y]
   ·rintro⟨h,i⟩;have:jl nd a ((W wd n).length+1) wd.length x=jl nd a ((W wd n).length+1) wd.length y:=by
     unfold jl;rw[h];by_cases q:nd y=Z a
     ·have e1:=g (by rw[h,q]);have e2:=g q;by_cases l:y.length<=(W wd n).length+1
      ·rw[Zp ⟨q,e1.mpr (i.mpr (e2.mp l))⟩,Zp ⟨q,l⟩]
      ·rw[Zn (λz=>l (e2.mpr (i.mp (e1.mp z.2)))),Zn (λz=>l z.2)]
     ·rw[Zn (λz=>q z.1),Zn (λz=>q z.1)]
    rw[d,b]at this;exact Zh this
  ·unfold jl;rw[Zn (λz=>v (by rw[h]at z;exact Zh z.1))];exact h
end
section
def I.step(H:I L S nd wd)(M:h<wd.length)(hc:97<=c/\c<=122)(hk:(W wd h).length+1<1000) :
  ∃S' r u Ku,hb S h c=Z (S',r)/\I L S' u Ku/\r<Ku.length/\W Ku r=W wd h++[c]/\(∀m,m<wd.length->W Ku m=W wd m)/\wd.length<=Ku.length/\Ku.length<=wd.length+2 ∧
   (∀x,(∃m,u x=Z m)↔(∃m,nd x=Z m)\/x <:+ W wd h++[c])/\TZ nd u (W wd h++[c]):=by
 cases hg:gW (S.wy.getD h []) c with
 |some old =>
  obtain⟨S',r,u,Ku,e,H',h1,_,h2,h3,h4,h5,h6,h7,_⟩:=H.Sw M (λz=>nomatch z) hc hg (λz=>nomatch z) (λz=>nomatch z) (by exact Nat.lt_of_succ_lt hk);refine⟨S',r,u,Ku,?_,H',h1,h2,h3,h4,by exact Vr h5,λx=>(h6 x).trans ⟨.inl,λz=>z.elim id λz=>H.OS (H.way M hg) z⟩,h7⟩;unfold hb;rw[hg];exact e
 |none =>
  have N:=H.len.symm;obtain⟨o,o',e1,v,k0,k1,k2,k3,k4⟩:=H.fresh M hc hg (by exact Nat.lt_of_succ_lt hk);have WL:W (wd++[W wd h++[c]]) wd.length=W wd h++[c]:=(cn wd _ _ _).trans (Zp Y);have Wl:∀m,m<wd.length->W (wd++[W wd h++[c]]) m=W wd m:=λm hm=>(cn wd _ _ m).trans (Zn (Zf hm));have di:(wd++[W wd h++[c]]).length=wd.length+1:=by rw[Zq];rfl
  have lw:(W wd h++[c]).length=(W wd h).length+1:=by rw[Zq];rfl
  have ex:∀x,(∃m,i6 nd (W wd h++[c]) wd.length x=Z m)↔(∃m,nd x=Z m)\/x <:+ W wd h++[c]:=λx=>⟨λ⟨m,q⟩=>(cV q).elim (λz=>.inl ⟨_,z⟩) λz=>.inr z.2.2,λq=>by
   cases e:nd x with
   |some m=>exact⟨m,dX e⟩
   |none=>exact q.elim (λ⟨m,z⟩=>by rw[e]at z;cases z) λz=>⟨_,gP e z⟩⟩
  have same:∀{x y m n},i6 nd (W wd h++[c]) wd.length x=Z m->i6 nd (W wd h++[c]) wd.length y=Z n->(m=n↔nd x=nd y):=λ{x y m n} s j=>by
   rcases cV s with z | ⟨z1,z2,_⟩
   ·rcases cV j with i | ⟨y1,y2,_⟩
    ·rw[z,i];exact⟨λe=>by rw[e],λe=>Zh e⟩
    ·have:=H.lt z;refine⟨λe=>by lia,λe=>?_⟩;rw[z,y2]at e;cases e
   ·rcases cV j with i | ⟨y1,y2,_⟩
    ·have:=H.lt i;refine⟨λe=>by lia,λe=>?_⟩;rw[z2,i]at e;cases e
    ·exact⟨λ_=>by rw[z2,y2],λ_=>by rw[z1,y1]⟩
  have Pr:∀{y},y <:+ W wd h++[c]->y≠[]->∀{q},nd y=Z q->∃i m,y=i++[c]/\i <:+ W wd h/\nd i=Z m/\m<wd.length/\W wd m <:+ W wd h/\(gW (S.wy.getD m []) c).isSome:=λ{y} d Lh {q} U=>by
   obtain⟨i,rfl,F⟩:=zR d Lh;obtain⟨m,D,m2⟩:=H.T7 M (λz=>nomatch z) F;exact⟨i,m,rfl,F,D,H.lt D,m2,by rw[H.wy D c,U];rfl⟩
  unfold hb;rw[hg,Zn (by simp),e1];cases o' with
  |none =>
   have none_:∀{y},y <:+ W wd h++[c]->y≠[]->nd y=L:=λ{y} d Lh=>by
    cases e:nd y with
    |none=>rfl
    |some q =>
     obtain⟨i,m,_,_,_,m3,m4,C⟩:=Pr d Lh e;rw[(k3 Y) m m3 m4]at C;cases C
   have H3:=v.fix (m:=0) (by lia) (by lia) (by rw[v.wz];exact XC) (by rw[v.wz,WL,lw];exact Nat.succ_pos _) (λy d g=>by
    rw[WL]at d;rw[v.wz]at g;exact gP (none_ d (λe=>by rw[e]at g;cases g)) d)
   have eS:(⟨o.lg,o.lk.set wd.length (Z 0),o.wy⟩:St)=o:=by
    have g:wd.length<o.lk.length:=by rw[v.wf.lk,← v.len,di];exact Z3 _
    have:o.lk.set wd.length (Z 0)=o.lk:=by
     rw[Zs,Zu g,Xw]at k0;rw[← k0];exact Ws g
    rw[this]
   rw[eS]at H3;refine⟨o,S.lg.length,_,_,rfl,H3,by rw[di,N];exact Z3 _,by rw[N];exact WL,Wl,by lia,by lia,ex,⟨λ{x y m n} s j=>?_⟩⟩;rw[same s j];refine⟨λe=>⟨e,?_⟩,λe=>e.1⟩;have key:∀{x y m n},i6 nd (W wd h++[c]) wd.length x=Z m->i6 nd (W wd h++[c]) wd.length y=Z n->nd x=nd y->x <:+ W wd h++[c]->y <:+ W wd h++[c]:=λ{x y m n} s j e hx=>by
    rcases cV j with z | z
    ·rw[z]at e;by_cases G:x=[]
     ·subst G;rw[H.z]at e;cases e;rw[H.zero z];exact XC
     ·rw[none_ hx G]at e;cases e
    ·exact z.2.2
   exact⟨key s j e,key j s e.symm⟩
  |some p =>
   obtain⟨w,Q,p3,p4⟩:=k4 p Y;obtain⟨old,X⟩:=Yi.mp p3;have ho2:gW (o.wy.getD p []) c=Z old:=by rw[k2 p w p3];exact X
   have A:=H.way w X;have hold:=H.lt A;have ph:(W wd p).length<(W wd h).length:=by
    rcases Vx Q.length_le with l | l
    ·exact l
    ·have:=H.inj w M (Q.eq_of_length l);rw[this,hg]at X;cases X
   obtain⟨S3,r,u,Ku,f1,H3,f2,f2',f3,f4,f5,f6,f7,f8,f9⟩:=v.Sw (n:=p) (c:=c) (by lia) (λz=>by have:=Zh z;lia) hc ho2 (λz=>by have:=Zh z;lia) (λz=>by have:=Zh z;lia) (by rw[Wl p w];lia);rw[Wl p w]at f3 f8;have VW:(W wd p++[c]).length=(W wd p).length+1:=by rw[Zq];rfl
   have US:W Ku wd.length=W wd h++[c]:=by rw[f4 _ (by lia),WL]
   have none_:∀{y},y <:+ W wd h++[c]->(W wd p).length+1<y.length->nd y=L:=λ{y} d g=>by
    cases e:nd y with
    |none=>rfl
    |some q =>
     obtain⟨i,m,rfl,D,m2,m3,m4,C⟩:=Pr d (λe=>by rw[e]at g;cases g) e;have l1:=(H.sf m2).length_le;rw[Zq,ZG]at g;rw[p4 m m3 m4 (by lia)]at C;cases C
   refine⟨⟨S3.lg,S3.lk.set S.lg.length (Z r),S3.wy⟩,S.lg.length,u,Ku,?_,by rw[N];exact(H3.fix (f:=wd.length) (m:=r) (by lia) f2 (by rw[f3,US];exact iS c Q) (by rw[f3,US,VW,lw];exact Nat.succ_lt_succ ph) (λy d g=>by
    rw[US]at d;rw[f3,VW]at g;exact f9 y wd.length (by exact XO hold) (gP (none_ d g) d))),by rw[N];lia,by rw[N];exact US,λm hm=>by rw[f4 m (by lia),Wl m hm],by lia,by lia,λx=>(f7 x).trans (ex x),⟨λ{x y m n} s j=>?_⟩⟩
   ·show (Pz o p c).map _=_;rw[f1];rfl
   ·rw[f8.eq s j];obtain⟨D,P⟩:=(f7 x).mp ⟨m,s⟩;obtain⟨n1,O⟩:=(f7 y).mp ⟨n,j⟩;have e1:i6 nd (W wd h++[c]) wd.length x=i6 nd (W wd h++[c]) wd.length y↔nd x=nd y:=by
     rw[P,O];exact⟨λe=>(same P O).mp (Zh e),λe=>by rw[(same P O).mpr e]⟩
    rw[e1];have sw:=iS c Q;have R:∀{z q},nd z=Z q->(z <:+ W wd h++[c]↔z <:+ W wd p++[c]):=λ{z q} E=>⟨λa=>cW a sw (by
     rw[VW];refine ZO λb=>?_;rw[none_ a b]at E;cases E),λa=>a.trans sw⟩
    have un:∀{z q},nd z=L->i6 nd (W wd h++[c]) wd.length z=Z q->z <:+ W wd h++[c]/\¬z <:+ W wd p++[c]:=λ{z q} E a=>by
     rcases cV a with b | b
     ·rw[E]at b;cases b
     ·refine⟨b.2.2,λa=>?_⟩;obtain⟨q',U⟩:=H.OS A a;rw[E]at U;cases U
    refine⟨λ⟨a,b⟩=>⟨a,?_⟩,λ⟨a,b⟩=>⟨a,?_⟩⟩
    ·cases t:nd x with
     |some q=>rw[R t,R (by rw[← a,t])];exact b
     |none =>
      exact⟨λ_=>(un (show nd y=L by rw[← a,t]) O).1,λ_=>(un t P).1⟩
    ·cases t:nd x with
     |some q=>rw[← R t,← R (by rw[← a,t])];exact b
     |none =>
      exact⟨λz=>absurd z (un t P).2,λz=>absurd z (un (show nd y=L by rw[← a,t]) O).2⟩
end
structure K(P:Wd->Prop)(S:St)(nd:Wd->Option Nat)(wd:List Wd):Prop where
 i:I none S nd wd
 nil:P []
 some:∀x,(∃m,nd x=some m) ↔ ∃p,P p/\x <:+ p
 eq:∀{x y m n},nd x=.some m->nd y=.some n->(m=n ↔ ∀p,P p->(x <:+ p↔y <:+ p))
def K.congr(H:K P S b a)(h:∀p,P p↔Q p):K Q S b a:=by
 have:P=Q:=funext λp=>propext (h p);rw[← this];exact H
noncomputable def QH(x:Wd):Option Nat:=if x=[] then Z 0 else L
def gu(h:QH x=Z n):x=[]/\n=0:=by
 unfold QH at h;split at h
 ·exact⟨by assumption,(Zh h).symm⟩
 ·cases h
def K0:K (λp=>p=[]) S0 QH [[]]:=by
 refine⟨⟨EY,rfl,λn d=>?_,rfl,rfl,λ{x n} h=>?_,λ{x n} h=>?_,λ{n} d=>?_,λ{x y n} h b a=>?_,λ{x c n} h=>?_,λ{x y n} h b=>?_,rfl,λ{n} b a=>?_,λ{x n} h c=>?_⟩,rfl,λx=>?_,λ{x y m n} b a=>?_⟩
 ·have:n=0:=Nat.lt_one_iff.mp d;subst this;rfl
 ·rw[(gu h).2];exact Nat.one_pos
 ·rw[(gu h).1];exact XC
 ·have:n=0:=Nat.lt_one_iff.mp d;subst this;rfl
 ·have e:=(gu h).2;subst e;have:y=[]:=YL.mp a;subst this;rfl
 ·have:=(gu h).1;exact absurd this (by simp)
 ·have e:=(gu h).1;subst e;have:x=[]:=YL.mp b;subst this;exact⟨0,rfl⟩
 ·have:n<1:=a;lia
 ·obtain⟨rfl,rfl⟩:=(gu h)
  rfl
 ·constructor
  ·rintro⟨m,h⟩;exact⟨[],rfl,by rw[(gu h).1];exact XC⟩
  ·rintro⟨p,rfl,h⟩;have:x=[]:=YL.mp h;subst this;exact⟨0,rfl⟩
 ·obtain⟨rfl,rfl⟩:=gu b;obtain⟨rfl,rfl⟩:=gu a;exact⟨λ_ _ _=>Iff.rfl,λ_=>rfl⟩
section
theorem K.step(H:K P S nd wd)(w:h<wd.length)(A:97<=c/\c<=122)(v:(W wd h).length+1<1000) :
  ∃g r j Ku,hb S h c=.some (g,r)/\K (λp=>P p\/p=W wd h++[c]) g j Ku/\r<Ku.length/\W Ku r=W wd h++[c]/\(∀m,m<wd.length->W Ku m=W wd m)/\wd.length<=Ku.length/\Ku.length<=wd.length+2:=by
 obtain⟨g,r,j,Ku,e,N,M,G,F,E,D,t,C⟩:=H.i.step w A v;refine⟨g,r,j,Ku,e,⟨N,.inl H.nil,λx=>?_,λ{x y m n} s o=>?_⟩,M,G,F,E,D⟩
 ·rw[t,H.some];constructor
  ·rintro (⟨p,a,b⟩ | a)
   ·exact⟨p,.inl a,b⟩
   ·exact⟨_,.inr Y,a⟩
  ·rintro⟨p,a | rfl,b⟩
   ·exact .inl ⟨p,a,b⟩
   ·exact .inr b
 ·rw[C.eq s o];have un:∀{z q},j z=.some q->nd z=L->z <:+ W wd h++[c]/\∀p,P p->¬z <:+ p:=λ{z q} a b=>⟨((t z).mp ⟨q,a⟩).elim (λ⟨m,x⟩=>by rw[b]at x;cases x) id,λp d u=>by
   obtain⟨m,x⟩:=(H.some z).mpr ⟨p,d,u⟩;rw[b]at x;cases x⟩
  have old:nd x=nd y ↔ ∀p,P p->(x <:+ p↔y <:+ p):=by
   cases ex:nd x with
   |some a =>
    cases f:nd y with
    |some b=>exact⟨λe=>(H.eq ex f).mp (Zh e),λe=>by rw[(H.eq ex f).mpr e]⟩
    |none =>
     refine⟨λe=>(nomatch e),λe=>?_⟩;obtain⟨p,d,l⟩:=(H.some x).mp ⟨a,ex⟩;exact absurd ((e p d).mp l) ((un o f).2 p d)
   |none =>
    cases f:nd y with
    |some b =>
     refine⟨λe=>(nomatch e),λe=>?_⟩;obtain⟨p,d,l⟩:=(H.some y).mp ⟨b,f⟩;exact absurd ((e p d).mpr l) ((un s ex).2 p d)
    |none=>exact⟨λ_ p d=>⟨λz=>absurd z ((un s ex).2 p d),λz=>absurd z ((un o f).2 p d)⟩,λ_=>rfl⟩
  rw[old];constructor
  ·rintro⟨a,b⟩ p (d | rfl)
   ·exact a p d
   ·exact b
  ·intro a;exact⟨λp d=>a p (.inl d),a _ (.inr Y)⟩
end
def K.grow:∀(w:Vh){P:Wd->Prop}{S:St}{nd:Wd->Option Nat}{b:List Wd}(H:K P S nd b){h:Nat},h<b.length->P (W b h)->(∀c∈w,97<=c/\c<=122)->(W b h).length+w.length<1000 →
  ∃n r F Ku,hg S h w=.some (n,r)/\K (λp=>P p\/∃v,v <+: w/\p=W b h++v) n F Ku/\r<Ku.length/\W Ku r=W b h++w/\(∀m,m<b.length->W Ku m=W b m)/\b.length<=Ku.length/\Ku.length<=b.length+2*w.length:=by
 intro w
 induction w with
 |nil =>
  intro P S nd b H h g f hw j;refine⟨S,h,nd,b,rfl,H.congr λp=>⟨.inl,?_⟩,g,(ZS _).symm,λ_ _=>rfl,Zk _,Zk _⟩;rintro (a | ⟨v,a,rfl⟩)
  ·exact a
  ·rw[List.prefix_nil.mp a,ZS];exact f
 |cons c w q =>
  intro P S nd b H h g f hw j;rw[Zi]at j;obtain⟨R,r1,Q,o,e1,M,z,e,y,l,O⟩:=H.step g (hw c Zx) (by lia);obtain⟨E,r2,C,D,e2,G,x,u,t,s,N⟩:=q M z (.inr e) (λd hd=>hw d (Zy _ hd)) (by rw[e,Zq,ZG];lia);refine⟨E,r2,C,D,?_,G.congr λp=>?_,x,?_,λm i=>by rw[t m (by exact ZU i l),y m i],by exact ZJ l s,by rw[Zi];lia⟩
  ·show (hb S h c).bind _=_;rw[e1];exact e2
  ·rw[e];constructor
   ·rintro ((a | rfl) | ⟨v,a,rfl⟩)
    ·exact .inl a
    ·exact .inr ⟨[c],WB.mpr ⟨rfl,List.nil_prefix⟩,rfl⟩
    ·exact .inr ⟨c :: v,WB.mpr ⟨rfl,a⟩,by rw[ZI];rfl⟩
   ·rintro (a | ⟨v,a,rfl⟩)
    ·exact .inl (.inl a)
    ·cases v with
     |nil=>rw[ZS];exact .inl (.inl f)
     |cons d v =>
      obtain⟨rfl,A⟩:=WB.mp a;exact .inr ⟨v,A,by rw[ZI];rfl⟩
  ·rw[u,e,ZI];rfl
def mB(S:St):List Wd->Option St
 |[]=>Z S
 |t :: b=>(hg S 0 t).bind λz=>mB z.1 b
def K.book:∀(b:List Wd){P:Wd->Prop}{S:St}{nd:Wd->Option Nat}{d:List Wd}(H:K P S nd d),(∀t∈b,∀c∈t,97<=c/\c<=122)->(∀t∈b,t.length<1000) →
  ∃j w Ku,mB S b=.some j/\K (λp=>P p\/∃t∈b,p <+: t) j w Ku/\d.length<=Ku.length/\Ku.length<=d.length+2*(b.map List.length).sum:=by
 intro b
 induction b with
 |nil =>
  intro P S nd d H _ _;refine⟨S,nd,d,rfl,H.congr λp=>⟨.inl,?_⟩,Zk _,YU _ _⟩;rintro (a | ⟨t,f,_⟩)
  ·exact a
  ·cases f
 |cons t b m =>
  intro P S nd d H h g;obtain⟨M,r1,G,l,e1,y,F,E,D,o,C⟩:=H.grow t (H.i.lt H.i.z) (by rw[H.i.wz];exact H.nil) (h t Zx) (by rw[H.i.wz];have:=g t Zx;simpa using this);obtain⟨s,q,r,e2,x,n,A⟩:=m y (λt f=>h t (Zy _ f)) (λt f=>g t (Zy _ f));refine⟨s,q,r,?_,x.congr λp=>?_,by exact ZJ o n,by rw[Zg,WT];lia⟩
  ·show (hg S 0 t).bind _=_;rw[e1];exact e2
  ·rw[H.i.wz];constructor
   ·rintro ((a | ⟨v,a,rfl⟩) | ⟨u,e,a⟩)
    ·exact .inl a
    ·exact .inr ⟨t,Zx,a⟩
    ·exact .inr ⟨u,Zy _ e,a⟩
   ·rintro (a | ⟨u,e,a⟩)
    ·exact .inl (.inl a)
    ·rcases Zo.mp e with rfl | e
     ·exact .inl (.inr ⟨p,a,rfl⟩)
     ·exact .inr ⟨u,e,a⟩
noncomputable def Hd(b:List Wd)(p:Wd):Prop:=p=[]\/∃t∈b,p <+: t
def K.of(b:List Wd)(f:∀t∈b,∀c∈t,97<=c/\c<=122)(d:∀t∈b,t.length<1000):∃S nd a,mB S0 b=.some S/\K (Hd b) S nd a/\a.length<=1+2*(b.map List.length).sum:=by
 obtain⟨S,nd,a,e,H,_,l⟩:=K0.book b f d;exact⟨S,nd,a,e,H,l⟩
def sk(w:List (Nat×Nat)):Vh:=(List.range' 97 26).filter λc=>(gW w c).isSome
def visit(w:List (Nat×Nat)):Vh->Vh->Vh
 |[],met=>met
 |c :: r,met=>visit w r (if (gW w c).getD 0∈met then met else met++[(gW w c).getD 0])
def Nl(S:St):Nat->Vh->Nat->Option (Vh)
 |k,met,d=>if d<met.length then (match k with
  |0=>L
  |k+1=>Nl S k (visit (S.wy.getD (met.getD d 0) []) (sk (S.wy.getD (met.getD d 0) [])) met) (d+1)) else Z met
def steps(S:St)(a:Vh)(n:Nat):List (Nat×Nat):=(sk (S.wy.getD n [])).map λc=>(c,a.idxOf ((gW (S.wy.getD n []) c).getD 0))
noncomputable abbrev Row:=Nat×Nat×Option Nat×List (Nat×Nat)
def row(S:St)(a:Vh)(n:Nat):Row:=match S.lk.getD n L with
 |none=>(0,0,L,steps S a n)
 |some l=>(S.lg.getD l 0+1,S.lg.getD n 0,Z (a.idxOf l),steps S a n)
def tab(S:St)(a:Vh):List Row:=a.map (row S a)
section
def mq{w:List (Nat×Nat)}{c:Nat}(h:c∈sk w):∃m,gW w c=Z m:=Yi.mp (Yp.mp h).2
theorem pA(hw:∀c m,gW w c=Z m->m<N):∀(r met:Vh),(∀c∈r,∃m,gW w c=Z m)->(∀x∈met,x<N)->∀x∈visit w r met,x<N
 |[],met,_,a=>a
 |c :: r,met,b,a=>by
  refine pA hw r _ (λd hd=>b d (Zy _ hd)) ?_;obtain⟨m,e⟩:=b c Zx;rw[e,Xw];split
  ·exact a
  ·intro x g;rcases ZW.mp g with h | h
   ·exact a x h
   ·rw[Zj.mp h];exact hw c m e
def getD_mem{l:Vh}(h:d<l.length):l.getD d 0∈l:=by
 rw[Zs,Zu h];exact ZC h
end
theorem m8{w:List (Nat×Nat)}:∀(r met:Vh),∃l,visit w r met=met++l
 |[],met=>⟨[],(ZS _).symm⟩
 |c :: r,met=>by
  obtain⟨l,e⟩:=m8 (w:=w) r (if (gW w c).getD 0∈met then met else met++[(gW w c).getD 0]);show ∃l,visit w r _=_;rw[e];split
  ·exact⟨l,rfl⟩
  ·exact⟨_,ZI _ _ _⟩
theorem pz{w:List (Nat×Nat)}:∀(r met:Vh),met.Nodup->(visit w r met).Nodup
 |[],met,h=>h
 |c :: r,met,h=>by
  refine pz (w:=w) r _ ?_;split
  ·exact h
  ·rename_i q;rw[ZL];refine⟨h,by simp,λa d b hb e=>q ?_⟩;rw[Zj.mp hb]at e;rw[← e];exact d
theorem qV{w:List (Nat×Nat)}:∀(r met:Vh),∀c∈r,(gW w c).getD 0∈visit w r met
 |d :: r,met,c,a=>by
  rcases Zo.mp a with rfl | a
  ·obtain⟨l,e⟩:=m8 (w:=w) r (if (gW w c).getD 0∈met then met else met++[(gW w c).getD 0]);show _∈visit w r _;rw[e];refine Ye _ ?_;split
   ·assumption
   ·exact ZP _ Zx
  ·exact qV r _ c a
def AX(d:∀p∈w,97<=p.1/\p.1<=122)(h:gW w c=Z m):c∈sk w:=by
 refine Yp.mpr ⟨?_,by rw[h];rfl⟩;obtain⟨p,a,_⟩:=Zw.mp h;have:=d p (WW a);have b:p.1=c:=by simpa using(List.find?_some a)
 rw[b]at this;rw[Xo];lia
def Fl(o:WF S):∀(k:Nat)(met:Vh)(d:Nat),met.Nodup->(∀x∈met,x<S.lg.length)->d<=met.length->S.lg.length<=k+d->(∀i,i<d->∀c m,gW (S.wy.getD (met.getD i 0) []) c=Z m->m∈met) →
  ∃l,Nl S k met d=Z (met++l)/\(met++l).Nodup/\(∀x∈met++l,x<S.lg.length)/\∀n∈met++l,∀c m,gW (S.wy.getD n []) c=Z m->m∈met++l:=by
 intro k;have fin:∀(met:Vh)(d:Nat),¬d<met.length->d<=met.length->(∀i,i<d->∀c m,gW (S.wy.getD (met.getD i 0) []) c=Z m->m∈met)->∀n∈met,∀c m,gW (S.wy.getD n []) c=Z m->m∈met:=by
  intro met d f b h n t c m e;obtain⟨i,g,q⟩:=List.mem_iff_getElem.mp t;refine h i (by lia) c m ?_;have:met.getD i 0=n:=by rw[Zs,Zu g,q];rfl
  rw[this];exact e
 induction k with
 |zero =>
  intro met d nd lt hd u h;have z:met.length<=S.lg.length:=by
   have:=sub_len met (List.range S.lg.length) nd λx s=>Yc.mpr (lt x s)
   rwa [ZT]at this
  have a:¬d<met.length:=by lia
  refine⟨[],?_,?_⟩
  ·unfold Nl;rw[Zn a,ZS]
  ·rw[ZS];exact⟨nd,lt,fin met d a hd h⟩
 |succ k r =>
  intro met d nd lt hd u h;by_cases a:d<met.length
  ·obtain⟨p,e1⟩:=m8 (sk (S.wy.getD (met.getD d 0) [])) met;obtain⟨l,e,f,b,j⟩:=r (visit (S.wy.getD (met.getD d 0) []) (sk (S.wy.getD (met.getD d 0) [])) met) (d+1) (pz _ _ nd) (pA (λc m e=>o.on _ c m e) _ _ (λc v=>mq v) lt) (by rw[e1,Zq];lia) (by lia) (λi g c m e=>by
    have y:(visit (S.wy.getD (met.getD d 0) []) (sk (S.wy.getD (met.getD d 0) [])) met).getD i 0=met.getD i 0:=by
     rw[e1,Zs,Zs,Yu (by lia)]
    rw[y]at e;by_cases q:i=d
    ·subst q;have:=qV (w:=S.wy.getD (met.getD i 0) []) (sk (S.wy.getD (met.getD i 0) [])) met c (AX (o.R4 _).2 e);rw[e]at this;exact this
    ·rw[e1];exact Ye _ (h i (by lia) c m e))
   rw[e1,ZI]at f b j;refine⟨p++l,?_,f,b,j⟩;unfold Nl;rw[Zp a];show Nl S k _ (d+1)=_;rw[e,e1,ZI]
  ·refine⟨[],?_,?_⟩
   ·unfold Nl;rw[Zn a,ZS]
   ·rw[ZS];exact⟨nd,lt,fin met d a hd h⟩
def DM{α:Type}{p:List α->Prop}(h0:p [])(h1:∀l a,p l->p (l++[a]))(l:List α):p l:=by
 have:∀l:List α,p l.reverse:=by
  intro l
  induction l with
  |nil=>exact h0
  |cons a l ih=>rw[List.reverse_cons];exact h1 _ a ih
 rw[← List.reverse_reverse l];exact this _
def K.met{S:St}(H:K P S nd wd){k:Nat}(hk:wd.length<=k):∃l,Nl S k [0] 0=Z (0 :: l)/\(0 :: l).Nodup/\(∀x,x∈0 :: l↔x<wd.length)/\(0 :: l).length=wd.length:=by
 have L:=H.i.len.symm;obtain⟨l,e,h1,h2,h3⟩:=Fl H.i.wf k [0] 0 (by simp) (λx hx=>by rw[Zj.mp hx];exact H.i.wf.pos) (Yk _) (by lia) (λi hi=>absurd hi (Nat.not_lt_zero _));have h0:∀(x:Wd) n,nd x=Z n->n∈0 :: l:=by
  intro x
  induction x using DM with
  |h0=>intro n e;rw[H.i.z]at e;cases e;exact Zx
  |h1 x c ih =>
   intro n e;obtain⟨m,hm⟩:=H.i.pre e;exact h3 m (ih m hm) c n (by rw[H.i.wy hm];exact e)
 have hx:∀x,x∈0 :: l↔x<wd.length:=λx=>⟨λz=>by rw[← L];exact h2 x z,λz=>h0 _ x (H.i.top z)⟩
 refine⟨l,e,h1,hx,Nat.le_antisymm ?_ ?_⟩
 ·have:=sub_len (0 :: l) (List.range wd.length) h1 λx z=>Yc.mpr ((hx x).mp z)
  rwa [ZT]at this
 ·have:=sub_len (List.range wd.length) (0 :: l) List.nodup_range λx z=>(hx x).mpr (Yc.mp z)
  rwa [ZT]at this
end AU
end
section
namespace T32
open VS AU
def Ed(w:List (Nat×Nat))(c:Nat):c∈w.map (·.1)↔(gW w c).isSome=J:=by
 rw[← FO,Xg,ZV];exact⟨λ⟨p,b,a⟩=>⟨p,b,by rw[a];exact beq_self_eq_true c⟩,λ⟨p,b,a⟩=>⟨p,b,by simpa using a⟩⟩
def wK{w:List (Nat×Nat)}(a:(w.map (·.1)).Nodup)(b:∀p∈w,97<=p.1/\p.1<=122):(sk w).Perm (w.map (·.1)):=by
 refine(WY ?_ a).mpr λc=>?_
 ·exact List.Nodup.sublist List.filter_sublist List.nodup_range'
 ·rw[Ed];constructor
  ·intro h;exact(Yp.mp h).2
  ·intro h;obtain⟨m,e⟩:=Yi.mp h;exact AX b e
def BM{w:List (Nat×Nat)}(e:(w.map (·.1)).Nodup)(d:∀p∈w,97<=p.1/\p.1<=122):iz [(m,KG w)]=Z (.fr,.lst ((sk w).map λc=>T.str [c])):=by
 show ((strs? ((w.map λp=>(T.str [p.1],T.int (p.2:Int))).map (·.1))).bind _)=_;have e1:(w.map λp=>(T.str [p.1],T.int (p.2:Int))).map (·.1)=(w.map (·.1)).map λc=>T.str [c]:=by
  rw[ZD,ZD];rfl
 rw[e1,strs_map (λc=>[c]),Zr,Zp]
 ·have:(sk w).map (λc=>[c])=gb ((w.map (·.1)).map λc=>[c]):=by
   refine ql ((wK e d).map _) ?_;rw[WV];refine Vm ?_ (W4 _ (List.pairwise_lt_range'));intro a b j h;rcases Wq.mp h with h | ⟨_,h⟩
   ·lia
   ·exact absurd h (List.not_lt_nil _)
  rw[← this,ZD];rfl
 ·refine⟨?_,Za.mpr ?_⟩
  ·rw[Zt,← (wK e d).length_eq];have:(sk w).length<=(List.range' 97 26).length:=Y0 _ _;rw[Y2]at this;lia
  intro s f;obtain⟨c,i,rfl⟩:=ZV.mp f;obtain⟨p,g,rfl⟩:=ZV.mp i;have:=d p g;show (decide (1<=fq)&&(decide (p.1<1114112)&&J))=J;rw[ZR (show p.1<1114112 by lia)];rfl
noncomputable def nE:Nat->Vh->List (T×T)
 |_,[]=>[]
 |k,n :: r=>(T.int (n:Int),T.int (k:Int)) :: nE (k+1) r
theorem AK:∀(met:Vh)(k:Nat),(nE k met).length=met.length
 |[],_=>rfl
 |_ :: r,k=>by rw[nE,Zi,Zi,AK r]
theorem sO:∀(met:Vh)(k:Nat),(nE k met).map (·.1)=met.map λ(n:Nat)=>T.int (n:Int)
 |[],_=>rfl
 |_ :: r,k=>by rw[nE,Zg,Zg,sO r]
theorem AI:∀(met:Vh)(k n:Nat),nE k (met++[n])=nE k met++[(T.int (n:Int),T.int ((k+met.length:Nat):Int))]
 |[],k,n=>rfl
 |m :: r,k,n=>by
  rw[Xh,nE,nE,AI r (k+1) n,Zi,Xh];rw[show k+1+r.length=k+(r.length+1) by lia]
def JG(a b:Nat):eqT (.int (a:Int)) (.int (b:Int))=(a==b):=by
 simp only[eqT];by_cases h:a=b
 ·simp[h]
 ·rw[beq_eq_false_iff_ne.mpr h,beq_eq_false_iff_ne.mpr (by lia)]
theorem sH:∀(met:Vh)(k n:Nat),dn (nE k met) (.int (n:Int))=if n∈met then Z (T.int ((k+met.idxOf n:Nat):Int)) else L
 |[],_,_=>rfl
 |m :: r,k,n=>by
  show ((((T.int (m:Int),T.int (k:Int)) :: nE (k+1) r).find? λp=>eqT p.1 (.int (n:Int))).map (·.2))=_;rw[Z6];simp only[JG];by_cases h:m=n
  ·subst h;simp[List.idxOf_cons]
  ·have hb:=beq_eq_false_iff_ne.mpr h;have a:=sH r (k+1) n;unfold dn at a;simp only[hb];rw[a,List.idxOf_cons,hb];by_cases q:n∈r
   ·rw[Zp q,Zp (Zy _ q)];show Z (T.int ((k+1+r.idxOf n:Nat):Int))=Z (T.int ((k+(r.idxOf n+1):Nat):Int));rw[show k+1+r.idxOf n=k+(r.idxOf n+1) by lia]
   ·rw[Zn q,Zn (λz=>(Zo.mp z).elim (λe=>h e.symm) q)]
def Fo(a:Vh)(n:Nat)(h:n∉a):dput (nE 0 a) (.int (n:Int)) (.int (a.length:Int))=nE 0 (a++[n]):=by
 unfold dput;rw[Zn,AI]
 ·rw[WK]
 ·intro z;obtain⟨p,b,e⟩:=Xg.mp z;have:(dn (nE 0 a) (.int (n:Int))).isSome=J:=by
   unfold dn;rw[Xp,List.find?_isSome];exact⟨p,b,e⟩
  rw[sH,Zn h]at this;cases this
def nT(a:Vh):T:=.dct 0 (nE 0 a)
noncomputable def mT(a:Vh):T:=.lst (a.map λ(n:Nat)=>T.int (n:Int))
def EA{n:Nat}(h:a U=Z (m,nT d))(he:e U=Z (k,.int (n:Int))):e2 bV e a U=Z (.fr,.bl (decide (n∉d))):=e2v he h (by
 show (match (if J=J then Z (Md.fr,T.bl (dn (nE 0 d) (.int (n:Int))).isSome) else L) with | some (_,.bl b)=>some (Md.fr,T.bl (!b)) | _=>none)=_;rw[Zp Y,sH];by_cases q:n∈d
 ·rw[Zp q,ZN (λz=>z q)];rfl
 ·rw[Zn q,ZR q];rfl)
section
theorem Ak{d:Nat}:∀(r met:Vh)(z:Ve),(∀c∈r,∃m,gW w c=Z m)->met.length+r.length<16777216->∃b,forL (aG 5) dj (r.map λc=>T.str [c]) [a,oc (nT met),oc (mT met),Q0 (d:Int),pc (KG w),z]=Z (.nx [a,oc (nT (visit w r met)),oc (mT (visit w r met)),Q0 (d:Int),pc (KG w),b])
 |[],met,z,_,_=>⟨z,rfl⟩
 |c :: r,met,z,h,l=>by
  obtain⟨m,e⟩:=h c Zx;rw[Zi]at l;by_cases q:m∈met
  ·obtain⟨b,g⟩:=Ak r met (Q2 ([c])) (λd hd=>h d (Zy _ hd)) (by lia);refine⟨b,?_⟩;have ev:visit w (c :: r) met=visit w r met:=by
    show visit w r (if (gW w c).getD 0∈met then met else met++[(gW w c).getD 0])=_;rw[e,Xw,Zp q]
   rw[ev,Zg];refine(cw Y ?_).trans g;refine(p8 (m:=.fr) ?_).trans Y;refine(EA Y (yo Y Y e)).trans ?_;rw[ZN (λz=>z q)]
  ·obtain⟨b,g⟩:=Ak r (met++[m]) (Q2 ([c])) (λd hd=>h d (Zy _ hd)) (by rw[Zq,ZG];lia);refine⟨b,?_⟩;have ev:visit w (c :: r) met=visit w r (met++[m]):=by
    show visit w r (if (gW w c).getD 0∈met then met else met++[(gW w c).getD 0])=_;rw[e,Xw,Zn q]
   rw[ev,Zg];refine(cw Y ?_).trans g;refine(uD (m:=.fr) ?_).trans ?_
   ·refine(EA Y (yo Y Y e)).trans ?_;rw[ZR q]
   ·have f:∀nn i:Ve,e2 LN (aa 4) (aa 5) [a,nn,i,Q0 (d:Int),pc (KG w),Q2 ([c])]=Z (.fr,.int (m:Int)):=λnn i=>yo Y Y e;have j:pN 1 (e2 LN (aa 4) (aa 5)) (eN bO (ab (aa 2) aj)) [a,oc (nT met),oc (mT met),Q0 (d:Int),pc (KG w),Q2 ([c])]=Z (.nx [a,oc (nT (met++[m])),oc (mT met),Q0 (d:Int),pc (KG w),Q2 ([c])]):=by
     unfold pN;rw[(jm (xv (x:=(.bo,mT met)) Y Y) (by
      show Z (Md.fr,T.int (((met.map λ(n:Nat)=>T.int (n:Int)).length:Nat):Int))=_;rw[Zt])),Zr]
     show ((e2 LN (aa 4) (aa 5) [a,oc (nT met),oc (mT met),Q0 (d:Int),pc (KG w),Q2 ([c])]).bind _)=_;rw[f,Zr];rw[Zp ⟨rfl,rfl,by rw[(AK met 0)];show met.length<16777216;lia⟩,Fo met m q];rfl
    refine(au j).trans ?_;refine(oX Y (f _ _) (by rw[Zt];lia)).trans ?_;rw[show (met.map λ(n:Nat)=>T.int (n:Int))++[.int (m:Int)]=(met++[m]).map λ(n:Nat)=>T.int (n:Int) from by rw[Z8];rfl];rfl
end
def vW(w:List (Nat×Nat)):(sk w).length<=26:=by
 refine ZJ (Y0 _ _) ?_;rw[Y2];exact Zk _
def CL{S:St}{a:Vh}(b:a.Nodup)(d:∀x∈a,x<S.lg.length):a.length<=S.lg.length:=by
 have:=sub_len a (List.range S.lg.length) b λx e=>Yc.mpr (d x e)
 rwa [ZT]at this
def Im(l:WF S)(A:S.lg.length<=100001):∀(k:Nat)(met:Vh)(d:Nat)(f:Vh),met.Nodup->(∀x∈met,x<S.lg.length)->Nl S k met d=Z f->∀N,k<N->∀g a:Ve,∃j u v,
  dN (e2 oLt (aa 3) (eN bO (ab (aa 2) aj))) dv N [pc (J0 S B),oc (nT met),oc (mT met),Q0 ((d:Nat):Int),g,a] =
   Z (.nx [pc (J0 S B),oc (nT f),oc (mT f),pc j,u,v]):=by
 have cond:∀(met:Vh)(d:Nat)(g a:Ve),e2 oLt (aa 3) (eN bO (ab (aa 2) aj)) [pc (J0 S B),oc (nT met),oc (mT met),Q0 ((d:Nat):Int),g,a]=Z (.fr,.bl (decide (d<met.length))):=λmet d g a =>
  e2v Y (jm (xv Y Y) (by
   show Z (Md.fr,T.int (((met.map λ(n:Nat)=>T.int (n:Int)).length:Nat):Int))=_;rw[Zt])) (by
   show Z (Md.fr,T.bl (decide ((d:Int)<(met.length:Int))))=_;rw[show decide ((d:Int)<(met.length:Int))=decide (d<met.length) from decide_eq_decide.mpr (by lia)])
 intro k
 induction k with
 |zero =>
  intro met d f nd lt e N hN g a;obtain⟨N,rfl⟩:∃f,N=f+1:=⟨N-1,by lia⟩
  unfold Nl at e;split at e
  ·cases e
  ·rename_i h;cases e;exact⟨_,g,a,eU ((cond _ _ _ _).trans (by rw[ZN h]))⟩
 |succ k t =>
  intro met d f nd lt e N hN g a;obtain⟨N,rfl⟩:∃f,N=f+1:=⟨N-1,by lia⟩
  unfold Nl at e;split at e
  ·rename_i h;have w:met.getD d 0<S.wy.length:=by rw[l.wy];exact(lt _ (getD_mem h))
   have z:=CL nd lt;have y:=vW (S.wy.getD (met.getD d 0) []);obtain⟨o,s⟩:=Ak (sk (S.wy.getD (met.getD d 0) [])) met a (λc i=>mq i) (by lia);obtain⟨j,r,p,q⟩:=t _ (d+1) f (pz _ _ nd) (pA (λc m e=>l.on _ c m e) _ _ (λc i=>mq i) lt) e N (by exact Xe hN) (pc (KG (S.wy.getD (met.getD d 0) []))) o;refine⟨j,r,p,(lV ((cond _ _ _ _).trans (by rw[ZR h])) ?_).trans q⟩;have ix:e2 aC (aa 2) (aa 3) [pc (J0 S B),oc (nT met),oc (mT met),Q0 ((d:Nat):Int),g,a]=Z (.fr,.int ((met.getD d 0:Nat):Int)):=e2v Y Y (qQ _ met d 0 h);refine(au (aE (m:=.pu) (oJ (S:=S) (b:=B) (m:=.pu) (n:=.fr) Y ix w) (by decide) (by decide:4<6))).trans ?_;have nw:=l.R4 (met.getD d 0);refine(au ((bH (m:=.fr) ?_ Y).trans s)).trans ?_
   ·show (eN iz (ab (aa 4) aj) _).bind Dw=_;rw[jm (xv Y Y) (BM nw.1 nw.2)];rfl
   ·exact aE Y (by decide) (by decide:3<6)
  ·rename_i h;cases e;exact⟨_,g,a,eU ((cond _ _ _ _).trans (by rw[ZN h]))⟩
def FJ(b:WF S)(h:S.lg.length<=100001)(i:k<1000000)(e:Nl S k [0] 0=Z a):aM [J0 S B]=Z (.fr,nT a):=by
 obtain⟨j,f,d,q⟩:=Im b h k [0] 0 a (by simp) (λx g=>by rw[Zj.mp g];exact b.pos) e vw (by exact i) L L;refine dJ (U:=[pc (J0 S B),L,pc (mT a),pc j,f,d]) Y ?_;exact(au Y).trans ((au Y).trans ((au Y).trans ((au q).trans ((au Y).trans Y))))
noncomputable def MQ(l:List (Nat×Nat)):T:=.tup (l.map λp=>T.tup [.str [p.1],.int (p.2:Int)])
def iE(r:Row):T:=.tup [.int (r.1:Int),.int (r.2.1:Int),Kx r.2.2.1,MQ r.2.2.2]
theorem xN:∀l:List (Nat×Nat),fZ (l.map λp=>T.tup [.str [p.1],.int (p.2:Int)])=J
 |[]=>rfl
 |p :: l=>by
  rw[Zg];show (J&&fZ _)=J;rw[xN l];rfl
def oG(l:List (Nat×Nat)):J3 (MQ l)=J:=xN l
def sS(r:Row):J3 (iE r)=J:=by
 show (J&&(J&&(J3 (Kx r.2.2.1)&&(J3 (MQ r.2.2.2)&&J))))=J;rw[mY,oG];rfl
def IU(h:a U=Z (.fr,x))(g:b U=Z (.fr,y))(f:c U=Z (.fr,z))(e:d U=Z (.fr,w)):gk (ab a (ab b (ab c (ab d aj)))) U=Z (.fr,.tup [x,y,z,w]):=by
 show (ab a (ab b (ab c (ab d aj))) U).bind qm=_;rw[xv h (xv g (xv f (xv e Y))),Zr];show Z (up .fr _)=_;unfold up;split<;>rfl
def Gp(b:WF S)(i:∀x,x<S.lg.length->x∈a)(f:n<S.lg.length):bN [J0 S B,.int (n:Int),.dct 3 (nE 0 a)]=Z (.fr,iE (row S a n)):=by
 have nw:=b.R4 n;have get:∀v,v<S.lg.length->dn (nE 0 a) (.int (v:Int))=Z (T.int ((a.idxOf v:Nat):Int)):=λv p=>by rw[sH,Zp (i v p),WK]
 have s1:aN 3 (e2 aC (bY 2 (aa 0)) (aa 1)) [pc (J0 S B),Q0 (n:Int),pc (.dct 3 (nE 0 a)),L,L,L]=Z (.nx [pc (J0 S B),Q0 (n:Int),pc (.dct 3 (nE 0 a)),pc (Kx (S.lk.getD n L)),L,L]):=aE (xU Y Y (by rw[b.lk];exact f)) (by decide) (by decide:3<6);have e:aN 4 (e2 aC (bY 3 (aa 0)) (aa 1)) [pc (J0 S B),Q0 (n:Int),pc (.dct 3 (nE 0 a)),pc (Kx (S.lk.getD n L)),L,L]=Z (.nx [pc (J0 S B),Q0 (n:Int),pc (.dct 3 (nE 0 a)),pc (Kx (S.lk.getD n L)),pc (KG (S.wy.getD n [])),L]):=aE (m:=.pu) (oJ Y Y (by rw[b.wy];exact f)) (by decide) (by decide:4<6);have r:eN lZ (ab (bD 1 (aG 0) (cA (eN iz (ab (aa 4) aj))) L (gk (ab (aa 0) (ab (e2 mE (aa 3) (e2 LN (aa 5) (aa 0))) aj)))) aj) [pc (J0 S B),Q0 (n:Int),pc (.dct 3 (nE 0 a)),pc (Kx (S.lk.getD n L)),pc (KG (S.wy.getD n [])),L]=Z (.fr,MQ (steps S a n)):=by
  have s:=cF (k:=1) (tg:=aG 0) (it:=cA (eN iz (ab (aa 4) aj))) (elt:=gk (ab (aa 0) (ab (e2 mE (aa 3) (e2 LN (aa 5) (aa 0))) aj))) (U:=[pc (J0 S B),Q0 (n:Int),pc (.dct 3 (nE 0 a)),pc (Kx (S.lk.getD n L)),pc (KG (S.wy.getD n [])),L]) (λc=>T.str [c]) (λc=>T.tup [.str [c],.int ((a.idxOf ((gW (S.wy.getD n []) c).getD 0):Nat):Int)]) (sk (S.wy.getD n [])) (by
   show (eN iz (ab (aa 4) aj) _).bind Dw=_;rw[jm (xv Y Y) (BM nw.1 nw.2)];rfl) Y (ZJ (vW _) (by decide)) (λc q=>by
   obtain⟨v,ev⟩:=mq q;refine⟨[Q2 ([c]),pc (J0 S B),Q0 (n:Int),pc (.dct 3 (nE 0 a)),pc (Kx (S.lk.getD n L)),pc (KG (S.wy.getD n [])),L],rfl,?_⟩;rw[ev,Xw];show (ab (aa 0) (ab (e2 mE (aa 3) (e2 LN (aa 5) (aa 0))) aj) _).bind qm=_;rw[xv Y (xv (e2v (x:=(.pu,.dct 3 (nE 0 a))) Y (yo (m:=.pu) (n:=.fr) (c:=c) (w:=S.wy.getD n []) Y Y ev) (by
     show (if J=J then (dn (nE 0 a) (.int (v:Int))).map (sub .pu) else L)=_;rw[Zp Y,get v (b.on n c v ev)];rfl)) Y)]
   rfl)
  refine jm (xv s Y) ?_;show (if _<=fq then Z (up .fr (.tup _)) else L)=_;rw[Zp (by rw[Zt];exact ZJ (vW _) (by decide))];have:T.tup ((sk (S.wy.getD n [])).map λc=>T.tup [.str [c],.int ((a.idxOf ((gW (S.wy.getD n []) c).getD 0):Nat):Int)])=MQ (steps S a n):=by
   unfold MQ steps;rw[ZD];rfl
  rw[this];unfold up;rw[oG];rfl
 have d:=aE r (by decide) (by decide:5<6);have j:∀U:Env,U[5]?=Z (pc (MQ (steps S a n)))->aa 5 U=Z (.fr,MQ (steps S a n)):=λU h=>by
  show (match U[5]? with | some (some (.pu t))=>some (up .pu t) | some (some (.ow t))=>some (.bo,t) | _=>none)=_;rw[h];show Z (up .pu _)=_;unfold up;rw[oG];rfl
 unfold row;cases g:S.lk.getD n L with
 |none =>
  rw[g]at s1 e d;refine dJ (U:=[pc (J0 S B),Q0 (n:Int),pc (.dct 3 (nE 0 a)),pc (Kx L),pc (KG (S.wy.getD n [])),pc (MQ (steps S a n))]) Y ?_;refine(au s1).trans ((au e).trans ((au d).trans (om ((uD Y).trans (fF (IU Y Y Y (j _ Y)))))))
 |some l =>
  rw[g]at s1 e d;have o:=b.up n l g;refine dJ (U:=[pc (J0 S B),Q0 (n:Int),pc (.dct 3 (nE 0 a)),pc (Kx (Z l)),pc (KG (S.wy.getD n [])),pc (MQ (steps S a n))]) Y ?_;refine(au s1).trans ((au e).trans ((au d).trans ((au ((p8 Y).trans Y)).trans (fF (IU ?_ ?_ ?_ (j _ Y))))))
  ·exact e2v (um Y Y o) Y Y
  ·exact um Y Y f
  ·exact e2v Y Y (by
    show (if J=J then (dn (nE 0 a) (.int (l:Int))).map (sub .pu) else L)=_;rw[Zp Y,get l o];rfl)
def Kk(t:List Row):T:=.lst (t.map iE)
def G8(d:WF S)(h:S.lg.length<=100001)(o:k<1000000)(e:Nl S k [0] 0=Z a)(b:∀x,x∈a↔x<S.lg.length)(l:a.length<=16777216):dY [J0 S B]=Z (.fr,Kk (tab S a)):=by
 have f:=FJ d h o e;refine dJ (U:=[pc (J0 S B),L]) Y ?_;refine(au (by
  show (jk 0 aM (aa 0) aj [pc (J0 S B),L]).bind _=_;have:jk 0 aM (aa 0) aj [pc (J0 S B),L]=Z (.fr,nT a):=by
   show ((aM [J0 S B]).bind _)=_;rw[f];rfl
  rw[this];rfl)).trans ?_
 show ((bD 1 (aG 0) (wm 1) L (jk 0 bN (aa 1) (ab (aa 0) (ab (aa 2) aj))) [pc (J0 S B),pc (.dct 3 (nE 0 a))]).bind _)=_;rw[(cF (k:=1) (tg:=aG 0) (it:=wm 1) (elt:=jk 0 bN (aa 1) (ab (aa 0) (ab (aa 2) aj))) (m:=.fr) (U:=[pc (J0 S B),pc (.dct 3 (nE 0 a))]) (λ(n:Nat)=>T.int (n:Int)) (λn=>iE (row S a n)) a (by
  show (if ((nE 0 a).all λp=>isInt p.1)=J then Z (Md.fr,(nE 0 a).map (·.1)) else L)=_;rw[Zp,sO];rw[Za];intro p i;have:p.1∈(nE 0 a).map (·.1):=List.mem_map_of_mem i;rw[sO]at this;obtain⟨n,_,e⟩:=ZV.mp this;rw[← e];rfl) Y l (λn j=>by
  refine⟨[Q0 (n:Int),pc (J0 S B),pc (.dct 3 (nE 0 a))],rfl,?_⟩;show ((bN [J0 S B,.int (n:Int),.dct 3 (nE 0 a)]).bind _)=_;rw[Gp d (λx g=>(b x).mpr g) ((b n).mp j)];rfl))]
 unfold Kk tab;rw[ZD];rfl
noncomputable def pM(a:List Tx):Nat:=(a.map List.length).sum
structure Rx(bk:List Tx):Prop where
 Lq:bk.length<=8
 sum:pM bk<=120
 az:∀t∈bk,∀c∈t,97<=c/\c<=122
theorem xy:∀{l:List Tx},t∈l->t.length<=pM l
 |a :: l,h=>by
  have e:pM (a :: l)=a.length+pM l:=by unfold pM;rw[Zg,WT]
  rw[e];rcases Zo.mp h with rfl | h
  ·exact YU _ _
  ·have:=xy h;lia
def Rx.len(h:Rx a):∀t∈a,t.length<=120:=λt b=>ZJ (xy b) h.sum
def aP(a:List Tx):St:=(mB S0 a).getD S0
def av(a:List Tx):Vh:=(Nl (aP a) 1000 [0] 0).getD []
def tabOf(a:List Tx):List Row:=tab (aP a) (av a)
theorem Rx.k{a:List Tx}(h:Rx a):mB S0 a=Z (aP a)/\∃nd b,K (Hd a) (aP a) nd b/\b.length<=241/\Nl (aP a) 1000 [0] 0=Z (av a)/\(∀x,x∈av a↔x<(aP a).lg.length)/\(av a).length=b.length/\(av a).idxOf 0=0:=by
 obtain⟨S,nd,b,e,H,l⟩:=K.of a h.az λt g=>by have:=h.len t g;lia
 have d:aP a=S:=by unfold aP;rw[e];rfl
 rw[d];have f:b.length<=241:=by
  have:=h.sum;unfold pM at this;lia
 obtain⟨m,e2,_,e3,j⟩:=H.met (k:=1000) (by lia);have eM:av a=0 :: m:=by unfold av;rw[d,e2];rfl
 rw[eM];exact⟨e,nd,b,H,f,e2,λx=>by rw[e3,H.i.len],j,List.idxOf_cons_self⟩
def Hu{B:Ve}(l:e [B,oc (J0 S b),z]=Z a)(m:argsOk d a=J)(n:cz (trees a)=J)(j:g (Mo S) (trees a)=Z (Mo f,v))(i:J3 v=J) :
  c8 1 [] 0 d g e [B,oc (J0 S b),z]=Z ((.fr,v),[B,oc (J0 f b),z]):=by
 show ((Z ([])).bind λks=>(e [B,oc (J0 S b),z]).bind λa=>(pm (ye 0 d g a) ks (J0 S b)).map λh=>(h.2,[B,oc h.1,z]))=_;rw[Zr,l,Zr];show ((if 1=0+1/\jw (Mo S)=J/\argsOk d a=J/\cz (trees a)=J then (g (Mo S) (trees a)).bind λz=>if jw z.1=J/\J3 z.2=J then Z (T.obj 1 ((0,.bl b) :: z.1),(Md.fr,z.2)) else L else L).map _)=_;rw[Zp ⟨rfl,n9 S,m,n⟩,j,Zr,Zp ⟨n9 f,i⟩];rfl
def GY{B:Ve}:∀(rest:List Tx){S a:St}{z:Ve},WF S->S.lg.length+2*pM rest<=100000->(∀t∈rest,∀c∈t,97<=c/\c<=122)->mB S rest=Z a →
  ∃b,forL (aG 2) iu (rest.map .str) [B,oc (J0 S false),z]=Z (.nx [B,oc (J0 a false),b]):=by
 intro rest
 induction rest with
 |nil =>
  intro S a z _ _ _ e;cases (e);exact⟨z,rfl⟩
 |cons t rest h =>
  intro S a z W j d e;obtain⟨⟨o,r⟩,e1,m⟩:=Zz.mp (e);have l:pM (t :: rest)=t.length+pM rest:=by unfold pM;rw[Zg,WT]
  rw[l]at j;obtain⟨g,_,n,f⟩:=Iz W (by lia) W.pos (d t Zx) e1;obtain⟨b,q⟩:=h g (by lia) (λu i=>d u (Zy _ i)) m;refine⟨b,?_⟩;rw[Zg];refine(cw (U1:=[B,oc (J0 S false),Q2 t]) Y ?_).trans q;unfold iu Ui;rw[Hu Y Y Y f Y];rfl
def FG(h:Rx a):gC [.lst (a.map .str)]=Z (.fr,Kk (tabOf a)):=by
 obtain⟨e,nd,d,H,l,e2,e3,g,_⟩:=h.k;have b:=G8 H.i.wf (by rw[← H.i.len];lia) (by decide) e2 e3 (by lia);obtain⟨z,f⟩:=GY a EY (by have:=h.sum;show 1+2*pM a<=100000;lia) h.az e;refine dJ Y ((au Y).trans ((au ((bH Y Y).trans f)).trans ((au Y).trans (fF ?_))));show ((dY [J0 (aP a) B]).bind _)=_;rw[b];rfl
noncomputable abbrev Ku(a:List (Nat×Nat)):List (T×T):=a.map λp=>(T.str [p.1],T.int (p.2:Int))
noncomputable abbrev Pp(p:Nat×Nat):T:=.tup [.str [p.1],.int (p.2:Int)]
def IQ(a:List (Nat×Nat)):rj (a.map Pp)=Z (Ku a):=by
 induction a with
 |nil=>rfl
 |cons w a b =>
  show (if fm (T.str [w.1])/\J3 (T.int (w.2:Int)) then (rj (a.map Pp)).map _ else L)=_;rw[Zp ⟨rfl,rfl⟩,b];rfl
theorem tQ:∀(a acc:List (Nat×Nat)),((acc++a).map (·.1)).Nodup->(Ku a).foldl (λd q=>dput d q.1 q.2) (Ku acc)=Ku (acc++a)
 |[],acc,_=>by rw[ZS];rfl
 |w :: a,acc,h=>by
  have e:dput (Ku acc) (T.str [w.1]) (T.int (w.2:Int))=Ku (acc++[w]):=by
   unfold dput;rw[Zn (by
    simp only[Xg,not_exists,not_and];intro p f;obtain⟨q,b,rfl⟩:=ZV.mp f;simp only[eqT,beq_iff_eq,List.cons.injEq,and_true];intro z;exact(λz=>by
   rw[Z8,Zg]at h;exact(ZL.mp h).2.2 w.1 z w.1 Zx Y) (ZV.mpr ⟨q,b,z⟩))]
   simp[Ku]
  show (Ku a).foldl _ (dput (Ku acc) (T.str [w.1]) (T.int (w.2:Int)))=_;rw[e,tQ a (acc++[w]) (by rw[ZI];exact h),ZI];rfl
def B8(w:List (Nat×Nat)):(sk w).Nodup:=by
 exact List.Nodup.sublist List.filter_sublist (by decide)
def vO(S:St)(a:Vh)(n:Nat):(steps S a n).map (·.1)=sk (S.wy.getD n []):=by
 unfold steps;rw[ZD];exact List.map_id' _
def JR{m:Md}(S:St)(a:Vh)(n:Nat):o5 [(m,MQ (steps S a n))]=Z (.fr,.dct 0 (Ku (steps S a n))):=by
 show (rj ((steps S a n).map Pp)).map _=_;rw[IQ,YE];have:=tQ (steps S a n) [] (by rw[YK,vO];exact B8 _);rw[YK]at this;exact congrArg (λz=>Z (Md.fr,T.dct 0 z)) this
def t9(S:St)(b:Vh)(n c:Nat)(f:97<=c/\c<=122):gW (steps S b n) c=(gW (S.wy.getD n []) c).map λm=>b.idxOf m:=by
 have key:∀l:Vh,gW (l.map λc=>(c,b.idxOf ((gW (S.wy.getD n []) c).getD 0))) c=if c∈l then Z (b.idxOf ((gW (S.wy.getD n []) c).getD 0)) else L:=by
  intro l
  induction l with
  |nil=>rfl
  |cons a l d =>
   unfold gW at d ⊢;rw[Zg,Z6];by_cases h:a=c
   ·subst h;simp
   ·have:(a==c)=B:=by simpa using h
    rw[this];rw[d];simp[Yy h]
 unfold steps;rw[key];cases hg:gW (S.wy.getD n []) c with
 |none =>
  rw[Zn λz=>by
   obtain⟨m,e⟩:=mq z;rw[hg]at e;cases e]
  rfl
 |some m =>
  rw[Zp (by
   refine Yp.mpr ⟨Xo.mpr (by lia),by rw[hg];rfl⟩)]
  rfl
def qY(S:St)(a:Vh)(n:Nat):(row S a n).2.2.2=steps S a n:=by
 unfold row;split<;>rfl
def Hw{l r:Vh}(e:l.Pairwise (· < ·))(d:r.Pairwise (· < ·))(h:∀x,x∈l↔x∈r):l=r:=by
 have g:=Vm (λq=>Zf q) e;have f:=Vm (λq=>Zf q) d;exact List.Perm.eq_of_pairwise (λa b _ _ j i=>absurd j (Nat.lt_asymm i)) e d ((WY g f).mpr h)
noncomputable abbrev Pl:=Nat×Nat
noncomputable def tP(p:Pl):T:=.tup [.int p.1,.int p.2]
abbrev Fd:=List (Tx×List Pl)
def dT(d:Fd):List (T×T):=d.map λp=>(T.str p.1,T.lst (p.2.map tP))
noncomputable def iA:Fd->Tx->Pl->Fd
 |[],w,p=>[(w,[p])]
 | (x,l) :: d,w,p=>if x=w then (x,l++[p]) :: d else (x,l) :: iA d w p
def yM(f:T->Option (T×Val))(w:Tx)(L:List (T×T)):Option (List (T×T)):=(L.findIdx? λq=>eqT q.1 (.str w)).bind λi=>(L[i]?).bind λq=>(f q.2).map λz=>L.set i (q.1,z.1)
def yO{a:T×T}{L:List (T×T)}(h:eqT a.1 (.str w)=B):yM f w (a :: L)=(yM f w L).map (a :: ·):=by
 unfold yM;rw[X1,Zn (by rw[h];simp)];cases e:L.findIdx? λq=>eqT q.1 (.str w) with
 |none=>rfl
 |some i =>
  simp only[YE,Zr,WN];cases e2:L[i]? with
  |none=>rfl
  |some q =>
   simp only[Zr];cases f q.2 with
   |none=>rfl
   |some z=>rfl
def uL{a:T×T}{L:List (T×T)}(h:eqT a.1 (.str w)=J):yM f w (a :: L)=(f a.2).map λz=>(a.1,z.1) :: L:=by
 unfold yM;rw[X1,Zp h];rfl
def u0{a:T×T}{L:List (T×T)}(h:eqT a.1 k=B):dM (a :: L) k=a :: dM L k:=by
 unfold dM dn;rw[Z6,h];by_cases q:(Option.map (λx=>x.2) (L.find? λp=>eqT p.1 k)).isSome=J
 ·rw[Zp q,Zp q]
 ·rw[Zn q,Zn q];rfl
def wa{a:T×T}{L:List (T×T)}(h:eqT a.1 k=J):dM (a :: L) k=a :: L:=by
 unfold dM dn;rw[Z6,h];rfl
def CF(d:Fd)(w:Tx)(p:Pl)(b:∀q∈d,q.2.length<16777216):yM (λx=>aJ x [(.fr,tP p)]) w (dM (dT d) (.str w))=Z (dT (iA d w p)):=by
 induction d with
 |nil =>
  have:dM (dT []) (.str w)=[(.str w,.lst [])]:=rfl;rw[this,uL (by simp),dq (by decide)];rfl
 |cons a d f =>
  obtain⟨x,l⟩:=a;by_cases e:x=w
  ·subst e;have h:eqT (T.str x) (.str x)=J:=by simp
   rw[show dT ((x,l) :: d)=(T.str x,T.lst (l.map tP)) :: dT d from rfl,wa h,uL h,dq (by rw[Zt];exact b (x,l) Zx)];simp[iA,dT]
  ·have h:eqT (T.str x) (.str w)=B:=by simpa using e
   rw[show dT ((x,l) :: d)=(T.str x,T.lst (l.map tP)) :: dT d from rfl,u0 h,yO h,f λq g=>b q (Zy _ g)];simp[iA,dT,e]
def yU{i:Nat}{ck:Ex}{cv:Ex}{U:Env}{w:Tx}{p:Pl}(h:U[i]?=Z (oc (.dct 0 (dT d))))(l:ck U=Z (m,.str w))(b:∀c,cv (U.set i c)=Z (.fr,tP p))(g:∀q∈d,q.2.length<16777216)(n:d.length<16777216) :
  lS i ck (ab cv aj) U=Z (.nx (U.set i (oc (.dct 0 (dT (iA d w p)))))):=by
 unfold lS;simp only[h];rw[l,Zr,Zp ⟨rfl,by rw[dT,Zt];exact n⟩];have e:ab cv aj (U.set i (oc (.dct 0 (dM (dT d) (.str w)))))=Z [(.fr,tP p)]:=by simp[b]
 rw[e,Zr];have a:=CF d w p g;obtain⟨j,s,a⟩:=Zz.mp a;obtain⟨q,r,a⟩:=Zz.mp a;obtain⟨z,o,a⟩:=Zw.mp a;have f:pm (λx=>aJ x [(.fr,tP p)]) [.at (.str w)] (.dct 0 (dM (dT d) (.str w)))=Z (.dct 0 (dT (iA d w p)),z.2):=by
  show (if fm (.str w) then _ else L)=_;rw[Zp (show fm (.str w)=J from rfl),s,Zr,r,Zr];show (aJ q.2 [(.fr,tP p)]).map _=_;rw[show aJ q.2 [(.fr,tP p)]=Z z from o,YE,a]
 rw[f];rfl
noncomputable def Sz(N:Nat)(d:Fd):Prop:=d.length<=N/\∀q∈d,q.2.length<=N
def z9(d:Fd)(w:Tx)(p:Pl):(iA d w p).length<=d.length+1:=by
 induction d with
 |nil=>simp[iA]
 |cons a d b =>
  obtain⟨x,l⟩:=a;unfold iA;split
  ·simp
  ·exact Xj b
def B7(d:Fd)(w:Tx)(p:Pl)(N:Nat)(h:∀q∈d,q.2.length<=N):∀q∈iA d w p,q.2.length<=N+1:=by
 induction d with
 |nil=>intro q b;simp[iA]at b;rw[b];simp
 |cons a d f =>
  obtain⟨x,l⟩:=a;have e:=h (x,l) Zx;unfold iA;split
  ·intro q b;rcases Zo.mp b with rfl | b
   ·simp only[Zq,ZG];exact Xj e
   ·have:=h q (Zy _ b);exact X8 this
  ·intro q b;rcases Zo.mp b with rfl | b
   ·exact X8 e
   ·exact(f λq b=>h q (Zy _ b)) q b
def Sz.add(h:Sz N d)(w:Tx)(p:Pl):Sz (N+1) (iA d w p):=⟨by have:=z9 d w p;have:=h.1;lia,B7 d w p N h.2⟩
def enum_zip(l:List Tx):∀n:Nat,fQ n (l.map T.str)=(l.zipIdx n).map λp=>T.tup [.int p.2,.str p.1]:=by
 induction l with
 |nil=>intro n;rfl
 |cons t l a=>intro n;rw[Wm,Zg,Zg,fQ,a (n+1)]
noncomputable def look:Fd->Tx->List Pl
 |[],_=>[]
 | (x,l) :: d,w=>if x=w then l else look d w
noncomputable def N0(w t:Tx):Vh:=(List.range (t.length+1)).filter λe=>w.isSuffixOf (t.take e)
def KR(a:List Tx)(w:Tx):List Pl:=(a.zipIdx 0).flatMap λp=>(N0 w p.1).map λe=>(p.2,e)
def bZ(x:Tx)(l:List Pl)(d:Fd)(w:Tx):look ((x,l) :: d) w=if x=w then l else look d w:=rfl
def Br(d:Fd)(w:Tx)(p:Pl)(v:Tx):look (iA d w p) v=if v=w then look d w++[p] else look d v:=by
 induction d with
 |nil =>
  show look [(w,[p])] v=_;rw[bZ];by_cases h:v=w
  ·rw[Zp h,Zp h.symm];rfl
  ·rw[Zn h,Zn (Yy h)]
 |cons a d e =>
  obtain⟨x,l⟩:=a;unfold iA;by_cases b:x=w
  ·rw[Zp b,bZ,bZ,bZ];by_cases h:v=w
   ·rw[Zp h,Zp (b.trans h.symm),Zp b]
   ·rw[Zn h,Zn (λz=>h (z.symm.trans b)),Zn (λz=>h (z.symm.trans b))]
  ·rw[Zn b,bZ,e,bZ,bZ,Zn b];by_cases h:v=w
   ·rw[Zp h,Zn (λz=>b (z.trans h)),Zp h]
   ·rw[Zn h,Zn h]
def qE(d:Fd)(w:Tx)(p:Pl)(v:Tx):(∃q∈iA d w p,q.1=v)↔(∃q∈d,q.1=v)\/v=w:=by
 induction d with
 |nil=>exact⟨λ⟨q,b,e⟩=>.inr (by rw[Zj.mp b]at e;exact e.symm),λh=>h.elim (λ⟨_,h,_⟩=>nomatch h) λh=>⟨(w,[p]),Zj.mpr Y,h.symm⟩⟩
 |cons a d g =>
  obtain⟨x,l⟩:=a;unfold iA;split
  ·rename_i m;constructor
   ·rintro⟨q,b,e⟩;rcases Zo.mp b with rfl | b
    ·exact .inl ⟨(x,l),Zx,e⟩
    ·exact .inl ⟨q,Zy _ b,e⟩
   ·rintro (⟨q,b,e⟩ | e)
    ·rcases Zo.mp b with rfl | b
     ·exact⟨_,Zx,e⟩
     ·exact⟨q,Zy _ b,e⟩
    ·exact⟨_,Zx,m.trans e.symm⟩
  ·constructor
   ·rintro⟨q,b,e⟩;rcases Zo.mp b with rfl | b
    ·exact .inl ⟨_,Zx,e⟩
    ·exact(g.mp ⟨q,b,e⟩).imp (λ⟨q,b,e⟩=>⟨q,Zy _ b,e⟩) id
   ·rintro (⟨q,b,e⟩ | e)
    ·rcases Zo.mp b with rfl | b
     ·exact⟨_,Zx,e⟩
     ·obtain⟨f,j,i⟩:=g.mpr (.inl ⟨q,b,e⟩);exact⟨f,Zy _ j,i⟩
    ·obtain⟨f,j,i⟩:=g.mpr (.inr e);exact⟨f,Zy _ j,i⟩
structure PI(d:Fd)(N:Nat)(V:Tx->List Pl):Prop where
 hd:∃d',d=([],V []) :: d'/\∀q∈d',q.1≠[]
 sz:Sz N d
 lo:∀w,w≠[]->look d w=V w
 ks:∀w,w≠[]->((∃q∈d,q.1=w)↔V w≠[])
theorem PI.add(h:PI d N V)(hw:w≠[])(p:Pl):PI (iA d w p) (N+1) λv=>if v=w then V v++[p] else V v:=by
 obtain⟨b,rfl,hd⟩:=h.hd;refine⟨⟨iA b w p,by rw[iA,Zn (Yy hw),Zn (Yy hw)],λq g i=>?_⟩,h.sz.add w p,λv a=>?_,λv a=>?_⟩
 ·rcases (qE b w p []).mp ⟨q,g,i⟩ with⟨f,l,j⟩ | h
  ·exact hd f l j
  ·exact hw h.symm
 ·rw[Br];by_cases e:v=w
  ·subst e;rw[Zp Y,Zp Y,h.lo v a]
  ·rw[Zn e,Zn e,h.lo v a]
 ·rw[qE,h.ks v a];by_cases e:v=w
  ·rw[Zp e];exact⟨λ_ z=>by simp at z,λ_=>.inr e⟩
  ·rw[Zn e];exact⟨λz=>z.resolve_right e,.inl⟩
def PI.to(h:PI d N V)(a:N<=f)(e:∀w,True->V w=b w):PI d f b:=⟨by obtain⟨i,e1,e2⟩:=h.hd;exact⟨i,by rw[← e [] trivial];exact e1,e2⟩,⟨ZJ h.sz.1 a,λq g=>ZJ (h.sz.2 q g) a⟩,λw hw=>(h.lo w hw).trans (e w trivial),λw hw=>by rw[h.ks w hw,e w trivial]⟩
abbrev EP(g:T)(d:Fd)(f e b a:Ve):Env:=[pc g,oc (.dct 0 (dT d)),f,e,b,a]
def Dq(t:Tx)(i L:Nat)(h:i<=t.length):cut t (Z (i:Int)) (Z ((i:Int)+(L:Int)))=(t.drop i).take L:=by
 have b:¬((i:Int)<0):=by lia
 have a:¬((i:Int)+(L:Int)<0):=by lia
 simp only[cut,clip,Zn b,Zn a,YF,YM h];rw[show ((i:Int)+(L:Int)).toNat=i+L by lia];by_cases g:i+L<=t.length
 ·rw[YM g,show i+L-i=L by exact Nat.add_sub_cancel_left _ _]
 ·rw[Wp (by exact XI g),Y9 (by rw[Ym];exact Zk _),Y9 (by rw[Ym];lia)]
noncomputable def pt(t:Tx)(s e:Nat):Tx:=(t.drop s).take (e-s)
def vF{m n:Md}{i j:Int}(e:a U=Z (m,.int i))(d:b U=Z (n,.int j))(h:(-4611686018427387904<=i/\i<4611686018427387904)/\-4611686018427387904<=j/\j<4611686018427387904):nX a b U=Z (.fr,rng i (j-i).toNat):=by
 simp only[nX,e,d,Zr,int?];exact Zp h
def hE(t:Tx)(n s:Nat)(a:Vh)(w:Tx):List Pl:=(a.filter λe=>decide (pt t s e=w)).map λe=>(n,e)
def pa1(b:T)(n:Nat)(t:Tx)(s:Nat)(a:Vh):∀(d:Fd)(N:Nat)(V:Tx->List Pl)(z:Ve),PI d N V->(∀e∈a,s<e/\e<=t.length)->N+a.length<16000000 →
  ∃f g,forL (aG 5) fh (a.map λ(e:Nat)=>T.int (e:Int)) (EP b d (Q0 n) (Q2 t) (Q0 s) z)=Z (.nx (EP b f (Q0 n) (Q2 t) (Q0 s) g))/\PI f (N+a.length) λw=>V w++hE t n s a w:=by
 induction a with
 |nil=>exact λd N V z h _ _=>⟨d,z,rfl,h.to (Zk _) λw _=>(ZS _).symm⟩
 |cons e a j =>
  intro d N V z h he hN;rw[Zi]at hN;obtain⟨x,v⟩:=he e Zx;have u:cut t (Z (s:Int)) (Z (e:Int))=pt t s e:=by
   have:=Dq t s (e-s) (by lia)
   rwa [show ((s:Int)+((e-s:Nat):Int))=(e:Int) by lia]at this
  have ne:pt t s e≠[]:=λz=>by
   have:=congrArg List.length z;unfold pt at this;rw[Y1,Ym]at this;have:List.length ([]:Tx)=0:=rfl;lia
  obtain⟨f,g,r,l⟩:=j _ (N+1) _ (Q0 e) (h.add ne (n,e)) (λi o=>he i (Zy _ o)) (by lia);refine⟨f,g,?_,l.to (by rw[Zi];lia) λw _=>?_⟩
  ·have bo:fh (EP b d (Q0 n) (Q2 t) (Q0 s) (Q0 e))=Z (.nx (EP b (iA d (pt t s e) (n,e)) (Q0 n) (Q2 t) (Q0 s) (Q0 e))):=by
    unfold fh;have:=yU (i:=1) (w:=pt t s e) (p:=(n,e)) (ck:=eSl (aa 3) (Z (aa 4)) (Z (aa 5))) (cv:=gk (ab (aa 2) (ab (aa 5) aj))) (U:=EP b d (Q0 n) (Q2 t) (Q0 s) (Q0 e)) Y (by rw[← u];rfl) (λc=>rfl) (λq m=>by have:=h.sz.2 q m;lia) (by have:=h.sz.1;lia);rw[this];rfl
   rw[Zg,cw Y bo,r]
  ·unfold hE;rw[List.filter_cons];by_cases hw:w=pt t s e
   ·rw[Zp hw,Zp (ZR hw.symm),Zg,ZI];rfl
   ·rw[Zn hw,Zn (by rw[decide_eq_true_iff];exact Yy hw)]
def hS(t:Tx)(n:Nat)(a:Vh)(w:Tx):List Pl:=a.flatMap λs=>hE t n s (List.range' (s+1) (t.length-s)) w
def pa2(o:T)(n:Nat)(t:Tx)(F:t.length<=120)(a:Vh):∀(d:Fd)(N:Nat)(V:Tx->List Pl)(f b:Ve),PI d N V->(∀s∈a,s<t.length)->N+121*a.length<16000000 →
  ∃g D E,forL (aG 4) jT (a.map λ(s:Nat)=>T.int (s:Int)) (EP o d (Q0 n) (Q2 t) f b)=Z (.nx (EP o g (Q0 n) (Q2 t) D E))/\PI g (N+121*a.length) λw=>V w++hS t n a w:=by
 induction a with
 |nil=>exact λd N V f b h _ _=>⟨d,f,b,rfl,h.to (Zk _) λw _=>(ZS _).symm⟩
 |cons s a x =>
  intro d N V f b h p hN;rw[Zi]at hN;have G:=p s Zx;obtain⟨C,r,e1,q⟩:=pa1 o n t s (List.range' (s+1) (t.length-s)) d N V b h (λe he=>by have:=Xo.mp he;lia) (by rw[Y2];lia);rw[Y2]at q;obtain⟨g,v,u,A,y⟩:=x C (N+121) _ (Q0 s) r (q.to (by lia) λ_ _=>rfl) (λi z=>p i (Zy _ z)) (by lia);refine⟨g,v,u,?_,y.to (by rw[Zi];lia) λw _=>?_⟩
  ·rw[Zg,cw Y (by
    refine(bH (m:=.fr) ?_ Y).trans e1;rw[vF (m:=.fr) (n:=.fr) (i:=(s:Int)+1) (j:=(t.length:Int)+1) Y Y (by lia),show ((t.length:Int)+1-((s:Int)+1)).toNat=t.length-s by lia];unfold rng;rw[List.range'_eq_map_range,ZD];refine congrArg (λl=>Z (Md.fr,l)) (YR λk _=>?_);show T.int ((s:Int)+1+(k:Int))=T.int ((s+1+k:Nat):Int);congr 1),A]
  ·unfold hS;rw[WU,ZI]
def Jm(t:Tx)(n:Nat)(hw:w≠[]):hS t n (List.range t.length) w=(N0 w t).map λe=>(n,e):=by
 have v:=List.length_pos_iff.mpr hw;have e1:hS t n (List.range t.length) w=((List.range t.length).flatMap λs=>(List.range' (s+1) (t.length-s)).filter λe=>decide (pt t s e=w)).map λe=>(n,e):=by
  unfold hS hE;rw[List.map_flatMap]
 rw[e1];congr 1;have len:∀{s e:Nat},s<e->e<=t.length->pt t s e=w->e=s+w.length:=λ{s e} f d g=>by
  have:=congrArg List.length g;unfold pt at this;rw[Y1,Ym]at this;lia
 have mem:∀{s e:Nat},(e∈(List.range' (s+1) (t.length-s)).filter λe=>decide (pt t s e=w))->s<e/\e<s+1+(t.length-s)/\pt t s e=w:=λh=>by
  obtain⟨f,d⟩:=Yp.mp h;have:=Xo.mp f;exact⟨this.1,this.2,of_decide_eq_true d⟩
 refine Hw (List.pairwise_flatMap.mpr ⟨λs q=>W4 _ List.pairwise_lt_range',WJ.imp_of_mem λ{a b} z hb A x p y o=>?_⟩) (W4 _ WJ) λe=>?_
 ·obtain⟨m,x2,l⟩:=mem p;obtain⟨j,u,i⟩:=mem o;have:=len m (by lia) l;have:=len j (by lia) i;lia
 ·unfold N0;rw[List.mem_flatMap,Yp,Yc,YV];constructor
  ·rintro⟨s,q,he⟩;obtain⟨f,d,g⟩:=mem he;refine⟨by omega,?_⟩;have:pt t s e=(t.take e).drop s:=by unfold pt;rw[List.drop_take]
   rw[← g,this];exact List.drop_suffix _ _
  ·rintro⟨f,a,d⟩;have r:=congrArg List.length d;rw[Zq,Y1]at r;refine⟨a.length,Yc.mpr (by lia),Yp.mpr ⟨Xo.mpr (by lia),ZR ?_⟩⟩;unfold pt;rw[← List.drop_take,← d,List.drop_left]
def E8(t:Tx)(n:Nat):hS t n (List.range t.length) []=[]:=by
 refine List.flatMap_eq_nil_iff.mpr λs a=>?_;unfold hE;rw[List.map_eq_nil_iff,Wz];intro e he z;have b:=Xo.mp he;have:=congrArg List.length (of_decide_eq_true z);unfold pt at this;rw[Y1,Ym]at this;have:List.length ([]:Tx)=0:=rfl;lia
def yg(l:List Pl):fZ (l.map tP)=J:=gR tP (λ_=>rfl) l
def pa3(g:T)(n:Nat)(t:Tx)(E:t.length<=120)(d:Fd)(N:Nat)(V:Tx->List Pl)(o i:Ve)(h:PI d N V)(Q:N+20000<16000000) :
  ∃r u v,gY (EP g d (Q0 n) (Q2 t) o i)=Z (.nx (EP g r (Q0 n) (Q2 t) u v))/\PI r (N+20000) λw=>V w++(N0 w t).map λe=>(n,e):=by
 obtain⟨b,A,f⟩:=h.hd;generalize M:V []=l at A;subst A;have H:=h.sz.2 _ Zx;have C:=cF (k:=1) (tg:=aG 0) (it:=cR (e2 bA (eN bO (ab (aa 3) aj)) (Q3 1))) (elt:=gk (ab (aa 3) (ab (aa 0) aj))) (U:=EP g (([],l) :: b) (Q0 n) (Q2 t) o i) (λ(j:Nat)=>T.int (j:Int)) (λj=>tP (n,j)) (List.range (t.length+1)) (by
   rw[g8 Y (by lia),jS];rfl) Y (by rw[ZT];lia) λj P=>⟨_,rfl,rfl⟩
 have x:e2 bA (e2 LN (aa 1) (eC (.str []))) (bD 1 (aG 0) (cR (e2 bA (eN bO (ab (aa 3) aj)) (Q3 1))) L (gk (ab (aa 3) (ab (aa 0) aj)))) (EP g (([],l) :: b) (Q0 n) (Q2 t) o i)=Z (.fr,.lst ((l++(List.range (t.length+1)).map λj=>(n,j)).map tP)):=by
  refine e2v Y C ?_;show ML _ (l.map tP++(List.range (t.length+1)).map λj=>tP (n,j))=_;rw[show l.map tP++(List.range (t.length+1)).map (λj=>tP (n,j))=(l++(List.range (t.length+1)).map λj=>(n,j)).map tP from by rw[Z8,ZD];rfl,rO (by rw[Zt,Zq,Zt,ZT];lia),Zp (yg _)]
 generalize z:(l++(List.range (t.length+1)).map λj=>(n,j))=l2 at x;have D:PI (([],l2) :: b) (N+121) (λw=>if w=[] then l2 else V w):=⟨⟨b,by rw[Zp Y],f⟩,⟨by have:=h.sz.1;rw[Zi]at this ⊢;exact X8 this,λq a=>by
  rcases Zo.mp a with rfl | a
  ·exact(by rw[← z,Zq,Zt,ZT];lia)
  ·have:=h.sz.2 q (Zy _ a);exact X8 this⟩,λw hw=>by
  rw[Zn hw,← h.lo w hw,bZ,bZ,Zn (Yy hw),Zn (Yy hw)],λw hw=>by
  rw[Zn hw,← h.ks w hw];constructor
  ·rintro⟨q,a,e⟩;rcases Zo.mp a with rfl | a
   ·exact⟨_,Zx,e⟩
   ·exact⟨q,Zy _ a,e⟩
  ·rintro⟨q,a,e⟩;rcases Zo.mp a with rfl | a
   ·exact⟨_,Zx,e⟩
   ·exact⟨q,Zy _ a,e⟩⟩
 obtain⟨r,u,v,e1,y⟩:=pa2 g n t E (List.range t.length) (([],l2) :: b) (N+121) _ o i D (λs F=>Yc.mp F) (by rw[ZT];lia);rw[ZT]at y;refine⟨r,u,v,(au (by
  unfold Aa;rw[x];show (if fm (.str [])=J/\eqT (.str []) (.str [])=J/\((dT b).all λp=>!eqT p.1 (.str []))=J/\(dT b).length+1<16777216 then _ else _)=_;refine Zp ⟨rfl,rfl,Za.mpr λp G=>?_,?_⟩
  ·obtain⟨q,a,rfl⟩:=ZV.mp G;have:eqT (T.str q.1) (.str [])=B:=by simpa using f q a
   show (!eqT (T.str q.1) (.str []))=J;rw[this];rfl
  ·have:=h.sz.1;unfold dT;rw[Zt];rw[Zi]at this;lia)).trans ((bH (m:=.fr) ?_ Y).trans e1),y.to (by lia) λw _=>?_⟩
 ·rw[g8 Y (by lia),jS];rfl
 ·by_cases hw:w=[]
  ·subst hw;have O:N0 [] t=List.range (t.length+1):=by
    exact List.filter_eq_self.mpr λe _=>rfl
   rw[Zp Y,E8,ZS,M,O];exact z.symm
  ·rw[Zn hw,Jm t n hw]
def pa4(m:T)(l:List Tx):∀(n:Nat)(d:Fd)(N:Nat)(V:Tx->List Pl)(g f b a:Ve),(∀t∈l,t.length<=120)->PI d N V->N+20000*l.length<16000000 →
  ∃i j F G H,forL (iD [aG 2,aG 3]) gY ((l.zipIdx n).map λp=>T.tup [.int p.2,.str p.1]) (EP m d g f b a)=Z (.nx (EP m i j F G H))/\PI i (N+20000*l.length) λw=>V w++(l.zipIdx n).flatMap λp=>(N0 w p.1).map λe=>(p.2,e):=by
 induction l with
 |nil=>exact λn d N V g f b a _ h _=>⟨d,g,f,b,a,rfl,h.to (Zk _) λw _=>(ZS _).symm⟩
 |cons t l y =>
  intro n d N V g f b a o h hN;rw[Zi]at hN;obtain⟨E,r,q,e1,C⟩:=pa3 m n t (o t Zx) d N V b a h (by lia);obtain⟨i,x2,x,v,u,D,z⟩:=y (n+1) E (N+20000) _ (Q0 n) (Q2 t) r q (λs A=>o s (Zy _ A)) C (by lia);refine⟨i,x2,x,v,u,?_,z.to (by rw[Zi];lia) λw _=>?_⟩
  ·rw[Wm,Zg,cw Y e1,D]
  ·rw[Wm,WU,ZI]
noncomputable def Pt(a:List Tx)(w:Tx):Prop:=w=[]\/∃t∈a,w <:+: t
def kc:p∈KR d w ↔ ∃t,d[p.1]?=Z t/\p.2<=t.length/\w <:+ t.take p.2:=by
 unfold KR;rw[List.mem_flatMap];constructor
 ·rintro⟨⟨t,n⟩,f,h⟩;obtain⟨e,he,rfl⟩:=ZV.mp h;obtain⟨b,a⟩:=Yp.mp he;have:=Yc.mp b;exact⟨t,by simpa using List.mem_zipIdx_iff_getElem?.mp f,Vq this,YV.mp a⟩
 ·rintro⟨t,b,a,g⟩;exact⟨(t,p.1),List.mem_zipIdx_iff_getElem?.mpr b,ZV.mpr ⟨p.2,Yp.mpr ⟨Yc.mpr (Nat.lt_succ_of_le a),YV.mpr g⟩,rfl⟩⟩
def Hf(hw:w≠[]):KR d w≠[]↔Pt d w:=by
 rw[show KR d w≠[] ↔ ∃p,p∈KR d w from⟨λh=>List.exists_mem_of_ne_nil _ h,λ⟨p,h⟩ e=>by rw[e]at h;cases h⟩];constructor
 ·rintro⟨p,g⟩;obtain⟨t,m,_,l⟩:=kc.mp g;exact .inr ⟨t,Z5 m,l.isInfix.trans (WQ _ _).isInfix⟩
 ·rintro (h | ⟨t,f,a,b,e⟩)
  ·exact absurd h hw
  ·obtain⟨i,j⟩:=List.mem_iff_getElem?.mp f;refine⟨(i,(a++w).length),kc.mpr ⟨t,j,by rw[← e,Zq (as:=a++w)];exact YU _ _,?_⟩⟩;rw[← e,List.take_left];exact List.suffix_append a w
def Cv(b:List Tx)(r:b.length<=8)(i:∀t∈b,t.length<=120):∃d:Fd,eK [.lst (b.map .str)]=Z (.fr,.dct 0 (dT d))/\(∀w,look d w=KR b w)/\(∀w,(∃q∈d,q.1=w)↔Pt b w)/\Sz 1000000 d:=by
 obtain⟨d,o,n,l,j,e,p⟩:=pa4 (.lst (b.map .str)) b 0 [([],[])] 1 (λ_=>[]) L L L L i ⟨⟨[],rfl,λ_ h=>nomatch h⟩,⟨Zk _,λq f=>by rw[Zj.mp f];exact Yk _⟩,λw hw=>by rw[bZ,Zn (Yy hw)];rfl,λw hw=>⟨λ⟨q,f,e⟩=>absurd (by rw[Zj.mp f]at e;exact e.symm) hw,λa=>absurd Y a⟩⟩ (by lia);have ev:∀w,(([])++(b.zipIdx 0).flatMap λp=>(N0 w p.1).map λe=>(p.2,e))=KR b w:=λw=>YK _;obtain⟨s,g,_⟩:=p.hd;refine⟨d,?_,λw=>?_,λw=>?_,(p.to (by lia) λ_ _=>rfl).sz⟩
 rotate_left
 ·by_cases hw:w=[]
  ·subst hw;rw[g,bZ,Zp Y];exact ev []
  ·exact(p.lo w hw).trans (ev w)
 ·by_cases hw:w=[]
  ·subst hw;exact⟨λ_=>.inl Y,λ_=>⟨_,by rw[g];exact Zx,rfl⟩⟩
  ·exact(p.ks w hw).trans (by rw[ev w];exact Hf hw)
 refine dJ Y ((au Y).trans ((au ((bH (m:=.pu) ?_ Y).trans e)).trans Y));rw[← enum_zip];rfl
end T32
end
section
namespace AU
section
def I.QF(H:I L S nd wd):∀(z u:Wd){n:Nat},nd (u++z)=Z n->∃m,nd u=Z m:=by
 intro z
 induction z with
 |nil=>intro u n h;rw[ZS]at h;exact⟨n,h⟩
 |cons c z a =>
  intro u n h;rw[Wj]at h;obtain⟨m,b⟩:=a _ h;exact H.pre b
def I.ext(H:I L S nd wd):∀(z x y:Wd){n:Nat},nd x=Z n->nd y=Z n->nd (x++z)=nd (y++z):=by
 intro z
 induction z with
 |nil=>intro x y n d b;rw[ZS,ZS,d,b]
 |cons c z h =>
  intro x y n d b;rw[Wj x,Wj y];have e:=(H.wy d c).symm.trans (H.wy b c);cases a:nd (x++[c]) with
  |some m=>exact h _ _ a (e ▸ a)
  |none =>
   have f:∀u,nd u=L->nd (u++z)=L:=λu j=>by
    cases i:nd (u++z) with
    |none=>rfl
    |some k =>
     obtain⟨m,g⟩:=H.QF z u i;rw[j]at g;cases g
   rw[f _ a,f _ (e ▸ a)]
def I.head(H:I L S nd wd)(f:n<wd.length)(e:W wd n=x++y):∃m,m<wd.length/\W wd m=x:=by
 have a:=(H.top f)
 rw[e]at a;obtain⟨m,b⟩:=H.QF y x a;have d:=H.lt b;refine⟨m,d,?_⟩;have:=H.ext y _ _ b (H.top d);rw[a]at this;have s:=(H.sf this.symm).length_le;rw[e,Zq,Zq]at s;exact((H.sf b).eq_of_length_le (by lia)).symm
noncomputable def ends(b:List Wd):List Wd:=b.flatMap λt=>(List.range t.length).map λk=>t.drop k
def A9{l:Vh}(a:l.Nodup)(h:k<l.length):l.idxOf l[k]=k:=by
 exact(Vi a).mp (Xd (Yb.mpr (ZC h)))
end
noncomputable def Sd(S:St)(t:Nat):Nat:=match S.lk.getD t L with
 |none=>0
 |some m=>S.lg.getD m 0+1
def sw(S:St)(a:List Wd)(t:Nat):Wd:=(W a t).drop ((W a t).length-Sd S t)
section
variable{P:Wd->Prop}{S:St}{nd:Wd->Option Nat}{wd:List Wd}(H:I none S nd wd)
include H
theorem I.sh(a:t<wd.length):Sd S t<=(W wd t).length/\∀y,nd y=Z t↔y <:+ W wd t/\Sd S t<=y.length:=by
 unfold Sd;by_cases h:t=0
 ·subst h;rw[H.PD,H.wz];exact⟨Yk _,λy=>⟨λz=>⟨by rw[H.zero z];exact Z4 _,Yk _⟩,λz=>by rw[YL.mp z.1];exact H.z⟩⟩
 ·obtain⟨m,e,⟨f,_⟩,g,d,b⟩:=H.lk (YW h) a (by simp);rw[e];show S.lg.getD m 0+1<=_/\∀y,_↔_/\S.lg.getD m 0+1<=_;rw[H.lg m f];exact⟨d,λy=>⟨λz=>⟨H.sf z,(H.low (by simp) e z).1⟩,λz=>b y z.1 z.2⟩⟩
theorem I.QB(a:t<wd.length):(sw S wd t).length=Sd S t:=by
 have:=(H.sh a).1;unfold sw;rw[Ym];lia
theorem I.NY(a:t<wd.length):nd (sw S wd t)=Z t:=((H.sh a).2 _).mpr ⟨List.drop_suffix _ _,by rw[H.QB a];exact Zk _⟩
end
end AU
end
section
namespace T32
open VS AU
def yQ{α:Type}(f:α->T)(l:List α)(d:α)(h:0<l.length):aC (m,.lst (l.map f)) (n,.int (-1))=Z (sub m (f (l.getD (l.length-1) d))):=by
 show ((KU (l.map f).length (-1)).bind _)=_;have:KU (l.map f).length (-1)=Z (l.length-1):=by
  unfold KU;rw[Zt,Zn (by decide),Zp (by lia)];congr 1;lia
 rw[this,Zr,Zd,Zs,Zu (by omega)];rfl
noncomputable abbrev Ke(l:Vh):T:=.lst (l.map λ(n:Nat)=>T.int (n:Int))
abbrev ix(a:List Tx)(m:Nat):Nat:=(av a).idxOf m
def num(b:List Tx)(a:Wd->Option Nat)(w:Tx):Nat:=(av b).idxOf ((a w).getD 0)
noncomputable def vB(v:Nat×Nat):T:=.tup [.int (v.1:Int),.str [v.2]]
noncomputable abbrev Np:=List (Nat×(Nat×Nat))
def bT(m:Np):List (T×T):=m.map λp=>(T.int (p.1:Int),vB p.2)
noncomputable def p6(m:Np)(j:Nat)(v:Nat×Nat):Np:=if j∈m.map (·.1) then m.map (λp=>if p.1=j then (p.1,v) else p) else m++[(j,v)]
def qJ(a b:Nat):eqT (T.int (a:Int)) (T.int (b:Int))=decide (a=b):=by
 by_cases h:a=b
 ·simp[h]
 ·rw[ZN h];exact beq_eq_false_iff_ne.mpr (by lia)
def Ef(m:Np)(j:Nat)(v:Nat×Nat):dput (bT m) (.int (j:Int)) (vB v)=bT (p6 m j v):=by
 have e:(bT m).any (λp=>eqT p.1 (.int (j:Int)))=decide (j∈m.map (·.1)):=by
  induction m with
  |nil=>rfl
  |cons a m d =>
   rw[show bT (a :: m)=(T.int (a.1:Int),vB a.2) :: bT m from rfl,YH,d,qJ,Zg];by_cases q:a.1=j
   ·simp[q]
   ·have b:¬j=a.1:=λz=>q z.symm;simp[q,b]
 unfold dput p6;rw[e];by_cases q:j∈m.map (·.1)
 ·rw[Zp (by simpa using q),Zp q];unfold bT;rw[ZD,ZD];apply YR;intro p _;simp only[Function.comp,qJ];by_cases r:p.1=j
  ·simp[r]
  ·simp[r]
 ·rw[Zn (by simpa using q),Zn q];simp[bT]
def Bh(m:Np)(j:Nat)(v:Nat×Nat):(p6 m j v).length<=m.length+1:=by
 unfold p6;split<;>simp
def qP(m:Np)(j:Nat)(v:Nat×Nat)(k:Nat)(h:k∈m.map (·.1)\/k=j):k∈(p6 m j v).map (·.1):=by
 unfold p6;split
 ·rename_i q;obtain⟨p,a,rfl⟩:=ZV.mp (h.elim id λz=>z ▸ q);refine ZV.mpr ⟨_,ZV.mpr ⟨p,a,rfl⟩,?_⟩;by_cases r:p.1=j
  ·rw[Zp r]
  ·rw[Zn r]
 ·rw[Z8,ZW];exact h.imp id λz=>by simp[z]
def BN(m:Np)(j:Nat)(v:Nat×Nat)(q:Nat×(Nat×Nat))(h:q∈p6 m j v):q∈m\/q=(j,v):=by
 unfold p6 at h;split at h
 ·obtain⟨p,a,rfl⟩:=ZV.mp h;by_cases r:p.1=j
  ·rw[Zp r];right;rw[r]
  ·rw[Zn r];exact .inl a
 ·rcases ZW.mp h with h | h
  ·exact .inl h
  ·exact .inr (Zj.mp h)
def JU(m:Np)(i:Nat)(h:i∈m.map (·.1)):∃v,dn (bT m) (.int (i:Int))=Z (vB v)/\(i,v)∈m:=by
 induction m with
 |nil=>simp at h
 |cons a m d =>
  obtain⟨j,v⟩:=a;rw[show bT ((j,v) :: m)=(T.int (j:Int),vB v) :: bT m from rfl];unfold dn;by_cases q:j=i
  ·subst q;exact⟨v,by rw[Z6,qJ];simp,Zx⟩
  ·rw[Z6,qJ,ZN q];rw[Zg,Zo]at h;obtain⟨b,f,e⟩:=d (h.resolve_left λz=>q z.symm);exact⟨b,f,Zy _ e⟩
def Dx{U:Env}{v:T}(h:U[i]?=Z (Z (.ow (.dct 0 l))))(he:e U=Z (m,v))(b:k U=Z (n,a))(g:fm a=J)(f:J3 v=J)(d:l.length<16777216):pN i k e U=Z (.nx (U.set i (Z (.ow (.dct 0 (dput l a v)))))):=by
 unfold pN;rw[he,Zr,h,b];exact Zp ⟨g,f,d⟩
noncomputable def L5(S:St):Nat->Nat->Vh
 |0,m=>[m]
 |k+1,m=>m :: match S.lk.getD m L with
  |none=>[]
  |some r=>L5 S k r
def EH{l:Vb}(a:i<l.length):aO [.lst l,.int (i:Int)]=Z (.fr,.non):=by
 refine Em (U:=[pc (.lst l),Q0 (i:Int)]) Y ?_;refine(p8 (m:=.fr) (Al (m:=.fr) (x:=B) ?_ (λ_=>?_) (λh=>by cases h))).trans rfl
 ·exact oF (b:=J) Y
 ·refine oF (m:=.fr) (b:=J) (n8 Y Y ?_ (jm (xv Y Y) Y) ?_)
  ·show Z (Md.fr,T.bl (decide ((0:Int)<=(i:Int))))=_;rw[ZR (by lia)]
  ·show Z (Md.fr,T.bl (decide ((i:Int)<(l.length:Int))))=_;rw[ZR (by lia)]
section
variable{bk:List Tx}{nd:Wd->Option Nat}{wd:List Wd}(H:K (Hd bk) (aP bk) nd wd)(hM:∀x,x∈av bk↔x<(aP bk).lg.length)(h0:(av bk).idxOf 0=0)
include hM
theorem Es(a:m<(aP bk).lg.length):ix bk m<(tabOf bk).length:=by
 unfold tabOf tab;rw[Zt];exact Yb.mpr ((hM m).mpr a)
theorem sE{m:Nat}(e:m<(aP bk).lg.length){n:Md}(g:a U=Z (.pu,Kk (tabOf bk)))(f:b U=Z (n,.int (ix bk m:Int))):e2 aC a b U=Z (.fr,iE (row (aP bk) (av bk) m)):=by
 refine e2v g f ?_;have d:=Yb.mpr ((hM m).mpr e);unfold Kk tabOf tab;rw[ZD,qQ (iE ∘ row (aP bk) (av bk)) (av bk) (ix bk m) 0 d,Zs,Zu d];show Z (up .pu (iE (row (aP bk) (av bk) (av bk)[ix bk m])))=_;rw[Xd _];unfold up;rw[sS];rfl
include H
theorem Bs(a:m<wd.length):(row (aP bk) (av bk) m).2.1=(W wd m).length:=by
 unfold row;rw[← H.i.lg m a];split
 ·rename_i h;by_cases h0:m=0
  ·rw[h0,H.i.lg 0 (by exact Nat.zero_lt_of_lt a),H.i.wz];rfl
  ·obtain⟨r,e,_⟩:=H.i.lk (YW h0) a (by simp);rw[h]at e;cases e
 ·rfl
include h0
def wl(b:List Tx)(a:Wd->Option Nat)(p:Tx):Vh:=(List.range (p.length+1)).map λi=>num b a (p.take i)
omit H hM h0 in
theorem Dv(p:Tx)(c:Nat):wl bk nd (p++[c])=wl bk nd p++[num bk nd (p++[c])]:=by
 unfold wl;rw[Zq,ZG,List.range_succ,Z8];congr 1
 ·refine YR λi a=>?_;have:=Yc.mp a;rw[List.take_append_of_le_length (by exact Vq this)]
 ·show [num bk nd ((p++[c]).take (p.length+1))]=_;rw[Y9 (by rw[Zq];exact Zk _)]
omit H hM h0 in
theorem rP(h:nd w=Z m):num bk nd w=ix bk m:=by
 unfold num;rw[h];rfl
theorem wk(d:Tx):∀(v p:Tx)(f b:Ve),(nd (p++v)).isSome=J->Az v->p.length+v.length<1000000->∃h g,forL (aG 3) qR (v.map s1) [pc (Kk (tabOf bk)),Q2 d,oc (Ke (wl bk nd p)),f,b]=Z (.nx [pc (Kk (tabOf bk)),Q2 d,oc (Ke (wl bk nd (p++v))),h,g]):=by
 intro v
 induction v with
 |nil=>exact λp f b _ _ _=>⟨f,b,by rw[ZS];rfl⟩
 |cons c v u =>
  intro p f b j s A;rw[Zi]at A;obtain⟨E,t⟩:=Yi.mp j;rw[Wj]at t j;obtain⟨q,o⟩:=H.i.QF v (p++[c]) t;obtain⟨m,l⟩:=H.i.pre o;have D:m<(aP bk).lg.length:=by rw[← H.i.len];exact H.i.lt l
  have C:(wl bk nd p).length=p.length+1:=by unfold wl;rw[Zt,ZT]
  have w:e2 aC (aa 2) (Q3 (-1)) [pc (Kk (tabOf bk)),Q2 d,oc (Ke (wl bk nd p)),pc (s1 c),b]=Z (.fr,.int (ix bk m:Int)):=by
   refine e2v Y Y ?_;rw[yQ (λ(n:Nat)=>T.int (n:Int)) (wl bk nd p) 0 (by lia),C,X0,← rP l];have:(wl bk nd p).getD p.length 0=num bk nd p:=by
    unfold wl;rw[Zs,Zd,Wf (Z3 _),YE,List.take_length];rfl
   rw[this];rfl
  have hg:gW (steps (aP bk) (av bk) m) c=Z (ix bk q):=by rw[t9 _ _ _ _ (s c Zx),H.i.wy l c,o];rfl
  have ap:=oX (i:=2) (U:=[pc (Kk (tabOf bk)),Q2 d,oc (Ke (wl bk nd p)),pc (s1 c),pc (KG (steps (aP bk) (av bk) m))]) (e:=e2 LN (aa 4) (aa 3)) Y (yo Y Y hg) (by rw[Zt];lia);rw[show (wl bk nd p).map (λ(n:Nat)=>T.int (n:Int))++[T.int (ix bk q:Int)]=(wl bk nd (p++[c])).map λ(n:Nat)=>T.int (n:Int) from by rw[Dv,Z8,rP o];rfl]at ap;obtain⟨h,g,e⟩:=u (p++[c]) (pc (s1 c)) (pc (KG (steps (aP bk) (av bk) m))) j (λx z=>s x (Zy _ z)) (by rw[Zq,ZG];lia);rw[Wj p c v];refine⟨h,g,(cw Y (sq (by
   refine aE (m:=.fr) (jm (xv (r:=aj) (x:=(.fr,MQ (steps (aP bk) (av bk) m))) (e2v (sE hM D Y w) (y:=(.fr,.int 3)) Y ?_) Y) (JR _ _ _)) (by decide) (by show 4<5;decide);rw[← qY];show Z (up .fr (MQ _))=_;unfold up;rw[oG];rfl) (sq (uR (m:=.fr) ?_ Y) ap))).trans e⟩
  have:=EF (U:=[pc (Kk (tabOf bk)),Q2 d,oc (Ke (wl bk nd p)),pc (s1 c),pc (KG (steps (aP bk) (av bk) m))]) (a:=aa 4) (e:=aa 3) Y Y;rw[hg]at this;exact this
theorem EZ(hw:(nd w).isSome=J)(a:Az w)(g:w.length<=1000):oP [Kk (tabOf bk),.str w]=Z (.fr,Ke (wl bk nd w)):=by
 obtain⟨f,d,e⟩:=wk H hM h0 w w [] L L (by rw[YK];exact hw) a (by show 0+_<_;lia);have b:wl bk nd []=[0]:=by
  show [num bk nd []]=_;rw[rP H.i.z,show ix bk 0=0 from h0]
 rw[b]at e;exact dJ Y (sq Y (sq ((bH Y Y).trans e) Y))
omit h0
theorem HA:∀(k m:Nat)(acc:Vh)(F:Nat),m<wd.length->(W wd m).length<=k->k+1<F->acc.length+k<1000000->dN (ie (aa 1)) i4 F [pc (Kk (tabOf bk)),Q0 (ix bk m:Int),oc (Ke acc)]=Z (.nx [pc (Kk (tabOf bk)),pc .non,oc (Ke (acc++(L5 (aP bk) k m).map (ix bk)))]):=by
 intro k
 induction k using Nat.strongRecOn with
 |ind k ih =>
  intro m acc F hm hk hF ha;obtain⟨F,rfl⟩:∃j,F=j+2:=⟨F-2,by lia⟩
  have Lx:m<(aP bk).lg.length:=by rw[← H.i.len];exact hm
  have a1:=oX (i:=2) (U:=[pc (Kk (tabOf bk)),Q0 (ix bk m:Int),oc (Ke acc)]) (e:=aa 1) Y Y (by rw[Zt];lia);rw[show acc.map (λ(n:Nat)=>T.int (n:Int))++[T.int (ix bk m:Int)]=(acc++[ix bk m]).map λ(n:Nat)=>T.int (n:Int) from by rw[Z8];rfl]at a1;have st:dN (ie (aa 1)) i4 (F+2) [pc (Kk (tabOf bk)),Q0 (ix bk m:Int),oc (Ke acc)]=dN (ie (aa 1)) i4 (F+1) [pc (Kk (tabOf bk)),pc (Kx (((aP bk).lk.getD m L).map (ix bk))),oc (Ke (acc++[ix bk m]))]:=lV Y ((au a1).trans (by
   refine aE (m:=.fr) (e2v (sE hM Lx (n:=.fr) Y Y) (y:=(.fr,.int 2)) Y ?_) (by decide) (by show 1<3;decide);show Z (up .fr (Kx (row (aP bk) (av bk) m).2.2.1))=_;unfold row;split<;>(rename_i e;rw[e];rfl)))
  rw[st];cases hl:(aP bk).lk.getD m L with
  |none =>
   rw[show L5 (aP bk) k m=[m] from by cases k with | zero=>rfl | succ k=>rw[L5,hl]];exact eU Y
  |some r =>
   obtain⟨r',e,⟨g1,_⟩,_,g2,_⟩:=H.i.lk (YW λz=>by rw[z,H.i.PD]at hl;cases hl) hm (by simp);rw[hl]at e;cases e;obtain⟨k,rfl⟩:∃j,k=j+1:=⟨k-1,by lia⟩
   have:=ih k (Z3 _) r (acc++[ix bk m]) (F+1) g1 (by lia) (by exact Xe hF) (by rw[Zq,ZG];lia);rw[show L5 (aP bk) (k+1) m=m :: L5 (aP bk) k r from by rw[L5,hl]];exact this.trans (by rw[ZI];rfl)
theorem CO(a:m<wd.length)(b:(W wd m).length<=1000):oh [Kk (tabOf bk),.int (ix bk m:Int)]=Z (.fr,Ke ((L5 (aP bk) 1000 m).map (ix bk))):=by
 have d:m<(aP bk).lg.length:=by rw[← H.i.len];exact a
 exact dJ Y ((au (by
  show (((aW aO _ _).map _).map _)=_;rw[bf (xv (x:=(.pu,Kk (tabOf bk))) Y (xv (r:=aj) (x:=(.fr,.int (ix bk m:Int))) Y Y)) (show aO [Kk (tabOf bk),.int (ix bk m:Int)]=Z (.fr,.non) from EH (by rw[Zt];exact Es hM d))];rfl)).trans ((au Y).trans ((au (HA H hM 1000 m [] vw a b (by decide) (by decide))).trans Y)))
end
def EK:Pt f w ↔ ∃p,Hd f p/\w <:+ p:=by
 constructor
 ·rintro (rfl | ⟨t,d,a,b,rfl⟩)
  ·exact⟨[],.inl Y,Z4 _⟩
  ·exact⟨a++w,.inr ⟨_,d,⟨b,rfl⟩⟩,⟨a,rfl⟩⟩
 ·rintro⟨p,rfl | ⟨t,d,g⟩,e⟩
  ·exact .inl (YL.mp e)
  ·exact .inr ⟨t,d,e.isInfix.trans g.isInfix⟩
def wx(H:K (Hd b) (aP b) s a):∀(k m:Nat),m<a.length->(W a m).length<=k->(∀j,j∈L5 (aP b) k m↔j<a.length/\W a j <:+ W a m)/\(L5 (aP b) k m).Nodup:=by
 have top:∀{j:Nat},j<a.length->W a j=[]->j=0:=λv e=>by
  have:=H.i.top v;rw[e,H.i.z]at this;exact(Zh this).symm
 have h:∀j,j∈([0])↔j<a.length/\W a j <:+ W a 0:=λj=>by
  rw[Zj,H.i.wz,YL];exact⟨λe=>by rw[e];exact⟨H.i.lt H.i.z,H.i.wz⟩,λe=>top e.1 e.2⟩
 intro k
 induction k with
 |zero =>
  intro m d o;have e:=top d (Y8.mp (Nat.le_zero.mp o));subst e;exact⟨h,Zb.mpr ⟨(λz=>nomatch z),Yt⟩⟩
 |succ k t =>
  intro m d o;by_cases p:m=0
  ·subst p;have:L5 (aP b) (k+1) 0=[0]:=by unfold L5;rw[H.i.PD]
   rw[this];exact⟨h,Zb.mpr ⟨(λz=>nomatch z),Yt⟩⟩
  ·obtain⟨r,e,⟨x,_⟩,q,A,w⟩:=H.i.lk (YW p) d (by simp);have y:L5 (aP b) (k+1) m=m :: L5 (aP b) k r:=by
    conv=>lhs;unfold L5
    rw[e]
   obtain⟨l,u⟩:=t r x (by lia);rw[y];refine⟨λj=>?_,Zb.mpr ⟨λz=>?_,u⟩⟩
   ·rw[Zo,l];constructor
    ·rintro (rfl | ⟨g,f⟩)
     ·exact⟨d,Z4 _⟩
     ·exact⟨g,f.trans q⟩
    ·rintro⟨g,f⟩;by_cases n:(W a r).length<(W a j).length
     ·have:=w _ f n;rw[H.i.top g]at this;exact .inl (Zh this)
     ·exact .inr ⟨g,cW f q (by exact ZO n)⟩
   ·have:=((l m).mp z).2.length_le;lia
def CG(H:K (Hd b) (aP b) d e)(g:(W e m).length<=1000)(a:d p=Z m)(f:Hd b p)(hw:d w=Z j):j∈L5 (aP b) 1000 m↔w <:+ p:=by
 rw[(wx H 1000 m (H.i.lt a) g).1 j];constructor
 ·exact λh=>(H.i.sf hw).trans (h.2.trans (((H.eq (H.i.top (H.i.lt a)) a).mp Y p f).mpr (Z4 _)))
 ·exact λh=>⟨H.i.lt hw,(((H.eq hw (H.i.top (H.i.lt hw))).mp Y p f).mp h).trans (H.i.sf a)⟩
abbrev E5(f:List Tx)(b:Np)(e d a:Ve):Env:=[pc (Kk (tabOf f)),oc (.dct 0 (bT b)),e,d,a]
def vK(b:List Tx)(a:List Wd)(q:Nat×(Nat×Nat)):Prop:=∃t p,q.1=ix b t/\q.2.1=ix b p/\t<a.length/\p<a.length/\W a t=W a p++[q.2.2]
section
variable{bk:List Tx}{nd:Wd->Option Nat}{wd:List Wd}(H:K (Hd bk) (aP bk) nd wd)(hM:∀x,x∈av bk↔x<(aP bk).lg.length)(hN:(av bk).Nodup)
include H hM
theorem zC{c:Nat}(d:p<wd.length)(h:(c,j)∈steps (aP bk) (av bk) p):∃t,t<wd.length/\j=ix bk t/\nd (W wd p++[c])=Z t:=by
 obtain⟨g,f,e⟩:=ZV.mp h;obtain⟨rfl,rfl⟩:=X4 e;obtain⟨t,b⟩:=mq f;have a:=H.i.wy (H.i.top d) g;rw[b]at a;exact⟨t,H.i.lt a.symm,by rw[b];rfl,a.symm⟩
theorem sb1{c i:Nat}(d:p<wd.length)(a:t<wd.length)(b:Np)(e:b.length<16777216):eR (E5 bk b (Q0 (i:Int)) (pc (iE (row (aP bk) (av bk) p))) (pc (Pp (c,ix bk t))))=Z (.nx (E5 bk (if (W wd t).length=(W wd p).length+1 then p6 b (ix bk t) (i,c) else b) (Q0 (i:Int)) (pc (iE (row (aP bk) (av bk) p))) (pc (Pp (c,ix bk t))))):=by
 have lg:∀{x},x<wd.length->aC (.fr,iE (row (aP bk) (av bk) x)) (.fr,.int 1)=Z (.fr,.int ((W wd x).length:Int)):=λh=>by rw[← Bs H hM h];rfl
 have cd:e2 oEq (e2 aC (e2 aC (aa 0) (e2 aC (aa 4) (Q3 1))) (Q3 1)) (e2 bA (e2 aC (aa 3) (Q3 1)) (Q3 1)) (E5 bk b (Q0 (i:Int)) (pc (iE (row (aP bk) (av bk) p))) (pc (Pp (c,ix bk t))))=Z (.fr,.bl (decide ((W wd t).length=(W wd p).length+1))):=by
  refine e2v (e2v (sE hM ((λh=>by rw[← H.i.len];exact h) a) Y Y) Y (lg a)) (e2v (e2v (by
  show Z (up .pu (iE _))=_;unfold up;rw[sS];rfl) Y (lg d)) Y Y) ?_
  exact nc Y Y (qJ _ _)
 by_cases q:(W wd t).length=(W wd p).length+1
 ·rw[Zp q];refine UA (cd.trans (by rw[ZR q])) ((Dx (v:=vB (i,c)) Y Y Y Y Y (by rw[bT,Zt];exact e)).trans ?_);rw[Ef];rfl
 ·rw[Zn q];exact uR (cd.trans (by rw[ZN q])) Y
theorem Uh(r:p<wd.length)(O:i=ix bk p):∀(a:List (Nat×Nat))(b:Np)(m:Ve),(∀w∈a,w∈steps (aP bk) (av bk) p)->(∀q∈b,vK bk wd q)->b.length+a.length<1000000->∃f n,forL (aG 4) eR (a.map Pp) (E5 bk b (Q0 (i:Int)) (pc (iE (row (aP bk) (av bk) p))) m)=Z (.nx (E5 bk f (Q0 (i:Int)) (pc (iE (row (aP bk) (av bk) p))) n))/\(∀q∈f,vK bk wd q)/\(∀k∈b.map (·.1),k∈f.map (·.1))/\(∀c t,(c,ix bk t)∈a->t<wd.length->nd (W wd p++[c])=Z t->W wd t=W wd p++[c]->ix bk t∈f.map (·.1))/\f.length<=b.length+a.length:=by
 intro a
 induction a with
 |nil=>exact λb m _ g _=>⟨b,m,rfl,g,λk h=>h,λc t h=>(λh=>nomatch h) h,Zk _⟩
 |cons w a G =>
  intro b m hw g N;rw[Zi]at N;obtain⟨c,j⟩:=w;obtain⟨t,v,rfl,x⟩:=zC H hM r (hw _ Zx);have bo:=sb1 H hM (c:=c) (i:=i) r v b (by lia);obtain⟨d,A⟩:∃d,d=if (W wd t).length=(W wd p).length+1 then p6 b (ix bk t) (i,c) else b:=⟨_,rfl⟩
  rw[← A]at bo;have e1:(∀q∈d,vK bk wd q)/\(∀k∈b.map (·.1),k∈d.map (·.1))/\(W wd t=W wd p++[c]->ix bk t∈d.map (·.1))/\d.length<=b.length+1:=by
   rw[A];split
   ·rename_i o;refine⟨λq X=>?_,λk l=>qP b _ _ k (.inl l),λ_=>qP b _ _ _ (.inr Y),Bh _ _ _⟩;rcases BN b _ _ q X with z | rfl
    ·exact g q z
    ·exact⟨t,p,rfl,O,v,r,((H.i.sf x).eq_of_length (by rw[o,Zq];rfl)).symm⟩
   ·rename_i o;exact⟨g,λk l=>l,λz=>absurd (by rw[z,Zq];rfl) o,Y6 _⟩
  obtain⟨R,Q,P,g4⟩:=e1;obtain⟨f,n,e,F,u,E,k4⟩:=G d (pc (Pp (c,ix bk t))) (λw h=>hw w (Zy _ h)) R (by lia);refine⟨f,n,(cw Y bo).trans e,F,λk l=>u k (Q k l),λS D M U s y=>?_,by rw[Zi];lia⟩;rcases Zo.mp M with z | z
  ·obtain⟨C,z2⟩:=X4 z;subst C;rw[x]at s;cases s;exact u _ (P y)
  ·exact E S D z U s y
include hN
theorem GG(a:i<(av bk).length):ix bk (av bk)[i]=i:=A9 hN a
theorem sb3:∀(r:Vh)(i:Nat)(b:Np)(s o d:Ve),(av bk).drop i=r->(∀q∈b,vK bk wd q)->b.length+30*r.length<1000000->(∀x,x∈av bk->x<wd.length)->∃f C A v,forL (iD [aG 2,aG 3]) ij (fQ i ((r.map (row (aP bk) (av bk))).map iE)) (E5 bk b s o d)=Z (.nx (E5 bk f C A v))/\(∀q∈f,vK bk wd q)/\(∀k∈b.map (·.1),k∈f.map (·.1))/\∀p∈r,∀c t,t<wd.length->nd (W wd p++[c])=Z t->W wd t=W wd p++[c]->97<=c/\c<=122->ix bk t∈f.map (·.1):=by
 intro r
 induction r with
 |nil=>exact λi b s o d _ g _ _=>⟨b,s,o,d,rfl,g,λk h=>h,λp h=>nomatch h⟩
 |cons p r U =>
  intro i b s o d hd g hl M;rw[Zi]at hl;have a:=Nat.lt_of_not_le λy=>by rw[Wx y]at hd;cases hd
  rw[YC a]at hd;obtain⟨l,hd2⟩:=Vy hd;have O:=M p (by rw[← l];exact ZC a);have hi:i=ix bk p:=by rw[← l];exact(GG H hM hN a).symm
  have X:(steps (aP bk) (av bk) p).length<=26:=by
   unfold steps sk;rw[Zt];exact ZJ (Y0 _ _) (by decide)
  obtain⟨b1,v,e,g1,g2,g3,g4⟩:=Uh H hM O hi (steps (aP bk) (av bk) p) b d (λw h=>h) g (by lia);obtain⟨f,C,A,u,e',S,G,R⟩:=U (i+1) b1 (Q0 (i:Int)) (pc (iE (row (aP bk) (av bk) p))) v hd2 g1 (by lia) M;refine⟨f,C,A,u,(cw Y ((bH (m:=.fr) ?_ Y).trans e)).trans e',S,λk hk=>G k (g2 k hk),λF RI c t N E Q P=>?_⟩
  ·have er:e2 aC (aa 3) (Q3 3) (E5 bk b (Q0 (i:Int)) (pc (iE (row (aP bk) (av bk) p))) d)=Z (.fr,MQ (steps (aP bk) (av bk) p)):=by
    refine e2v (x:=(.fr,iE (row (aP bk) (av bk) p))) ?_ Y ?_
    ·show Z (up .pu (iE _))=_;unfold up;rw[sS];rfl
    ·rw[← qY];show Z (up .fr (MQ _))=_;unfold up;rw[oG];rfl
   show (e2 aC (aa 3) (Q3 3) _).bind _=_;rw[er];rfl
  ·rcases Zo.mp RI with rfl | z
   ·refine G _ (g3 c t ?_ N E Q);have n:=t9 (aP bk) (av bk) F c P;rw[H.i.wy (H.i.top O) c,E]at n;obtain⟨q,j,D⟩:=Zw.mp n;have:=List.find?_some j;obtain⟨q1,q2⟩:=q;cases (by simpa using this);cases (D);exact(WW j)
   ·exact R F z c t N E Q P
theorem zO(y:wd.length<=241)(w:(av bk).length=wd.length)(r:∀t,t<wd.length->Az (W wd t)):∃b:Np,fj [Kk (tabOf bk)]=Z (.fr,.dct 0 (bT b))/\(∀q∈b,vK bk wd q)/\∀t,0<t->t<wd.length->ix bk t∈b.map (·.1):=by
 obtain⟨b,v,u,s,e,o,_,n⟩:=sb3 H hM hN (av bk) 0 [] L L L Y (λq h=>nomatch h) (by show 0+_<_;lia) (λx h=>by rw[H.i.len];exact(hM x).mp h);refine⟨b,dJ Y (sq Y (sq ((bH Y Y).trans e) Y)),o,λt m a=>?_⟩;have j:W wd t≠[]:=λz=>by
  have:=H.i.top a;rw[z,H.i.z]at this;cases this;exact absurd m (YO _)
 obtain⟨x,c,f⟩:∃x c,W wd t=x++[c]:=⟨(W wd t).dropLast,(W wd t).getLast j,(List.dropLast_concat_getLast j).symm⟩
 obtain⟨p,l,d⟩:=H.i.head a f;have g:W wd t=W wd p++[c]:=by rw[d];exact f
 exact n p ((hM p).mpr (by rw[← H.i.len];exact l)) c t a (by rw[← g];exact H.i.top a) g (r t a c (by rw[f];exact ZP _ Zx))
end
section
variable{bk:List Tx}{nd:Wd->Option Nat}{wd:List Wd}(H:K (Hd bk) (aP bk) nd wd)(hM:∀x,x∈av bk↔x<(aP bk).lg.length)(hN:(av bk).Nodup)(h0:(av bk).idxOf 0=0)(hl:wd.length<=241)(hm:(av bk).length=wd.length)(L3:∀t,t<wd.length->Az (W wd t)/\(W wd t).length<=120)
include H hM
theorem AB(d:s<wd.length)(b:t<wd.length)(h:ix bk s=ix bk t):s=t:=by
 have g:∀{x},x<wd.length->(av bk)[ix bk x]?=Z x:=λ{x} a=>by
  rw[Zu (Yb.mpr ((hM x).mpr (by rw[← H.i.len];exact a))),Xd]
 have:=g d;rw[h,g b]at this;exact(Zh this).symm
include h0
theorem Di(D:∀q∈b,vK bk wd q)(C:∀t,0<t->t<wd.length->ix bk t∈b.map (·.1)):∀(k t:Nat)(u:Tx)(F:Nat)(a:Ve),(W wd t).length<=k->t<wd.length->k<F->u.length+k<=1000->∃l,dN (e2 NF (aa 1) (Q3 0)) lR F [pc (Kk (tabOf bk)),Q0 (ix bk t:Int),pc (.dct 0 (bT b)),Q2 u,a]=Z (.nx [pc (Kk (tabOf bk)),Q0 0,pc (.dct 0 (bT b)),Q2 (W wd t++u),l]):=by
 have cd:∀(t:Nat)(u:Tx)(a:Ve),e2 NF (aa 1) (Q3 0) [pc (Kk (tabOf bk)),Q0 (ix bk t:Int),pc (.dct 0 (bT b)),Q2 u,a]=Z (.fr,.bl (!decide (ix bk t=0))):=λt u a=>e2v Y Y (zZ Y Y (qJ _ _));intro k
 induction k with
 |zero =>
  intro t u F a h f r _;obtain⟨F,rfl⟩:∃j,F=j+1:=⟨F-1,by lia⟩
  have o:=Y8.mp (Nat.le_zero.mp h);have d:t=0:=by
   have:=H.i.top f;rw[o,H.i.z]at this;exact(Zh this).symm
  subst d;have c:=cd 0 u a;rw[show ix bk 0=0 from h0]at c ⊢;exact⟨a,by rw[o];exact eU c⟩
 |succ k s =>
  intro t u F a h f r M;obtain⟨F,rfl⟩:∃j,F=j+1:=⟨F-1,by lia⟩
  by_cases d:t=0
  ·subst d;have c:=cd 0 u a;rw[show ix bk 0=0 from h0]at c ⊢;exact⟨a,by rw[H.i.wz];exact eU c⟩
  ·obtain⟨⟨i,c⟩,e1,E⟩:=JU b (ix bk t) (C t (YW d) f);obtain⟨G,p,A,x,w,v,g⟩:=D _ E;cases AB H hM f w A;cases (x);have g:=g;have n:=congrArg List.length g;rw[Zq,ZG]at n;obtain⟨l,e⟩:=s p ([c]++u) F (pc (vB (ix bk p,c))) (by lia) v (by exact Xe r) (by rw[Zq,ZG];lia);refine⟨l,(lV ((cd t u a).trans (by rw[ZN λz=>d (AB H hM f (H.i.lt H.i.z) (z.trans h0.symm))];rfl)) (sq (aE (m:=.fr) (e2v (y:=(.fr,.int (ix bk t:Int))) Y Y ?_) (by decide) (by show 4<5;decide)) (sq (aE (Fq Y Y (by show 1+_<=_;lia)) (by decide) (by show 3<5;decide)) (aE (m:=.fr) Y (by decide) (by show 1<5;decide))))).trans (e.trans (by rw[g,ZI]))⟩;show (if J=J then (dn (bT b) _).map (sub .pu) else L)=_;rw[Zp Y,e1];rfl
include hN hl hm L3
theorem zt(a:t<wd.length):b7 [Kk (tabOf bk),.int (ix bk t:Int)]=Z (.fr,.str (W wd t)):=by
 have j:t<(aP bk).lg.length:=by rw[← H.i.len];exact a
 obtain⟨b,e,g,f⟩:=zO H hM hN hl hm λt h=>(L3 t h).1;obtain⟨l,d⟩:=Di H hM h0 g f 120 t [] vw L (L3 t a).2 a (by decide) (by decide);rw[ZS]at d;exact dJ Y (sq (by
  show (((aW aO _ _).map _).map _)=_;rw[bf (xv (x:=(.pu,Kk (tabOf bk))) Y (xv (r:=aj) (x:=(.fr,.int (ix bk t:Int))) Y Y)) (show aO [Kk (tabOf bk),.int (ix bk t:Int)]=Z (.fr,.non) from EH (by rw[Zt];exact Es hM j))];rfl) (sq (aE (bf (xv (x:=(.pu,Kk (tabOf bk))) Y Y) e) (by decide) (by show 2<5;decide)) (sq Y (sq d Y))))
end
abbrev gT(G:List (List Pl)):T:=.lst (G.map λl=>T.lst (l.map tP))
noncomputable def MM(G:List (List Pl))(i:Nat)(p:Pl):List (List Pl):=G.set i (G.getD i []++[p])
abbrev Ou(B:T)(g:T)(G:List (List Pl))(f e d b a:Ve):Env:=[pc B,pc g,oc (gT G),f,e,d,b,a]
def JL{B:T}{G:List (List Pl)}{n e:Nat}(f:i<G.length)(g:(G.getD i []).length<16777216)(d b:Ve):gz (Ou B a G (Q0 (n:Int)) d (Q0 (e:Int)) b (Q0 (i:Int)))=Z (.nx (Ou B a (MM G i (n,e)) (Q0 (n:Int)) d (Q0 (e:Int)) b (Q0 (i:Int)))):=by
 have h:tm 2 (aa 7) (ab (gk (ab (aa 3) (ab (aa 5) aj))) aj) (Ou B a G (Q0 (n:Int)) d (Q0 (e:Int)) b (Q0 (i:Int)))=Z ((.fr,.non),Ou B a (MM G i (n,e)) (Q0 (n:Int)) d (Q0 (e:Int)) b (Q0 (i:Int))):=by
  show ((KU (G.map λl=>T.lst (l.map tP)).length (i:Int)).bind _)=_;rw[Zt,zS f,Zr,Zd,Zu f];show ((aJ (.lst (G[i].map tP)) [(.fr,tP (n,e))]).map _)=_;have hg:G.getD i []=G[i]:=by rw[Zs,Zu f];rfl
  rw[hg]at g;rw[dq (by rw[Zt];exact g)];show Z ((Md.fr,T.non),[pc B,pc a,oc (.lst ((G.map λl=>T.lst (l.map tP)).set i (.lst (G[i].map tP++[tP (n,e)])))),_,_,_,_,_])=_;unfold MM;rw[hg,show T.lst (G[i].map tP++[tP (n,e)])=(λl:List Pl=>T.lst (l.map tP)) (G[i]++[(n,e)]) from by simp,← Vo]
 show (tm 2 (aa 7) (ab (gk (ab (aa 3) (ab (aa 5) aj))) aj) _).map _=_;rw[h];rfl
def uo{G:List (List Pl)}(p:Pl)(a:i<G.length)(k:Nat):(MM G i p).getD k []=G.getD k []++if k=i then [p] else []:=by
 unfold MM;rw[Zs];by_cases h:k=i
 ·subst h;rw[YG a,Zp Y];rfl
 ·rw[Yr (Yy h),Zn h,ZS,← Zs]
section
variable{B:T}
def pb1{n e:Nat}(h g:Ve):∀(a:Vh)(G:List (List Pl))(d:Ve),a.Nodup->(∀i∈a,i<G.length/\(G.getD i []).length<100000)->∃b l,forL (aG 7) gz (a.map λ(i:Nat)=>T.int (i:Int)) (Ou B tb G (Q0 (n:Int)) h (Q0 (e:Int)) g d)=Z (.nx (Ou B tb b (Q0 (n:Int)) h (Q0 (e:Int)) g l))/\b.length=G.length/\∀k,b.getD k []=G.getD k []++if k∈a then [(n,e)] else []:=by
 intro a
 induction a with
 |nil=>exact λG d _ _=>⟨G,d,rfl,rfl,λk=>by simp⟩
 |cons i a t =>
  intro G d nd p;obtain⟨r,s⟩:=Zb.mp nd;obtain⟨q,v⟩:=p i Zx;obtain⟨b,l,e1,u,e3⟩:=t (MM G i (n,e)) (Q0 (i:Int)) s (λj o=>⟨by unfold MM;rw[Yo];exact(p j (Zy _ o)).1,by
   rw[uo _ q,Zn (λz=>r (by rw[← z];exact o)),ZS];exact(p j (Zy _ o)).2⟩)
  refine⟨b,l,(cw Y (JL q (by lia) h g)).trans e1,u.trans (by unfold MM;rw[Yo]),λk=>?_⟩;rw[e3,uo _ q,ZI];congr 1;by_cases m:k=i
  ·subst m;rw[Zp Y,Zn r,Zp Zx];rfl
  ·rw[Zn m,YK];by_cases f:k∈a
   ·rw[Zp f,Zp (Zy _ f)]
   ·rw[Zn f,Zn (λz=>(Zo.mp z).elim m f)]
def xg{l:Vh}{a b:Nat}(h:a∈l)(f:b∈l)(e:l.idxOf a=l.idxOf b):a=b:=by
 have g:∀{x},x∈l->l[l.idxOf x]?=Z x:=λ{x} d=>by rw[Zu (Yb.mpr d),Xd]
 have:=g h;rw[e,g f]at this;exact(Zh this).symm
end
section
variable{bk:List Tx}{nd:Wd->Option Nat}{wd:List Wd}(H:K (Hd bk) (aP bk) nd wd)(hM:∀x,x∈av bk↔x<(aP bk).lg.length)(hN:(av bk).Nodup)(h0:(av bk).idxOf 0=0)(hw:∀m,m<wd.length->(W wd m).length<=1000)
def wN(a:List Tx)(b:List Wd)(k:Nat):Tx:=sw (aP a) b ((av a).getD k 0)
include H hM hN hw
theorem HE(f:nd p=Z m)(t:Hd bk p):((L5 (aP bk) 1000 m).map (ix bk)).Nodup/\(∀i∈(L5 (aP bk) 1000 m).map (ix bk),i<(av bk).length)/\∀k,k<(av bk).length->(k∈(L5 (aP bk) 1000 m).map (ix bk)↔wN bk wd k <:+ p):=by
 obtain⟨n,v⟩:=wx H 1000 m (H.i.lt f) (hw m (H.i.lt f));have d:∀{j},j<wd.length->j∈av bk:=λh=>(hM _).mpr (by rw[← H.i.len];exact h);refine⟨List.Pairwise.map (ix bk) (R:=λa b=>a∈av bk/\b∈av bk/\a≠b) (λa b h e=>h.2.2 (xg h.1 h.2.1 e)) (v.imp_of_mem λ{a b} u hb q=>⟨d ((n a).mp u).1,d ((n b).mp hb).1,q⟩),λi s=>?_,λk g=>?_⟩
 ·obtain⟨j,l,rfl⟩:=ZV.mp s;exact Yb.mpr (d ((n j).mp l).1)
 ·have o:ix bk ((av bk).getD k 0)=k:=by
   rw[Zs,Zu g];exact A9 hN g
  have l:(av bk).getD k 0<wd.length:=by
   rw[H.i.len];refine(hM _).mp ?_;rw[Zs,Zu g];exact ZC g
  rw[show wN bk wd k <:+ p↔(av bk).getD k 0∈L5 (aP bk) 1000 m from(CG H (hw m (H.i.lt f)) f t (H.i.NY l)).symm];constructor
  ·intro h;obtain⟨j,r,e⟩:=ZV.mp h;have:=xg (d ((n j).mp r).1) (d l) (e.trans o.symm);rw[← this];exact r
  ·exact λh=>ZV.mpr ⟨_,h,o⟩
include h0
def plR(r:List Tx)(n:Nat)(w:Tx):List Pl:=(r.zipIdx n).flatMap λp=>(N0 w p.1).map λe=>(p.2,e)
theorem pb2(t:Tx)(n:Nat)(F:t∈bk)(j:Ve):∀(k e:Nat)(G:List (List Pl))(g f a:Ve),e+k=t.length+1->G.length=(av bk).length->(∀i,(G.getD i []).length+k<100000)->∃d p o l,forL (iD [aG 5,aG 6]) jW (fQ e (((wl bk nd t).drop e).map λ(n:Nat)=>T.int (n:Int))) (Ou (.lst (bk.map .str)) (Kk (tabOf bk)) G (Q0 (n:Int)) j g f a)=Z (.nx (Ou (.lst (bk.map .str)) (Kk (tabOf bk)) d (Q0 (n:Int)) j p o l))/\d.length=G.length/\∀i,i<(av bk).length->d.getD i []=G.getD i []++((List.range' e k).filter λe=>(wN bk wd i).isSuffixOf (t.take e)).map λe=>(n,e):=by
 have S:(wl bk nd t).length=t.length+1:=by unfold wl;rw[Zt,ZT]
 intro k
 induction k with
 |zero =>
  intro e G g f a M u s;rw[Wx (by omega)];exact⟨G,g,f,a,rfl,rfl,λi _=>by simp⟩
 |succ k E =>
  intro e G g f a M u s;have w:Hd bk (t.take e):=.inr ⟨t,F,WQ _ _⟩;obtain⟨m,h⟩:=(H.some (t.take e)).mpr ⟨_,w,Z4 _⟩;obtain⟨P,O,A⟩:=HE H hM hN hw h w;have hd:(wl bk nd t).drop e=ix bk m :: (wl bk nd t).drop (e+1):=by
   rw[YC (by omega)];congr 1;unfold wl;rw[List.getElem_map,List.getElem_range,rP h]
  obtain⟨R,l,e1,v,y⟩:=pb1 j (Q0 (ix bk m:Int)) ((L5 (aP bk) 1000 m).map (ix bk)) G a P λi b=>⟨by rw[u];exact O i b,by have:=s i;omega⟩
  obtain⟨d,p,o,C,Q,D,N⟩:=E (e+1) R (Q0 (e:Int)) (Q0 (ix bk m:Int)) l (by omega) (v.trans u) λi=>by
   have:=s i;rw[y,Zq];split
   ·show _+1+k<_;omega
   ·show _+0+k<_;omega
  refine⟨d,p,o,C,?_,D.trans v,λi b=>?_⟩
  ·rw[hd];exact(cw Y ((bH (m:=.fr) (dE (bf (xv (x:=(.pu,Kk (tabOf bk))) Y (xv (r:=aj) (x:=(.fr,.int (ix bk m:Int))) Y Y)) (CO H hM (H.i.lt h) (hw m (H.i.lt h))))) Y).trans e1)).trans Q
  ·rw[N i b,y,ZI,Wk,List.filter_cons];congr 1;by_cases q:wN bk wd i <:+ t.take e
   ·rw[Zp ((A i b).mpr q),Zp (YV.mpr q)];rfl
   ·rw[Zn (λz=>q ((A i b).mp z)),Zn (λz=>q (YV.mp z))];rfl
theorem pb3(hb:∀t∈bk,t.length<=120/\Az t):∀(r:List Tx)(n:Nat)(G:List (List Pl))(j h d b a:Ve),(∀t∈r,t∈bk)->G.length=(av bk).length->(∀i,(G.getD i []).length+121*r.length<90000)->∃f F E w u s,forL (iD [aG 3,aG 4]) js ((r.zipIdx n).map λp=>T.tup [.int p.2,.str p.1]) (Ou (.lst (bk.map .str)) (Kk (tabOf bk)) G j h d b a)=Z (.nx (Ou (.lst (bk.map .str)) (Kk (tabOf bk)) f F E w u s))/\f.length=G.length/\∀i,i<(av bk).length->f.getD i []=G.getD i []++plR r n (wN bk wd i):=by
 intro r
 induction r with
 |nil=>exact λn G j h d b a _ _ _=>⟨G,j,h,d,b,a,rfl,rfl,λi _=>(ZS _).symm⟩
 |cons t r ih =>
  intro n G j h d b a A C o;have y:=A t Zx;obtain⟨R,tz⟩:=hb t y;simp only[Zi]at o;obtain⟨G1,w,u,s,e1,z,D⟩:=pb2 H hM hN h0 hw t n y (Q2 t) (t.length+1) 0 G d b a (by exact Vp _ _) C λi=>by have:=o i;lia
  have S:=Yi.mpr ((H.some t).mpr ⟨t,.inr ⟨t,y,List.prefix_refl _⟩,Z4 _⟩);have X:∀i,((((List.range' 0 (t.length+1)).filter λe=>(wN bk wd i).isSuffixOf (t.take e)).map λe=>((n,e):Pl))).length<=121:=λi=>by
   rw[Zt];exact ZJ (Y0 _ _) (by rw[Y2];exact Xj R)
  obtain⟨f,Q,P,O,N,M,Kz,l2,g2⟩:=ih (n+1) G1 (Q0 (n:Int)) (Q2 t) w u s (λv hv=>A v (Zy _ hv)) (z.trans C) (λi=>by
   by_cases q:i<(av bk).length
   ·rw[D i q,Zq];have:=o i;have:=X i;lia
   ·rw[Zs,ZF (by lia)];have:=o i;show 0+_<_;lia)
  refine⟨f,Q,P,O,N,M,?_,l2.trans z,λi q=>?_⟩
  ·rw[Wm,Zg];exact(cw Y ((bH (m:=.fr) (l:=fQ 0 ((wl bk nd t).map λ(n:Nat)=>T.int (n:Int))) (by
   have:=bf (g:=oP) (as:=ab (aa 1) (ab (aa 4) aj)) (U:=Ou (.lst (bk.map .str)) (Kk (tabOf bk)) G (Q0 (n:Int)) (Q2 t) d b a) (xv (x:=(.pu,Kk (tabOf bk))) Y (xv (r:=aj) (x:=(.fr,.str t)) Y Y)) (EZ H hM h0 S tz (by lia));show (aW _ _ _).bind _=_;rw[this];rfl) Y).trans e1)).trans Kz
  ·rw[g2 i q,D i q,ZI];unfold plR;rw[Wm,WU];unfold N0;rw[W0]
theorem sU(e:∀t∈bk,t.length<=120/\Az t)(r:bk.length<=8)(q:(av bk).length<=1000):∃G:List (List Pl),ic [.lst (bk.map .str),Kk (tabOf bk)]=Z (.fr,gT G)/\G.length=(av bk).length/\∀i,i<(av bk).length->G.getD i []=KR bk (wN bk wd i):=by
 have a:∀i,((List.replicate (av bk).length ([]:List Pl)).getD i [])=[]:=λi=>by
  rw[Zs,YY];split<;>rfl
 obtain⟨G,p,o,n,j,g,e1,b,f⟩:=pb3 H hM hN h0 hw e bk 0 (List.replicate (av bk).length []) L L L L L (λ_ h=>h) YQ λi=>by
  rw[a i];show 0+_<_;lia
 refine⟨G,?_,b.trans YQ,λi d=>by rw[f i d,a i];rfl⟩;exact dJ Y (sq (by
  have c:=cF (k:=1) (tg:=aG 0) (it:=cA (aa 1)) (elt:=fg aj) (U:=[pc (.lst (bk.map .str)),pc (Kk (tabOf bk)),L,L,L,L,L,L]) (m:=.pu) (λm=>iE (row (aP bk) (av bk) m)) (λ_=>T.lst []) (av bk) (by
    show Z (Md.pu,(tabOf bk).map iE)=_;unfold tabOf tab;rw[ZD];rfl) Y (by lia) λm _=>⟨_,rfl,rfl⟩
  refine(rS c Y (by show 2<8;decide)).trans ?_;rw[show (av bk).map (λ_=>T.lst [])=(List.replicate (av bk).length ([]:List Pl)).map λl=>T.lst (l.map tP) from by rw[List.map_const',List.map_replicate];rfl];rfl) (sq ((bH (by rw[← enum_zip];rfl) Y).trans e1) Y))
end
noncomputable abbrev zT(l:Vg):T:=.lst (l.map .int)
def OP(l:List Pl):Vg:=fG (jo (l.map λp=>(p.1:Int)))
def xO(l:List Pl)(i:Int):i∈OP l ↔ ∃p∈l,(p.1:Int)=i:=by
 unfold OP;rw[(eV _).mem_iff,jE,ZV]
theorem qW:∀(N:Nat)(l:Vg),l.Nodup->(∀x∈l,0<=x/\x<(N:Int))->l.length<=N
 |0,l,_,h=>by
  cases l with
  |nil=>exact Zk _
  |cons a l=>have:=h a Zx;lia
 |N+1,l,nd,h=>by
  have e:=qW N (l.erase (N:Int)) (nd.erase _) λx b=>by
   have q:=(nd.mem_erase_iff).mp b;have:=h x q.2;have:=q.1;lia
  have:=List.length_erase (a:=(N:Int)) (l:=l);split at this<;>lia
def wM{N:Nat}(h:∀x∈l,0<=x/\x<(N:Int)):(jo l).length<=N:=qW N _ (kX l) λx a=>h x ((jE l x).mp a)
def sset{a:Ex}{N:Nat}(d:a U=Z (m,zT l))(b:l.length+1<4096)(h:∀x∈l,0<=x/\x<(N:Int))(e:N<64):eN iR (ab a aj) U=Z (.fr,zT (fG (jo l))):=jm (xv d Y) (by
 show (jh (l.map T.int)).bind _=_;rw[ints_map (λx:Int=>x),List.map_id'];show (if l.length+1<4096/\(jo l).length<64 then _ else _)=_;rw[Zp ⟨b,WZ (wM h) e⟩])
def v9(l:List Pl)(d:l.length+1<4096)(h:∀p∈l,p.1<8):iV [.lst (l.map tP)]=Z (.fr,zT (OP l)):=by
 have c:bD 1 (aG 0) (cA (aa 0)) L (e2 aC (aa 0) (Q3 0)) [pc (.lst (l.map tP))]=Z (.fr,zT (l.map λp=>(p.1:Int))):=by
  have:=cF (k:=1) (tg:=aG 0) (it:=cA (aa 0)) (elt:=e2 aC (aa 0) (Q3 0)) (U:=[pc (.lst (l.map tP))]) tP (λp=>T.int (p.1:Int)) l (dE Y) Y (by lia) λp _=>⟨_,rfl,rfl⟩
  rw[this];unfold zT;rw[ZD];rfl
 exact dJ Y (fF (sset c (by rw[Zt];exact d) (λx a=>by
  obtain⟨p,b,rfl⟩:=ZV.mp a;have:=h p b;lia) (N:=8) (by decide)))
def EI{x:Int}:kD (m,.int x) (n,zT l)=Z (.fr,.bl (decide (x∈l))):=by
 show (if (J&&(l.map T.int).all flat)=J then Z (Md.fr,T.bl ((l.map T.int).any λy=>eqT y (.int x))) else L)=_;have b:(l.map T.int).all flat=J:=by
  rw[Xn];exact Za.mpr λ_ _=>rfl
 rw[b,Bool.true_and,Zp Y,List.any_map];congr 3;rw[Xq,Xg,decide_eq_true_iff];constructor
 ·rintro⟨y,a,e⟩;have:y=x:=by simpa[eqT] using e
  exact this ▸ a
 ·exact λh=>⟨x,h,by simp[eqT]⟩
def wb(l a:Vg)(hw:a.length<=1000):g9 [zT l,zT a]=Z (.fr,.bl (a.all λn=>decide (n∈l))):=by
 have c:=cF (k:=1) (tg:=aG 0) (it:=cA (aa 1)) (elt:=e2 kD (aa 0) (aa 1)) (U:=[pc (zT l),pc (zT a)]) T.int (λn=>T.bl (decide (n∈l))) a (dE Y) Y (by lia) λn _=>⟨_,rfl,e2v Y Y EI⟩
 refine dJ Y (fF (jm (xv c Y) ?_));show (mL _).bind _=_;rw[qB (λn:Int=>decide (n∈l))];show Z (Md.fr,T.bl ((a.map λn=>decide (n∈l)).all id))=_;rw[Xn];rfl
section
variable{bk:List Tx}{nd:Wd->Option Nat}{wd:List Wd}(H:K (Hd bk) (aP bk) nd wd)(hM:∀x,x∈av bk↔x<(aP bk).lg.length)(hN:(av bk).Nodup)(h0:(av bk).idxOf 0=0)(hl:wd.length<=241)(hm:(av bk).length=wd.length)(L3:∀t,t<wd.length->Az (W wd t)/\(W wd t).length<=120)
def sQ(g:∀t∈bk,t.length<=120)(i:bk.length<=8)(w:Tx):(KR bk w).length+1<4096/\∀p∈KR bk w,p.1<8:=by
 refine⟨?_,λp b=>?_⟩
 ·have key:∀(l:List (Tx×Nat)),(∀p∈l,p.1.length<=120)->(l.flatMap λp=>(N0 w p.1).map λe=>(p.2,e)).length<=121*l.length:=λl=>by
   induction l with
   |nil=>intro _;exact Zk _
   |cons a l d =>
    intro h;rw[WU,Zq,Zt,Zi];have n:=d λp b=>h p (Zy _ b);have m:(N0 w a.1).length<=a.1.length+1:=by
     exact ZJ (Y0 _ _) (by rw[ZT];exact Zk _)
    have j:=h a Zx;lia
  have:=key (bk.zipIdx 0) λp b=>g _ (List.fst_mem_of_mem_zipIdx b);rw[List.length_zipIdx]at this;unfold KR;lia
 ·obtain⟨t,f,_⟩:=kc.mp b;have:=(Ze.mp f).1;exact ZU this i
include H hM hN h0 hl hm L3
theorem vH(d:∀t∈bk,t.length<=120/\Az t)(e:bk.length<=8):gM [.lst (bk.map .str),Kk (tabOf bk)]=Z (.fr,.lst ((List.range (av bk).length).map λk=>zT (OP (KR bk (wN bk wd k))))):=by
 obtain⟨G,e1,l,g⟩:=sU H hM hN h0 (λm h=>by have:=(L3 m h).2;lia) d e (by lia);have j:G=(List.range (av bk).length).map λk=>KR bk (wN bk wd k):=by
  apply Wy;intro i;by_cases b:i<(av bk).length
  ·have:=g i b;rw[Zs,Zu (by lia)]at this;rw[Zu (by lia),Zd,Wf b];exact congrArg Z this
  ·rw[ZF (by lia),ZF (by rw[Zt,ZT];exact ZO b)]
 have f:gT G=.lst ((List.range (av bk).length).map λk=>T.lst ((KR bk (wN bk wd k)).map tP)):=by
  unfold gT;rw[j,ZD];rfl
 rw[f]at e1;refine dJ Y (fF (cF (λk=>T.lst ((KR bk (wN bk wd k)).map tP)) _ _ (dE (bf (xv Y (xv Y Y)) e1)) Y (by rw[ZT];lia) λk _=>⟨_,rfl,bf (xv Y Y) (v9 _ (sQ (λt a=>(d t a).1) e _).1 (sQ (λt a=>(d t a).1) e _).2)⟩))
end
def wL(b:List Tx)(a:List Wd)(k:Nat):Tx:=W a ((av b).getD k 0)
def EX{a b:Tx}(h:a<b):¬b<a:=λq=>X9 a (List.lt_trans h q)
theorem zI(f:Int->Tx):∀(r:Vg)(c:Int),(OV f c r=c\/OV f c r∈r)/\∀j,(j=c\/j∈r)->¬f j<f (OV f c r)
 |[],c=>⟨.inl Y,λj h=>by
   rcases h with rfl | h
   ·exact X9 _
   ·cases h⟩
 |i :: r,c=>by
  have e:OV f c (i :: r)=OV f (if LX (f i) (f c) then i else c) r:=rfl;obtain⟨m,b⟩:=zI f r (if LX (f i) (f c) then i else c);rw[e];have hd:∀d,¬f d<f (if LX (f i) (f c) then i else c)->¬f d<f (OV f (if LX (f i) (f c) then i else c) r):=λd hd q=>hd (Cm q (b _ (.inl Y)));have g:¬f i<f (if LX (f i) (f c) then i else c):=by
   rw[iB];by_cases q:f i<f c
   ·rw[Zp (ZR q)];exact X9 _
   ·rw[Zn (by simpa using q)];exact q
  have l:¬f c<f (if LX (f i) (f c) then i else c):=by
   rw[iB];by_cases q:f i<f c
   ·rw[Zp (ZR q)];exact EX q
   ·rw[Zn (by simpa using q)];exact X9 _
  refine⟨?_,λj a=>?_⟩
  ·rcases m with h | h
   ·rw[h];split
    ·exact .inr Zx
    ·exact .inl Y
   ·exact .inr (Zy _ h)
  ·rcases a with rfl | a
   ·exact hd _ l
   ·rcases Zo.mp a with rfl | a
    ·exact hd _ g
    ·exact b j (.inr a)
def DL{i j:Int}(e:a U=Z (m,.int i))(d:b U=Z (n,.int j)):e2 oEq a b U=Z (.fr,.bl (decide (i=j))):=e2v e d (nc Y Y (by
 simp only[eqT];rw[Xq,beq_iff_eq,decide_eq_true_iff]))
section
variable{bk:List Tx}{nd:Wd->Option Nat}{wd:List Wd}(H:K (Hd bk) (aP bk) nd wd)(hM:∀x,x∈av bk↔x<(aP bk).lg.length)(hN:(av bk).Nodup)(h0:(av bk).idxOf 0=0)(hl:wd.length<=241)(hm:(av bk).length=wd.length)(L3:∀t,t<wd.length->Az (W wd t)/\(W wd t).length<=120)
include H hM hN h0 hl hm L3
theorem IL(a:k<(av bk).length):ix bk ((av bk).getD k 0)=k/\(av bk).getD k 0<wd.length:=by
 refine⟨?_,?_⟩
 ·rw[Zs,Zu a];exact A9 hN a
 ·rw[H.i.len];refine(hM _).mp ?_;rw[Zs,Zu a];exact ZC a
theorem IA{k:Nat}(a:k<(av bk).length):b7 [Kk (tabOf bk),.int (k:Int)]=Z (.fr,.str (wL bk wd k)):=by
 obtain⟨d,b⟩:=IL H hM hN h0 hl hm L3 a;have:=zt H hM hN h0 hl hm L3 b;rw[d]at this;exact this
theorem cell(e:k<(av bk).length){n:Md}(g:a U=Z (.pu,Kk (tabOf bk)))(f:b U=Z (n,.int (k:Int))):e2 aC (e2 aC a b) (Q3 1) U=Z (.fr,.int ((wL bk wd k).length:Int)):=by
 obtain⟨h,d⟩:=IL H hM hN h0 hl hm L3 e;refine e2v (sE hM (by rw[← H.i.len];exact d) g (by rw[h];exact f)) Y ?_;unfold wL;rw[← Bs H hM d];rfl
theorem IX(p:∀k∈a,k<(av bk).length)(y:a≠[])(O:a.length<=1000):∃k∈a,bR [Kk (tabOf bk),Ke a]=Z (.fr,.int (k:Int))/\(∀j∈a,(wL bk wd j).length<=(wL bk wd k).length)/\∀j∈a,(wL bk wd j).length=(wL bk wd k).length->¬wL bk wd j<wL bk wd k:=by
 have D:=cF (k:=1) (tg:=aG 0) (it:=cA (aa 1)) (elt:=e2 aC (e2 aC (aa 1) (aa 0)) (Q3 1)) (U:=[pc (Kk (tabOf bk)),pc (Ke a),L,L]) (λ(n:Nat)=>T.int (n:Int)) (λk=>T.int ((wL bk wd k).length:Int)) a (dE Y) Y (by lia) λk h=>⟨_,rfl,cell H hM hN h0 hl hm L3 (p k h) (n:=.fr) Y Y⟩
 obtain⟨b,x,Mq1,Mq2⟩:∃b:Int,eN uW (ab (bD 1 (aG 0) (cA (aa 1)) L (e2 aC (e2 aC (aa 1) (aa 0)) (Q3 1))) aj) [pc (Kk (tabOf bk)),pc (Ke a),L,L]=Z (.fr,.int b)/\(∃k∈a,((wL bk wd k).length:Int)=b)/\∀k∈a,((wL bk wd k).length:Int)<=b:=by
  cases a with
  |nil=>exact absurd Y y
  |cons o s =>
   obtain⟨⟨G,F⟩,E⟩:=L2.rN (s.map λk=>((wL bk wd k).length:Int)) ((wL bk wd o).length:Int);refine⟨L2.lB ((wL bk wd o).length:Int) (s.map λk=>((wL bk wd k).length:Int)),jm (xv D Y) ?_,?_,λk h=>?_⟩
   ·show (jh _).bind _=_;rw[ints_map (λk:Nat=>((wL bk wd k).length:Int))];rfl
   ·rcases E with q | q
    ·exact⟨o,Zx,q.symm⟩
    ·obtain⟨k,d,l⟩:=ZV.mp q;exact⟨k,Zy _ d,l⟩
   ·rcases Zo.mp h with rfl | h
    ·exact G
    ·exact F _ (ZV.mpr ⟨k,h,rfl⟩)
 have t:=eX (k:=1) (tg:=aG 0) (it:=cA (aa 1)) (c:=e2 oEq (e2 aC (e2 aC (aa 1) (aa 0)) (Q3 1)) (aa 3)) (elt:=aa 0) (U:=[pc (Kk (tabOf bk)),pc (Ke a),Q0 b,L]) (λ(n:Nat)=>T.int (n:Int)) (λk=>decide (((wL bk wd k).length:Int)=b)) (λ(n:Nat)=>T.int (n:Int)) a (dE Y) Y (by lia) λk h=>⟨_,_,rfl,DL (cell H hM hN h0 hl hm L3 (p k h) Y Y) Y,rfl,λ_=>rfl⟩
 have g:∀k,k∈a.filter (λk=>decide (((wL bk wd k).length:Int)=b))↔k∈a/\((wL bk wd k).length:Int)=b:=λk=>by rw[Yp,decide_eq_true_iff]
 generalize N:a.filter (λk=>decide (((wL bk wd k).length:Int)=b))=fs at t g;have m:∀k∈fs,nN (aW b7 (ab (aa 1) (ab (aa 0) aj))) [pc (Kk (tabOf bk)),pc (Ke a),Q0 b,pc (Ke fs)] (k:Int)=Z (wL bk wd k):=λk h=>by
  unfold nN;rw[bf (xv Y (xv Y Y)) (IA H hM hN h0 hl hm L3 (p k ((g k).mp h).1))];rfl
 cases fs with
 |nil =>
  obtain⟨k,d,l⟩:=Mq1;exact absurd ((g k).mpr ⟨d,l⟩) (by simp)
 |cons f fr =>
  obtain⟨v,u⟩:=zI (λi=>(nN (aW b7 (ab (aa 1) (ab (aa 0) aj))) [pc (Kk (tabOf bk)),pc (Ke a),Q0 b,pc (Ke (f :: fr))] i).getD []) (fr.map λ(n:Nat)=>(n:Int)) (f:Int);have mk:As (aa 3) (aW b7 (ab (aa 1) (ab (aa 0) aj))) [pc (Kk (tabOf bk)),pc (Ke a),Q0 b,pc (Ke (f :: fr))]=Z (.fr,.int (OV (λi=>(nN (aW b7 (ab (aa 1) (ab (aa 0) aj))) [pc (Kk (tabOf bk)),pc (Ke a),Q0 b,pc (Ke (f :: fr))] i).getD []) (f:Int) (fr.map λ(n:Nat)=>(n:Int)))):=by
   show (jh ((f :: fr).map λ(n:Nat)=>T.int (n:Int))).bind _=_;rw[ints_map (λn:Nat=>(n:Int))];show (if _ then _ else _)=_;rw[Zp];refine Za.mpr λi A=>?_;obtain⟨k,d,rfl⟩:=ZV.mp (show i∈(f :: fr).map λ(n:Nat)=>(n:Int) from A);rw[m k d];rfl
  generalize M:OV (λi=>(nN (aW b7 (ab (aa 1) (ab (aa 0) aj))) [pc (Kk (tabOf bk)),pc (Ke a),Q0 b,pc (Ke (f :: fr))] i).getD []) (f:Int) (fr.map λ(n:Nat)=>(n:Int))=z at v u mk;obtain⟨k,d,rfl⟩:∃k∈f :: fr,z=(k:Int):=by
   rcases v with h | h
   ·exact⟨f,Zx,h⟩
   ·obtain⟨k,d,l⟩:=ZV.mp h;exact⟨k,Zy _ d,l.symm⟩
  have C:=((g k).mp d).2;refine⟨k,((g k).mp d).1,dJ Y (sq (aE x (by decide) (by show 2<4;decide)) (sq (aE t (by decide) (by show 3<4;decide)) (fF mk))),λj r=>?_,λj r e=>?_⟩
  ·have:=Mq2 j r;lia
  ·have w:=(g j).mpr ⟨r,by lia⟩;have:=u (j:Int) (by
    rcases Zo.mp w with rfl | h
    ·exact .inl Y
    ·exact .inr (ZV.mpr ⟨j,h,rfl⟩))
   rw[m j w,m k d]at this;exact this
end
def HD{l:Vb}(a:i<l.length):cB [.lst l,.int (i:Int)]=Z (.fr,.non):=by
 refine Em (U:=[pc (.lst l),Q0 (i:Int)]) Y ?_;refine(p8 (m:=.fr) (Al (m:=.fr) (x:=B) ?_ (λ_=>?_) (λh=>by cases h))).trans rfl
 ·exact oF (b:=J) Y
 ·refine oF (m:=.fr) (b:=J) (n8 Y Y ?_ (jm (xv Y Y) Y) ?_)
  ·show Z (Md.fr,T.bl (decide ((0:Int)<=(i:Int))))=_;rw[ZR (by lia)]
  ·show Z (Md.fr,T.bl (decide ((i:Int)<(l.length:Int))))=_;rw[ZR (by lia)]
theorem wq(g:Nat->T):∀(n k:Nat),fQ k ((List.range' k n).map g)=(List.range' k n).map λ(j:Nat)=>T.tup [.int (j:Int),g j]
 |0,k=>rfl
 |n+1,k=>by
  rw[Wk,Zg,Zg];show T.tup [.int (k:Int),g k] :: fQ (k+1) _=_;rw[wq g n (k+1)]
def uP(t w:Tx):eI [.str t,.str w]=Z (.fr,.int (iQ t w+(w.length:Int))):=dJ Y (fF (e2v Y Y Y))
def Holds(b:List Tx)(a:Vh)(w:Tx):Prop:=∀n∈a,∃p∈KR b w,p.1=n
def lL(b:List Tx)(a:Vh)(w:Tx):T:=.tup [.str w,.lst (a.map λn=>T.int (iQ (b.getD n []) w+(w.length:Int)))]
section
variable{bk:List Tx}{nd:Wd->Option Nat}{wd:List Wd}(H:K (Hd bk) (aP bk) nd wd)(hM:∀x,x∈av bk↔x<(aP bk).lg.length)(hN:(av bk).Nodup)(h0:(av bk).idxOf 0=0)(hl:wd.length<=241)(hm:(av bk).length=wd.length)(L3:∀t,t<wd.length->Az (W wd t)/\(W wd t).length<=120)
include H hM hN h0 hl hm L3
theorem zw(C:gC [.lst (bk.map .str)]=Z (.fr,Kk (tabOf bk)))(E:∀t∈bk,t.length<=120/\Az t)(G:bk.length<=8)(l:∀n∈b,n<bk.length)(R:b.length<=100)(D:∃k,k<(av bk).length/\Holds bk b (wN bk wd k)) :
  ∃k,k<(av bk).length/\Holds bk b (wN bk wd k)/\hU [.lst (bk.map .str),Ke b]=Z (.fr,lL bk b (wL bk wd k))/\∀j,j<(av bk).length->Holds bk b (wN bk wd j)->(wL bk wd j).length<=(wL bk wd k).length/\((wL bk wd j).length=(wL bk wd k).length->¬wL bk wd j<wL bk wd k):=by
 obtain⟨_,f1,_,d,rfl⟩:=iP (tg:=aG 2) (λ(n:Nat)=>T.int (n:Int)) (λr U=>(∀n∈r,n<bk.length)/\∃d,U=[pc (.lst (bk.map .str)),pc (Ke b),d,L,L,L,L]) (by
  rintro n r _ ⟨h,d,rfl⟩;refine⟨_,_,rfl,(?_:nr _=Z (.nx [pc (.lst (bk.map .str)),pc (Ke b),Q0 (n:Int),L,L,L,L])),(λm hm=>h m (Zy _ hm)),_,rfl⟩;show (((aW cB _ _).map _).map _)=_;rw[bf (xv Y (xv Y Y)) (HD (by rw[Zt];exact h n Zx))];rfl) b [pc (.lst (bk.map .str)),pc (Ke b),L,L,L,L,L] ⟨l,L,rfl⟩
 have s1:=aE (U:=[pc (.lst (bk.map .str)),pc (Ke b),d,L,L,L,L]) (bf (as:=ab (aa 0) aj) (xv Y Y) C) (by decide) (by show 3<7;decide);have s:=aE (U:=[pc (.lst (bk.map .str)),pc (Ke b),d,pc (Kk (tabOf bk)),L,L,L]) (sset (a:=aa 1) (N:=8) (by
  unfold zT Ke;rw[ZD];rfl) (by rw[Zt];lia) (λx g=>by
   obtain⟨n,e,rfl⟩:=ZV.mp g;have:=l n e;lia) (by decide)) (by decide) (by show 4<7;decide)
 generalize i:fG (jo (b.map λ(n:Nat)=>(n:Int)))=ws at s;have u:∀x,x∈ws ↔ ∃n∈b,(n:Int)=x:=λx=>by
  rw[← i,(eV _).mem_iff,jE,ZV]
 have F:∀k,(ws.all λn=>decide (n∈OP (KR bk (wN bk wd k))))=J↔Holds bk b (wN bk wd k):=λk=>by
  rw[Za];constructor
  ·intro h n e;obtain⟨p,f,o⟩:=(xO _ _).mp (of_decide_eq_true (h (n:Int) ((u _).mpr ⟨n,e,rfl⟩)));exact⟨p,f,by lia⟩
  ·intro h x g;obtain⟨n,e,rfl⟩:=(u x).mp g;obtain⟨p,f,o⟩:=h n e;exact ZR ((xO _ _).mpr ⟨p,f,by lia⟩)
 have it:oY (aW gM (ab (aa 0) (ab (aa 3) aj))) [pc (.lst (bk.map .str)),pc (Ke b),d,pc (Kk (tabOf bk)),pc (zT ws),L,L]=Z (.fr,(List.range (av bk).length).map λ(k:Nat)=>T.tup [.int (k:Int),zT (OP (KR bk (wN bk wd k)))]):=by
  show (aW _ _ _).bind _=_;rw[bf (xv Y (xv Y Y)) (vH H hM hN h0 hl hm L3 E G)];show Z (Md.fr,fQ 0 _)=_;rw[W0,wq]
 have w:=eX (k:=2) (tg:=iD [aG 0,aG 1]) (c:=aW g9 (ab (aa 1) (ab (aa 6) aj))) (elt:=aa 0) (m:=.fr) (λ(k:Nat)=>T.tup [.int (k:Int),zT (OP (KR bk (wN bk wd k)))]) (λ(k:Nat)=>ws.all λn=>decide (n∈OP (KR bk (wN bk wd k)))) (λ(k:Nat)=>T.int (k:Int)) (List.range (av bk).length) it Y (by rw[ZT];lia) λk _=>⟨_,_,rfl,bf (xv Y (xv (r:=aj) Y Y)) (wb _ ws (by
  rw[← i,(eV _).length_eq];exact ZJ (wM (N:=8) λx g=>by
   obtain⟨n,e,rfl⟩:=ZV.mp g;have:=l n e;lia) (by decide))),rfl,λ_=>rfl⟩
 generalize v:(List.range (av bk).length).filter (λ(k:Nat)=>ws.all λn=>decide (n∈OP (KR bk (wN bk wd k))))=ks at w;have mk:∀k,k∈ks↔k<(av bk).length/\Holds bk b (wN bk wd k):=λk=>by
  rw[← v,Yp,Yc,F k]
 obtain⟨k,q,P,O,M⟩:=IX H hM hN h0 hl hm L3 (λk h=>((mk k).mp h).1) (λz=>by
  obtain⟨k,h⟩:=D;have:=(mk k).mpr h;rw[z]at this;cases this) (by
  rw[← v];exact ZJ (Y0 _ _) (by rw[ZT];lia))
 refine⟨k,((mk k).mp q).1,((mk k).mp q).2,?_,λj f o=>⟨O j ((mk j).mpr ⟨f,o⟩),M j ((mk j).mpr ⟨f,o⟩)⟩⟩;have y:=aE (U:=[pc (.lst (bk.map .str)),pc (Ke b),d,pc (Kk (tabOf bk)),pc (zT ws),pc (Ke ks),L]) (bf (as:=ab (aa 3) (ab (aW bR (ab (aa 3) (ab (aa 5) aj))) aj)) (xv Y (xv (bf (xv Y (xv Y Y)) P) Y)) (IA H hM hN h0 hl hm L3 ((mk k).mp q).1)) (by decide) (by show 6<7;decide);have Q:=cF (k:=1) (tg:=aG 0) (it:=cA (aa 1)) (elt:=aW eI (ab (e2 aC (aa 1) (aa 0)) (ab (aa 7) aj))) (U:=[pc (.lst (bk.map .str)),pc (Ke b),d,pc (Kk (tabOf bk)),pc (zT ws),pc (Ke ks),Q2 (wL bk wd k)]) (λ(n:Nat)=>T.int (n:Int)) (λn=>T.int (iQ (bk.getD n []) (wL bk wd k)+((wL bk wd k).length:Int))) b (dE Y) Y (by lia) λn e=>⟨_,rfl,bf (xv (e2v Y Y (GA T.str bk (n:Int) [] (by lia) (by have:=l n e;lia) Y)) (xv Y Y)) (uP _ _)⟩
 have A:gk (ab (aa 6) (ab (bD 1 (aG 0) (cA (aa 1)) L (aW eI (ab (e2 aC (aa 1) (aa 0)) (ab (aa 7) aj)))) aj)) [pc (.lst (bk.map .str)),pc (Ke b),d,pc (Kk (tabOf bk)),pc (zT ws),pc (Ke ks),Q2 (wL bk wd k)]=Z (.fr,lL bk b (wL bk wd k)):=by
  show (ab _ _ _).bind qm=_;rw[xv (x:=(.fr,.str (wL bk wd k))) Y (xv Q Y)];show Z (up _ (.tup _))=_;unfold up;split<;>rfl
 exact dJ Y (sq ((bH (m:=.pu) Y Y).trans f1) (sq s1 (sq s (sq (aE (m:=.fr) w (by decide) (by show 5<7;decide)) (sq y (fF A))))))
end
def qA(h:∃q∈d,q.1=w):dn (dT d) (.str w)=Z (.lst ((look d w).map tP)):=by
 induction d with
 |nil=>obtain⟨q,b,_⟩:=h;cases b
 |cons a d f =>
  obtain⟨x,l⟩:=a;unfold dn at f ⊢;rw[bZ,show dT ((x,l) :: d)=(T.str x,T.lst (l.map tP)) :: dT d from rfl,Z6];by_cases e:x=w
  ·have:eqT (T.str x) (.str w)=J:=by simpa using e
   rw[this,Zp e];rfl
  ·have:eqT (T.str x) (.str w)=B:=by simpa using e
   rw[this,Zn e];refine f ?_;obtain⟨q,b,g⟩:=h;rcases Zo.mp b with rfl | b
   ·exact absurd g e
   ·exact⟨q,b,g⟩
def hb(d:Fd)(a:Vh)(w:Tx):Bool:=a.all λn=>decide ((n:Int)∈(look d w).map λp=>(p.1:Int))
def Mr(w f:Tx):Bool:=decide (f.length<w.length)||(decide (w.length=f.length)&&LX w f)
abbrev ED(d:Fd)(e:Vh)(f:Tx)(b a:Ve):Env:=[pc (.dct 3 (dT d)),pc (Ke e),Q2 f,b,a,L,L]
def Jd{x:Int}:bV (m,.int x) (n,zT l)=Z (.fr,.bl (!decide (x∈l))):=by
 unfold bV;rw[EI]
def Av{a:Ex}{U:Env}{m:Md}(h:a U=Z (m,.str w)):eN bO (ab a aj) U=Z (.fr,.int (w.length:Int)):=jm (xv h Y) Y
def du1{b:Vh}(D:b.length<=100)(hw:∃q∈d,q.1=w)(C:(look d w).length<=1000000)(o:Ve):∃u,gr (ED d b f (Q2 w) o)=Z (.nx (ED d b (if (hb d b w&&Mr w f)=J then w else f) (Q2 w) u)):=by
 have r:=cF (k:=2) (tg:=iD [aG 0,aG 1]) (it:=cA (e2 mE (aa 0) (aa 3))) (elt:=aa 0) (U:=ED d b f (Q2 w) o) tP (λp=>T.int (p.1:Int)) (look d w) (dE (e2v (x:=(.pu,.dct 3 (dT d))) (y:=(.fr,.str w)) Y Y (by
  show (if fm (.str w)=J then (dn (dT d) (.str w)).map _ else L)=_;rw[show fm (.str w)=J from rfl,Zp Y,qA hw];rfl))) Y (by lia) λp _=>⟨_,rfl,rfl⟩
 have z:T.lst ((look d w).map λp=>T.int (p.1:Int))=zT ((look d w).map λp=>(p.1:Int)):=by
  unfold zT;rw[ZD];rfl
 rw[z]at r;refine⟨pc (zT ((look d w).map λp=>(p.1:Int))),sq (aE (i:=4) (m:=.fr) r (by decide) (by show 4<7;decide)) ?_⟩;have A:=eX (k:=1) (tg:=aG 0) (it:=cA (aa 1)) (c:=e2 bV (aa 0) (aa 5)) (elt:=aa 0) (U:=ED d b f (Q2 w) (pc (zT ((look d w).map λp=>(p.1:Int))))) (λ(n:Nat)=>T.int (n:Int)) (λn=>!decide ((n:Int)∈(look d w).map λp=>(p.1:Int))) (λ(n:Nat)=>T.int (n:Int)) b (dE Y) Y (by lia) λn _=>⟨_,_,rfl,e2v Y Y Jd,rfl,λ_=>rfl⟩
 have g:e2 oEq (eN bO (ab (bD 1 (aG 0) (cA (aa 1)) (Z (e2 bV (aa 0) (aa 5))) (aa 0)) aj)) (Q3 0) (ED d b f (Q2 w) (pc (zT ((look d w).map λp=>(p.1:Int)))))=Z (.fr,.bl (hb d b w)):=by
  rw[DL (jm (xv A Y) Y) Y];congr 3;unfold hb;rw[Xq,decide_eq_true_iff,Zt,Za];constructor
  ·intro h n l;have v:(b.filter λ(n:Nat)=>!decide ((n:Int)∈(look d w).map λp=>(p.1:Int)))=[]:=Y8.mp (by lia);have:=Wz.mp v n l;simpa using this
  ·intro h;rw[(Wz.mpr λn l=>by
    have:=h n l;rw[this];decide)]
   rfl
 have t2:Oo (e2 N2 (eN bO (ab (aa 3) aj)) (eN bO (ab (aa 2) aj))) (kJ (e2 oEq (eN bO (ab (aa 3) aj)) (eN bO (ab (aa 2) aj))) (e2 oLt (aa 3) (aa 2))) (ED d b f (Q2 w) (pc (zT ((look d w).map λp=>(p.1:Int)))))=Z (.fr,.bl (Mr w f)):=by
  have t:=Av (a:=aa 3) (U:=ED d b f (Q2 w) (pc (zT ((look d w).map λp=>(p.1:Int))))) Y;have s:=Av (a:=aa 2) (U:=ED d b f (Q2 w) (pc (zT ((look d w).map λp=>(p.1:Int))))) Y;refine Ur (m:=.fr) (n:=.fr) (e2v t s ?_) (JE (m:=.fr) (n:=.fr) ?_ (e2v Y Y Y))
  ·show Z (Md.fr,T.bl (decide ((f.length:Int)<(w.length:Int))))=_;rw[decide_eq_decide.mpr (show (f.length:Int)<(w.length:Int)↔f.length<w.length by omega)]
  ·rw[DL t s,decide_eq_decide.mpr (show (w.length:Int)=(f.length:Int)↔w.length=f.length by lia)]
 by_cases j:hb d b w=J
 ·rw[j]at g ⊢;refine UA g ?_;by_cases e:Mr w f=J
  ·rw[e]at t2;rw[e,Bool.true_and,Zp Y];exact UA t2 Y
  ·rw[Bool.not_eq_true]at e;rw[e]at t2;rw[e,Zn (by decide)];exact uR t2 Y
 ·rw[Bool.not_eq_true]at j;rw[j]at g ⊢;rw[Zn (by simp)];exact uR g Y
def Bst(d:Fd)(a:Vh)(l:List Tx)(b f:Tx):Prop:=(f=b\/(f∈l/\hb d a f=J))/\Mr b f=B/\∀w∈l,hb d a w=J->Mr w f=B
def sg:Mr w f=B↔w.length<=f.length/\(w.length=f.length->¬w<f):=by
 unfold Mr;rw[Bool.or_eq_false_iff,Bool.and_eq_false_iff,decide_eq_false_iff_not,decide_eq_false_iff_not,iB,decide_eq_false_iff_not];constructor
 ·rintro⟨b,a⟩;exact⟨by exact ZO b,λe=>a.resolve_left λz=>z e⟩
 ·rintro⟨b,a⟩;refine⟨by exact Nat.not_lt_of_le b,?_⟩;by_cases e:w.length=f.length
  ·exact .inr (a e)
  ·exact .inl e
def A1(f:Tx):Mr f f=B:=sg.mpr ⟨Zk _,λ_=>X9 _⟩
def A2(b:Mr w g=B)(a:Mr g f=B):Mr w f=B:=by
 rw[sg]at *;refine⟨by lia,λe q=>?_⟩;exact b.2 (by lia) (Cm q (a.2 (by lia)))
def FF(h:Mr w f=J):Mr f w=B:=by
 rw[sg];unfold Mr at h;rw[WD,Z1,decide_eq_true_iff,decide_eq_true_iff,iB,decide_eq_true_iff]at h;rcases h with h | ⟨b,a⟩
 ·exact⟨by exact Y5 h,λe=>by lia⟩
 ·exact⟨by lia,λ_=>EX a⟩
theorem du2{e:Vh}(t:e.length<=100)(p:Sz 1000000 d)(s:∀w,(look d w).length<=1000000):∀(l:List Tx)(f:Tx)(j g:Ve),(∀w∈l,∃q∈d,q.1=w)->∃m o n,forL (aG 3) gr (l.map T.str) (ED d e f j g)=Z (.nx (ED d e m o n))/\Bst d e l f m
 |[],f,j,g,_=>⟨f,j,g,rfl,.inl Y,A1 f,λ_ h=>nomatch h⟩
 |w :: l,f,j,g,h=>by
  obtain⟨n,e1⟩:=du1 t (h w Zx) (s w) g;obtain⟨m,o,u,A,z,a,y⟩:=du2 t p s l (if (hb d e w&&Mr w f)=J then w else f) (Q2 w) n λv i=>h v (Zy _ i);refine⟨m,o,u,?_,?_,?_,λv i r=>?_⟩
  ·rw[Zg,cw Y e1];exact A
  ·rcases z with b | ⟨b,x⟩
   ·by_cases q:(hb d e w&&Mr w f)=J
    ·rw[Zp q]at b;rw[b];exact .inr ⟨Zx,(ZZ.mp q).1⟩
    ·rw[Zn q]at b;exact .inl b
   ·exact .inr ⟨Zy _ b,x⟩
  ·by_cases q:(hb d e w&&Mr w f)=J
   ·rw[Zp q]at a;exact A2 (FF (ZZ.mp q).2) a
   ·rw[Zn q]at a;exact a
  ·rcases Zo.mp i with rfl | i
   ·by_cases q:Mr v f=J
    ·rw[Zp (by rw[r,q];rfl)]at a;exact a
    ·rw[Zn (by rw[r];simpa using q)]at a;exact A2 (by simpa using q) a
   ·exact y v i r
noncomputable def Rn(l:List Pl)(n:Nat):Vg:=(l.filter λp=>decide (p.1=n)).map λp=>(p.2:Int)
def L7(l:List Pl)(n:Nat):Int:=match Rn l n with
 |[]=>0
 |a :: r=>nM a r
abbrev EE(d:Fd)(h:Vh)(f:Tx)(g e:Ve)(a:Vg)(b:Ve):Env:=[pc (.dct 3 (dT d)),pc (Ke h),Q2 f,g,e,oc (zT a),b]
def de1{b:Vg}(hw:∃q∈d,q.1=f)(u:(look d f).length<=1000000)(v:b.length<1000)(s:∃p∈look d f,p.1=n):gp (EE d l f j g b (Q0 (n:Int)))=Z (.nx (EE d l f j g (b++[L7 (look d f) n]) (Q0 (n:Int)))):=by
 have t:=eX (k:=2) (tg:=iD [aG 0,aG 1]) (it:=cA (e2 mE (aa 0) (aa 2))) (c:=e2 oEq (aa 0) (aa 8)) (elt:=aa 1) (U:=EE d l f j g b (Q0 (n:Int))) tP (λp=>decide (p.1=n)) (λp=>T.int (p.2:Int)) (look d f) (dE (e2v (x:=(.pu,.dct 3 (dT d))) (y:=(.fr,.str f)) Y Y (by
  show (if fm (.str f)=J then (dn (dT d) (.str f)).map _ else L)=_;rw[show fm (.str f)=J from rfl,Zp Y,qA hw];rfl))) Y (by lia) λp _=>⟨_,(.fr,.bl (decide (p.1=n))),rfl,by
   rw[DL Y Y,decide_eq_decide.mpr (show (p.1:Int)=(n:Int)↔p.1=n by lia)],rfl,λ_=>rfl⟩
 have m:eN uA (ab (bD 2 (iD [aG 0,aG 1]) (cA (e2 mE (aa 0) (aa 2))) (Z (e2 oEq (aa 0) (aa 8))) (aa 1)) aj) (EE d l f j g b (Q0 (n:Int)))=Z (.fr,.int (L7 (look d f) n)):=by
  refine jm (xv t Y) ?_;show (jh _).bind _=_;rw[ints_map (λp:Pl=>(p.2:Int))];unfold L7 Rn;obtain⟨p,o,e⟩:=s;cases h:((look d f).filter λp=>decide (p.1=n)) with
  |nil=>exact absurd (Yp.mpr ⟨o,ZR e⟩) (by rw[h];simp)
  |cons a r=>rfl
 have:=oX (i:=5) Y m (by rw[Zt];lia);refine this.trans ?_;show Z (Out.nx [pc (.dct 3 (dT d)),pc (Ke l),Q2 f,j,g,oc (.lst (b.map T.int++[T.int (L7 (look d f) n)])),Q0 (n:Int)])=_;rw[show b.map T.int++[T.int (L7 (look d f) n)]=(b++[L7 (look d f) n]).map T.int from by rw[Z8];rfl]
theorem de2(hw:∃q∈d,q.1=f)(o:(look d f).length<=1000000):∀(r:Vh)(acc:Vg)(a:Ve),acc.length+r.length<1000->(∀n∈r,∃p∈look d f,p.1=n)->∃b,forL (aG 6) gp (r.map λ(n:Nat)=>T.int (n:Int)) (EE d j f i g acc a)=Z (.nx (EE d j f i g (acc++r.map (L7 (look d f))) b))
 |[],acc,a,_,_=>⟨a,by rw[show acc++([]).map (L7 (look d f))=acc from ZS _];rfl⟩
 |n :: r,acc,a,h,l=>by
  rw[Zi]at h;obtain⟨b,e⟩:=de2 hw o r (acc++[L7 (look d f) n]) (Q0 (n:Int)) (by rw[Zq,ZG];lia) λm s=>l m (Zy _ s);refine⟨b,?_⟩;rw[Zg,cw Y (de1 hw o (by lia) (l n Zx)),e,ZI];rfl
theorem xk:∀(r:Vg)(c:Int),(nM c r=c\/nM c r∈r)/\nM c r<=c/\∀x∈r,nM c r<=x
 |[],c=>⟨.inl Y,Int.le_refl _,λ_ h=>nomatch h⟩
 |i :: r,c=>by
  obtain⟨f,d,b⟩:=xk r (if i<c then i else c);have e:nM c (i :: r)=nM (if i<c then i else c) r:=rfl;rw[e];by_cases q:i<c
  ·rw[Zp q]at f d b ⊢;refine⟨?_,by lia,λx a=>?_⟩
   ·rcases f with h | h
    ·rw[h];exact .inr Zx
    ·exact .inr (Zy _ h)
   ·rcases Zo.mp a with rfl | a
    ·exact d
    ·exact b x a
  ·rw[Zn q]at f d b ⊢;refine⟨f.imp id (Zy _),d,λx a=>?_⟩;rcases Zo.mp a with rfl | a
   ·lia
   ·exact b x a
def GJ{b:List Tx}(o:b[n]?=Z t)(h:∃p∈KR b w,p.1=n):L7 (KR b w) n=iQ t w+(w.length:Int):=by
 have me:∀x:Int,x∈Rn (KR b w) n ↔ ∃e:Nat,x=(e:Int)/\e<=t.length/\w <:+ t.take e:=λx=>by
  unfold Rn;rw[ZV];constructor
  ·rintro⟨p,d,rfl⟩;obtain⟨d,e⟩:=Yp.mp d;obtain⟨C,i,g,f⟩:=kc.mp d;rw[of_decide_eq_true e,o]at i;cases i;exact⟨p.2,rfl,g,f⟩
  ·rintro⟨e,rfl,g,f⟩;exact⟨(n,e),Yp.mpr ⟨kc.mpr ⟨t,o,g,f⟩,ZR Y⟩,rfl⟩
 obtain⟨m,em,E,s,hle⟩:∃m:Nat,L7 (KR b w) n=(m:Int)/\m<=t.length/\w <:+ t.take m/\∀e:Nat,e<=t.length->w <:+ t.take e->m<=e:=by
  unfold L7;cases hE:Rn (KR b w) n with
  |nil =>
   obtain⟨p,d,e⟩:=h;have:(p.2:Int)∈Rn (KR b w) n:=ZV.mpr ⟨p,Yp.mpr ⟨d,ZR e⟩,rfl⟩;rw[hE]at this;cases this
  |cons a r =>
   obtain⟨i,g,f⟩:=xk r a;have A:nM a r∈Rn (KR b w) n:=by
    rw[hE];rcases i with h | h
    ·rw[h];exact Zx
    ·exact Zy _ h
   obtain⟨m,e1,e2,e3⟩:=(me _).mp A;refine⟨m,e1,e2,e3,λe he hw=>?_⟩;rcases Zo.mp (by rw[← hE];exact(me _).mpr ⟨e,rfl,he,hw⟩) with z | z
   ·lia
   ·have:=f _ z;lia
 obtain⟨u,l⟩:=s;have D:u.length+w.length=m:=by
  have:=congrArg List.length l;rw[Zq,Y1]at this;lia
 have hd:t.drop u.length=w++t.drop m:=by
  have y:t=u++(w++t.drop m):=by
   rw[← ZI,l,List.take_append_drop]
  conv=>lhs;rw[y]
  rw[List.drop_left]
 have:=C6 (by rw[hd];exact List.prefix_append _ _) (by lia) λj F q=>by
  have v:=q.length_le;rw[Ym]at v;have:=hle (j+w.length) (by lia) (by
   exact⟨t.take j,by rw[List.take_add,← List.prefix_iff_eq_take.mp q]⟩)
  lia
 rw[em,this];lia
def Ej{a:Vb}(f:a.length=d)(h:∃U,b (a.map (λt=>Z (.pu t))++List.replicate (e-d) L)=Z (.rt v U)):fn d e b a=Z v:=by
 obtain⟨U,h⟩:=h;exact dJ f h
def wO(h:a U=Z (.nx d))(q:∃z,b d=Z (.rt v z)):∃z,ak a b U=Z (.rt v z):=by
 obtain⟨z,q⟩:=q;exact⟨z,sq h q⟩
def Jh{a:Vh}(M:a.length<=100)(r:Sz 1000000 d)(C:∀q∈d,q.1.length<=120/\Az q.1)(x:∀w,(look d w).length<=1000000)(s:∃q∈d,q.1=[])(t:hb d a []=J) :
  ∃m f,gw [.dct 0 (dT d),Ke a]=Z (m,.tup [.str f,zT (a.map (L7 (look d f)))])/\m ≠ .bo/\Bst d a (d.map (·.1)) [] f:=by
 obtain⟨f,i,g,e1,v⟩:=du2 M r x (d.map (·.1)) [] L L λw hw=>by
  obtain⟨q,b,e⟩:=ZV.mp hw;exact⟨q,b,e⟩
 have u:(∃q∈d,q.1=f)/\hb d a f=J:=by
  rcases v.1 with rfl | ⟨H,G⟩
  ·exact⟨s,t⟩
  ·obtain⟨q,b,e⟩:=ZV.mp H;exact⟨⟨q,b,e⟩,G⟩
 obtain⟨j,y⟩:=de2 u.1 (x f) a [] L (by simp;lia) (λn E=>by
  have:=of_decide_eq_true (Za.mp u.2 n E);obtain⟨p,D,e⟩:=ZV.mp this;exact⟨p,D,by lia⟩)
 rw[YK]at y;have A:oN 0 (ED d a [] L L)=Z (.fr,(d.map (·.1)).map T.str):=by
  show (if ((dT d).all λp=>Gf p.1)=J then Z (Md.fr,(dT d).map (·.1)) else L)=_;rw[Zp]
  ·unfold dT;rw[ZD,ZD];rfl
  ·unfold dT;rw[Xn];refine Za.mpr λq b=>?_;show (decide (q.1.length<=fq)&&q.1.all (λc=>decide (c<1114112)))=J;have h:=C q b;rw[Z1,decide_eq_true_iff,Za];refine⟨by show q.1.length<=16777216;lia,λc F=>ZR ?_⟩;have:=h.2 c F;lia
 have o:RF (Ke a)=J:=gR (λ(n:Nat)=>T.int (n:Int)) (λ_=>rfl) a;have rt:fT (gk (ab (aa 2) (ab (aa 5) aj))) [pc (.dct 3 (dT d)),pc (Ke a),Q2 f,i,g,pc (zT (a.map (L7 (look d f)))),j]=Z (.rt (.pu,.tup [.str f,zT (a.map (L7 (look d f)))]) [pc (.dct 3 (dT d)),pc (Ke a),Q2 f,i,g,pc (zT (a.map (L7 (look d f)))),j]):=rfl;refine⟨.pu,f,Ej Y (wO Y ⟨List.replicate 7 L,?_⟩),(λz=>nomatch z),v⟩;show (if _/\_ then (ak (fo (aG 3) (oN 0) gr) (ak (iw 5 (fg aj)) (ak (fo (aG 6) (cA (aa 1)) gp) (ak (oW 5) (fT (gk (ab (aa 2) (ab (aa 5) aj))))))) (ED d a [] L L)).bind _ else L)=_;rw[Zp ⟨(by
  unfold dT;rw[Xn];exact Za.mpr λq _=>yg q.2),(by
  show (J&&(RF (Ke a)&&J))=J;rw[o];rfl)⟩,(sq ((bH (m:=.fr) A Y).trans e1) (sq (U1:=EE d a f i g [] L) Y (sq ((bH (m:=.pu) (l:=a.map λ(n:Nat)=>T.int (n:Int)) Y Y).trans y) (sq (U1:=[pc (.dct 3 (dT d)),pc (Ke a),Q2 f,i,g,pc (zT (a.map (L7 (look d f)))),j]) Y rt))))]
 show (if t3 _=J then _ else _)=_;rw[Zp (by
  show (J&&(((a.map (L7 (look d f))).map T.int).all QA&&J))=J;rw[show ((a.map (L7 (look d f))).map T.int).all QA=J from by rw[Xn];exact Za.mpr λ_ _=>rfl];rfl)]
 rfl
section
variable{bk:List Tx}{nd:Wd->Option Nat}{wd:List Wd}(H:K (Hd bk) (aP bk) nd wd)(hM:∀x,x∈av bk↔x<(aP bk).lg.length)
include H
theorem wF(hw:nd w=Z j)(a:nd v=Z j):KR bk w=KR bk v:=by
 unfold KR;rw[List.flatMap_def,List.flatMap_def];congr 1;refine YR λq b=>?_;congr 1;refine List.filter_congr λe _=>?_;have:=(H.eq hw a).mp Y (q.1.take e) (.inr ⟨q.1,List.fst_mem_of_mem_zipIdx b,WQ _ _⟩);rw[Xq,YV,YV];exact this
include hM
theorem tU(f:Pt bk w):∃k,k<(av bk).length/\KR bk w=KR bk (wN bk wd k)/\w <:+ wL bk wd k:=by
 obtain⟨j,d⟩:=(H.some w).mpr (EK.mp f);have a:=H.i.lt d;have b:=Yb.mpr ((hM j).mpr (by rw[← H.i.len];exact a));have e:(av bk).getD (ix bk j) 0=j:=by
  rw[Zs,Zu b];exact Xd b
 have g:wN bk wd (ix bk j)=sw (aP bk) wd j:=by unfold wN;rw[e]
 refine⟨ix bk j,b,?_,?_⟩
 ·rw[g];exact wF H d (H.i.NY a)
 ·unfold wL;rw[e];exact H.i.sf d
theorem Ig(b:k<(av bk).length):KR bk (wL bk wd k)=KR bk (wN bk wd k)/\Pt bk (wL bk wd k):=by
 have a:(av bk).getD k 0<wd.length:=by
  rw[H.i.len];refine(hM _).mp ?_;rw[Zs,Zu b];exact ZC b
 exact⟨wF H (H.i.top a) (H.i.NY a),EK.mpr ((H.some _).mp ⟨_,H.i.top a⟩)⟩
theorem same{ss:Vh}(M:∀w,look d w=KR bk w)(s:∀w,(∃q∈d,q.1=w)↔Pt bk w)(z:k<(av bk).length)(A:Holds bk ss (wN bk wd k))(G:hb d ss []=J)(N:∀j,j<(av bk).length->Holds bk ss (wN bk wd j)->(wL bk wd j).length<=(wL bk wd k).length/\((wL bk wd j).length=(wL bk wd k).length->¬wL bk wd j<wL bk wd k))(r:Bst d ss (d.map (·.1)) [] f):f=wL bk wd k:=by
 have b:∀w,hb d ss w=J↔Holds bk ss w:=λw=>by
  unfold hb Holds;rw[Za,M w];constructor
  ·intro h n a;obtain⟨p,i,e⟩:=ZV.mp (of_decide_eq_true (h n a));exact⟨p,i,by lia⟩
  ·intro h n a;obtain⟨p,i,e⟩:=h n a;exact ZR (ZV.mpr ⟨p,i,by lia⟩)
 have o:Pt bk f/\Holds bk ss f:=by
  rcases r.1 with rfl | ⟨D,C⟩
  ·exact⟨.inl Y,(b _).mp G⟩
  ·obtain⟨q,g,e⟩:=ZV.mp D;exact⟨(s f).mp ⟨q,g,e⟩,(b _).mp C⟩
 obtain⟨v,y,x,m⟩:=tU H hM o.1;obtain⟨Q,F⟩:=N v y (λn a=>by rw[← x];exact o.2 n a);obtain⟨u,t⟩:=Ig H hM z;obtain⟨q,g,e⟩:=(s _).mpr t;obtain⟨P,E⟩:=sg.mp (r.2.2 (wL bk wd k) (ZV.mpr ⟨q,g,e⟩) ((b _).mpr (λn a=>by rw[u];exact A n a)));have O:=m.length_le;have l:=F (by lia);rw[← (m.eq_of_length (by lia))]at l;exact List.le_antisymm (W3.mp (E (by lia))) (W3.mp l)
end
def yV{a:List Tx}(d:∀n∈b,n<a.length):Holds a b []:=λn e=>⟨(n,0),kc.mpr ⟨a[n]'(d n e),Zu (d n e),Yk _,XC⟩,rfl⟩
def both(h:Rx j):∃d:Fd,eK [.lst (j.map .str)]=Z (.fr,.dct 0 (dT d))/\∀a:Vh,a.length<=100->(∀n∈a,n<j.length)->∃m w,gw [.dct 0 (dT d),Ke a]=Z (m,lL j a w)/\m ≠ .bo/\hU [.lst (j.map .str),Ke a]=Z (.fr,lL j a w):=by
 obtain⟨_,nd,R,H,hl,hB,y,hm,h0⟩:=h.k;obtain⟨d,e1,A,F,C⟩:=Cv j h.Lq h.len;refine⟨d,e1,λa P o=>?_⟩;have u:=yV o;have O:hb d a []=J:=by
  unfold hb;rw[A []];refine Za.mpr λn r=>?_;obtain⟨p,s,e⟩:=u n r;exact ZR (ZV.mpr ⟨p,s,by lia⟩)
 obtain⟨k,M,N,Kz,NN⟩:=zw H y (by
  obtain⟨l,e,q,_⟩:=H.met (k:=1000) (by lia);rw[Zh (hB.symm.trans e)];exact q) h0 hl hm (λt b=>by
  obtain⟨p,s,o⟩:=(H.some (W R t)).mp ⟨t,H.i.top b⟩;rcases s with rfl | ⟨v,G,s⟩
  ·rw[YL.mp o];exact⟨(λc g=>nomatch g),by decide⟩
  ·have x:=o.isInfix.trans s.isInfix;exact⟨λc g=>h.az v G c (x.subset g),ZJ x.length_le (h.len v G)⟩) (FG h) (λt b=>⟨h.len t b,h.az t b⟩) h.Lq o P (by
  obtain⟨k,X,U,_⟩:=tU H y (.inl Y);exact⟨k,X,λn r=>by rw[← U];exact u n r⟩)
 obtain⟨m,f,e3,D,E⟩:=Jh P C (λq hq=>by
  rcases (F q.1).mp ⟨q,hq,rfl⟩ with z | ⟨t,b,x⟩
  ·rw[z];exact⟨by decide,λc g=>nomatch g⟩
  ·exact⟨ZJ x.length_le (h.len t b),λc g=>h.az t b c (x.subset g)⟩) (λw=>by
  rw[A w];have:=(sQ h.len h.Lq w).1;lia) ((F []).mpr (.inl Y)) O
 have ef:=same H y A F M N O NN E;subst ef;refine⟨m,_,?_,D,Kz⟩;rw[e3];unfold lL zT;rw[A,ZD];refine congrArg (λl=>Z (m,T.tup [.str _,.lst l])) (YR λn r=>?_);have Q:=o n r;show T.int (L7 _ n)=_;rw[GJ (Zu Q) (by
  obtain⟨S,_⟩:=Ig H y M;rw[S];exact N n r),Zs,Zu Q]
 rfl
abbrev S8(b:List Tx)(a:Vh):T:=.tup [.lst (b.map .str),Ke a]
abbrev ER(b:List Tx)(d:Fd)(a:Vh)(w:Tx)(f e:Ve):Env:=[pc (.lst (b.map .str)),pc (.dct 0 (dT d)),pc (Ke a),pc (lL b a w),pc (S8 b a),f,e]
def eqB(a:List Tx):KY 59 (.lst (a.map .str))=J:=by
 show ((a.map T.str).all (KY 58))=J;rw[Xn];exact Za.mpr λ_ _=>rfl
def eqI{α:Type}(g:α->Int)(a:List α):KY 59 (.lst (a.map λn=>T.int (g n)))=J:=by
 show ((a.map λn=>T.int (g n)).all (KY 58))=J;rw[Xn];exact Za.mpr λ_ _=>rfl
def eqR(b:List Tx)(a:Vh)(w:Tx):KY 60 (lL b a w)=J:=by
 show (J&&(KY 59 (.lst (a.map λn=>T.int (iQ (b.getD n []) w+(w.length:Int))))&&J))=J;rw[eqI (λn=>iQ (b.getD n []) w+(w.length:Int)) a];rfl
def eqH(b:List Tx)(a:Vh):KY 60 (S8 b a)=J:=by
 show (KY 59 (.lst (b.map .str))&&(KY 59 (.lst (a.map λ(n:Nat)=>T.int (n:Int)))&&J))=J;rw[eqB b,eqI (λ(n:Nat)=>(n:Int)) a];rfl
abbrev rsS(b:List Tx)(a:Vh)(w:Tx):T:=.tup [.str w,.lst ((a.map λn=>T.int (iQ (b.getD n []) w+(w.length:Int)))++[.int 0])]
def rg1{b:List Tx}{a:Vh}(j:a.length<=100)(i:hU [.lst (b.map .str),Ke a]=Z (.fr,lL b a w))(e g:Ve):jM (ER b d a w e g)=Z (.nx (ER b d a w e (oc (rsS b a w)))):=by
 have h:gk (ab (aa 0) (ab (aa 2) aj)) (ER b d a w e (oc (lL b a w)))=Z (.pu,S8 b a):=rfl;have f:=eX (k:=1) (tg:=aG 0) (it:=cA (e2 aC (aa 6) (Q3 1))) (c:=PU .bool (aa 0)) (elt:=aa 0) (U:=ER b d a w e (oc (lL b a w))) (λn=>T.int (iQ (b.getD n []) w+(w.length:Int))) (λ_=>B) (λn=>T.int (iQ (b.getD n []) w+(w.length:Int))) a (dE Y) (gR _ (λ_=>rfl) a) (by lia) λn _=>⟨_,_,rfl,rfl,rfl,λz=>nomatch z⟩
 refine sq (by
  unfold zG;rw[bf (xv (x:=(.pu,.lst (b.map .str))) Y (xv (r:=aj) (x:=(.pu,Ke a)) Y Y)) i];rfl) (sq (uR (Ur (m:=.fr) (n:=.fr) (x:=B) (y:=B) Y (Ur (m:=.fr) (n:=.fr) (x:=B) (y:=B) (e2v (x:=(.bo,lL b a w)) (y:=(.pu,lL b a w)) Y Y (zZ (r:=J) (eqR b a w) (eqR b a w) (pw 60 _ (eqR b a w)))) (Ur (m:=.fr) (n:=.fr) (x:=B) (y:=B) (e2v (x:=(.pu,S8 b a)) Y h (zZ (r:=J) (eqH b a) (eqH b a) (pw 60 _ (eqH b a)))) Y))) Y) (sq (uR (by
  rw[show a.filter (λ_=>B)=[] from Wz.mpr λ_ _=>ZX]at f;exact e2v f (y:=(.fr,.lst [])) Y Y) Y) ?_))
 show (((aJ (.lst (a.map λn=>T.int (iQ (b.getD n []) w+(w.length:Int)))) [(.fr,.int 0)]).map _).map _)=_;rw[dq (by rw[Zt];lia)];rfl
def C3{b:List Tx}{a:Vh}(v:b.length<=8)(u:a.length<=100)(j:gw [.dct 0 (dT d),Ke a]=Z (m,lL b a w))(o:m ≠ .bo)(s:hU [.lst (b.map .str),Ke a]=Z (.fr,lL b a w)):fO [.lst (b.map .str),.dct 0 (dT d),Ke a]=Z (.fr,.bl J):=by
 obtain⟨_,f1,f,e,rfl⟩:=iP (tg:=aG 5) (λ(k:Nat)=>T.int (k:Int)) (λ_ U=>∃f e,U=ER b d a w f e) (by
  rintro k r _ ⟨f,e,rfl⟩;exact⟨_,_,rfl,rg1 u s (Q0 (k:Int)) e,_,_,rfl⟩) (List.range 2) (ER b d a w L L) ⟨L,L,rfl⟩
 have h:∀(l:Vb)(i:Nat)(U:Env),fZ l=J->l.length<=100->aa i U=Z (.pu,.lst l)->eN mQ (ab (aa i) aj) U=Z (.fr,.lst l):=λl i U q x p=>jm (xv p Y) (by
  show ML .pu l=_;rw[rO (by lia),Zp q])
 refine Ej Y (wO (by
  have g:ab (aa 1) (ab (aa 2) aj) [pc (.lst (b.map .str)),pc (.dct 0 (dT d)),pc (Ke a),L,L,L,L]=Z [(.pu,.dct 0 (dT d)),(.pu,Ke a)]:=rfl;cases m with
  |fr=>exact aE (m:=.fr) (bf g j) (by decide) (by show 3<7;decide)
  |pu=>exact aE (m:=.pu) (zE g j) (by decide) (by show 3<7;decide)
  |bo=>exact absurd Y o) (wO (by
  refine aE (m:=.fr) (t:=S8 b a) ?_ (by decide) (by show 4<7;decide);show (ab _ _ _).bind qm=_;rw[xv (h _ 0 _ (gR T.str (λ_=>rfl) b) (by rw[Zt];lia) Y) (xv (r:=aj) (h _ 2 _ (gR (λ(n:Nat)=>T.int (n:Int)) (λ_=>rfl) a) (by rw[Zt];omega) Y) Y)];show Z (up _ (.tup _))=_;unfold up;split<;>rfl) (wO ((bH Y Y).trans f1) ⟨_,rfl⟩)))
def C1{j:Int}{a:Env}(g:b U=Z ((.fr,.int j),a))(f:0<=j/\j<1000000)(h:gU x (N9 0 j.toNat) a=Z (d,e)):md b x U=Z (d,e):=by
 unfold md;rw[g,Zr];show (if 0<=j/\j<1000000 then gU x (N9 0 j.toNat) a else L)=_;rw[Zp f];exact h
def HC(a:List Tx):KY 60 (.lst (a.map .str))=J:=by
 show ((a.map T.str).all (KY 59))=J;rw[Xn];exact Za.mpr λ_ _=>rfl
section
variable{bk:List Tx}{ns:Vg}{c1 c2 B c4:Ve}{mB:Md}(hv:∀c4 c5 c6 c7,aa 3 [pc (.scr ns),c1,c2,B,c4,c5,c6,c7]=some (mB,.lst (bk.map .str)))
include hv
theorem draw(t:0<bk.length/\bk.length<=8)(f b:Ve):∀(r:Vg)(n:Int),∃(g:Int)(a:Vh),gU (aV [(.io 6 false),(.px (xI (eN bO (ab (aa 4) aj))))] aA) r [pc (.scr ns),c1,c2,B,c4,sp false n,f,b]=Z (a.map λ(k:Nat)=>T.int (k:Int),[pc (.scr ns),c1,c2,B,c4,sp false g,f,b])/\a.length=r.length/\∀k∈a,k<bk.length:=by
 intro r
 induction r with
 |nil=>intro n;exact⟨n,[],rfl,rfl,λ_ h=>nomatch h⟩
 |cons i r l =>
  intro n;obtain⟨d,j,v,u,e⟩:=nx (i:=6) (m:=(bk.length:Int)) (x:=xI (eN bO (ab (aa 4) aj))) (U:=[Q0 i,pc (.scr ns),c1,c2,B,c4,sp false n,f,b]) (by omega) Y (de (jm (xv (r:=aj) (hv c4 (sp false n) f b) Y) (by
   show Z (Md.fr,T.int (((bk.map T.str).length:Nat):Int))=_;rw[Zt])) Y) Y
  obtain⟨g,a,s,o,q⟩:=l j;refine⟨g,d.toNat :: a,?_,by rw[Zi,Zi,o],λk p=>?_⟩
  ·rw[Zg,show ((d.toNat:Nat):Int)=d by lia];exact ox e Y s
  ·rcases Zo.mp p with rfl | h
   ·lia
   ·exact q k h
theorem turns(t:0<bk.length/\bk.length<=8)(r:∀g:Vh,g.length<=100->(∀k∈g,k<bk.length)->fO [.lst (bk.map .str),.dct 0 (dT d),Ke g]=Z (.fr,.bl J))(n:Int)(h l:Ve) :
  ∃j o,oK [pc (.scr ns),c1,c2,B,pc (.dct 0 (dT d)),sp false n,h,l]=Z (.nx [pc (.scr ns),c1,c2,B,pc (.dct 0 (dT d)),sp false j,h,o]):=by
 obtain⟨k,p,w,v,e⟩:=nx (i:=5) (x:=xI (Q3 5)) (U:=[pc (.scr ns),c1,c2,B,pc (.dct 0 (dT d)),sp false n,h,l]) (by lia) Y (de Y Y) Y;obtain⟨j,g,u,q,s⟩:=draw hv t h l (N9 0 (1+k).toNat) p;refine⟨j,pc (Ke g),sq (x9 (m:=.fr) (U1:=[pc (.scr ns),c1,c2,B,pc (.dct 0 (dT d)),sp false j,h,l]) ?_ (by show 7<8;decide)) (sq Y (uR (oF (b:=J) (bf (xv (hv _ _ _ _) (xv Y (xv Y Y))) (r g (by
  rw[q];unfold N9;rw[Zt,Y2];lia) s))) Y))⟩
 unfold DS;rw[(C1 (nu (f:=bA) (m:=.fr) (a:=xI (Q3 1)) (de (m:=.fr) Y Y) e Y Y Y Y) ⟨by lia,by lia⟩ u)];rfl
theorem tail(t:ns.length<=63)(b:Rx bk)(q:0<bk.length):∃z,ak (aN 4 (aW eK (ab (aa 3) aj)))
  (ak (iw 5 (aW cQ (ab (aa 0) (ab (Q3 1) aj))))
  (ak (fo (aG 6) (cR (Q3 3)) oK)
  (ak (oW 5)
  (fT (eC (.bl J)))))) [pc (.scr ns),c1,c2,B,L,L,L,L]=Z (.rt (.fr,.bl J) z):=by
 obtain⟨d,e1,hd⟩:=both b;obtain⟨n,u⟩:=ve ns t 1 (by decide);obtain⟨_,f1,o,f,a,rfl⟩:=iP (tg:=aG 6) (λ(k:Nat)=>T.int (k:Int)) (λ_ U=>∃n f a,U=[pc (.scr ns),c1,c2,B,pc (.dct 0 (dT d)),sp false n,f,a]) (by
  rintro k r _ ⟨n,f,a,rfl⟩;obtain⟨o,s,e⟩:=turns hv ⟨q,b.Lq⟩ (λh g p=>by
  obtain⟨m,w,l,j,i⟩:=hd h g p;exact C3 b.Lq g l j i) n (Q0 (k:Int)) a
  exact⟨_,_,rfl,e,_,_,_,rfl⟩) (List.range 3) [pc (.scr ns),c1,c2,B,pc (.dct 0 (dT d)),sp false n,L,L] ⟨_,_,_,rfl⟩
 exact⟨_,sq (aE (bf (xv (hv _ _ _ _) Y) e1) (by decide) (by show 4<8;decide)) (sq (rS (bf (xv Y (xv Y Y)) u) Y (by show 5<8;decide)) (sq ((bH Y Y).trans f1) (sq Y Y)))⟩
end
def Af(a:Vg)(f:a.length<=63):BG [.scr a]=Z (.fr,.bl J):=by
 obtain⟨n,e1⟩:=ve a f 0 (by decide);obtain⟨d,L,D,o,e,j⟩:=DV n;obtain⟨b,bk,e3,C,bs,A⟩:=Hk (⟨o,e,j⟩) d;have s1:iw 1 (aW cQ (ab (aa 0) (ab (Q3 ((0:Nat):Int)) aj))) [pc (.scr a),none,none,none,none,none,none,none]=Z (.nx [pc (.scr a),oc (.lst [.int n]),none,none,none,none,none,none]):=rS (bf (xv Y (xv Y Y)) e1) Y (by show 1<8;decide);have h:eJ 2 (aV [(.io 1 false)] fP) [pc (.scr a),oc (.lst [.int n]),none,none,none,none,none,none]=Z (.nx [pc (.scr a),oc (.lst [.int d]),Q2 L,none,none,none,none,none]):=ir (cx (k:=0) (r:=[]) Y Y Y Y Y Y D) Y (by show 2<8;decide);have g:nF 3 (aV [(.io 1 false),(.px (xI (aa 2)))] gD) [pc (.scr a),oc (.lst [.int d]),Q2 L,none,none,none,none,none]=Z (.nx [pc (.scr a),oc (.lst [.int b]),Q2 L,oc (.lst (bk.map .str)),none,none,none,none]):=x9 (cx (k:=0) (r:=[.px (xI (aa 2))]) Y (qX (de Y Y) Y Y) Y Y Y Y e3) (by show 3<8;decide);cases bk with
 |nil =>
  obtain⟨E,t,w,s,p⟩:=BY L 6 b o (by lia) (by decide) (by decide);obtain⟨z,q⟩:=tail (bk:=[t]) (B:=oc (.lst [.str t])) (λ_ _ _ _=>rfl) f (⟨Nat.le_of_ble_eq_true Y,by show t.length+0<=120;have:t.length<=6:=s;lia,λx u=>by rw[Zj.mp u];exact λc v=>j c (p c v)⟩) Nat.one_pos;exact dJ Y (sq s1 (sq h (sq g (sq (U1:=[pc (.scr a),oc (.lst [.int b]),Q2 L,pc (.lst []),none,none,none,none]) Y (sq (by
   refine UA (m:=.fr) Y ?_;unfold Bk;rw[cx (i:=1) (un:=false) (k:=0) (r:=[.px (xI (aa 2)),.px (xI (Q3 6))]) (l:=[.str L,.int 6]) (U:=[pc (.scr a),oc (.lst [.int b]),Q2 L,pc (.lst []),none,none,none,none]) Y (qX (t:=.str L) (de (m:=.fr) Y Y) Y (qX (t:=.int 6) (de (m:=.fr) Y Y) Y Y)) Y Y Y Y w];rfl) (sq Y q))))))
 |cons t r =>
  obtain⟨z,q⟩:=tail (B:=pc (.lst ((t :: r).map .str))) (λ_ _ _ _=>rfl) f (⟨C,bs,A⟩) (Nat.succ_pos _);exact dJ Y (sq s1 (sq h (sq g (sq Y (sq (uR (m:=.fr) (e2v (x:=(.pu,.lst ((t :: r).map .str))) (y:=(.fr,.lst [])) Y Y (nc (r:=false) (HC (t :: r)) Y Y)) Y) (sq Y q))))))
end T32
end
section
namespace T32
open PySem PySem.Spec PyProof.Rows L2 VS
def qv{X:Cx}(i:Nat)(a:{`q8,X.N[i]?=Z x})(b:L6 X.env.scope x:=by exact Or.inl Y)(c:{`q2,K3 x})(d:{`q2,K4 x}):PV G X (.Name x p) (aa i):=ba i a b c d
def Q4{α:Sort _}{x:α}{b:Prop}:x=x∨b:=.inl Y
abbrev Q5:List Str:=["_law_book_here", "_law_parts_here", "_law_some"]
abbrev Q6:List Str:=["_law_end", "_law_book_here", "_law_found", "_law_t", "_law_text_here", "_law_start", "-6"]
abbrev Q7:List Str:=["_law_end", "_law_book_here", "_law_parts_here", "_law_some", "_law_due_here", "_law_handed", "_law_turn", "_law_got"]
abbrev Q8:List Str:=["_law_k", "_law_script", "_law_spring_here", "_law_signs_here", "_law_book_here", "_law_parts_here", "_law_more", "_law_turn", "_law_some"]
abbrev Q9:List Str:=["_law_k", "_law_spring_here", "_law_letters", "_law_few", "_law_start", "_law_step"]
abbrev Qa:List Str:=["_law_k", "_law_spring_here", "_law_signs_here", "_law_most"]
abbrev Qb:List Str:=["_law_number", "_law_parts_here", "_law_some", "_law_found", "_law_word", "_law_there", "_law_ends", "-7"]
abbrev Qc:List Str:=["_law_parts_here", "_law_some"]
abbrev Qd:List Str:=["_law_script", "_law_k"]
abbrev Qe:List Str:=["_law_spring_here", "_law_most"]
abbrev Qf:List Str:=["_law_spring_here", "_law_signs_here", "_law_most"]
abbrev Qg:List Str:=["_law_spring_here", "_law_signs_here"]
abbrev Qh:List Str:=["_law_spring_here"]
abbrev Qi:List Str:=["_law_text_here", "_law_end", "_law_parts_here", "_law_some", "_law_found", "_law_word", "_law_there", "_law_ends", "_law_number"]
abbrev Qj:List Str:=["book", "number"]
abbrev Qk:List Str:=["book", "table"]
abbrev Ql:List Str:=["number", "book", "some", "-3", "table", "wanted", "fitting", "word"]
abbrev Qm:List Str:=["row", "book", "table", "found", "number", "text", "end", "head", "stand"]
abbrev Qn:List Str:=["self", "head", "sign"]
abbrev Qo:List Str:=["self", "head", "word"]
abbrev Qp:List Str:=["self", "long", "link", "ways"]
abbrev Qq:List Str:=["self", "node", "numbers"]
abbrev Qr:List Str:=["self", "node", "sign"]
abbrev Qs:List Str:=["self"]
abbrev Qt:List Str:=["sign", "self", "node", "numbers", "link", "ways", "steps"]
abbrev Qu:List Str:=["stand", "table", "stands", "long", "as_long"]
abbrev Qv:List Str:=["stand", "texts", "book", "some", "number", "table", "wanted", "fitting", "word"]
abbrev Qw:List Str:=["table", "stand"]
abbrev Qx:List Str:=["table", "stands", "long", "as_long"]
abbrev Qy:List Str:=["text", "word"]
abbrev Qz:List Str:=["texts", "wanted"]
noncomputable def top(i:Nat):Stmt:=PySem.Challenge.pw_allparts_k32_the_longest_shared.main.body.getD i (.Pass ⟨0,0,0,0⟩)
structure Le(mg:Wi):Prop where
 TN:mg "all" = none
 Ot:mg "bool" = none
 Os:mg "dict" = none
 Kp:mg "enumerate" = none
 TM:mg "int" = none
 Ki:mg "isinstance" = none
 Kg:mg "len" = none
 M9:mg "list" = none
 TL:mg "max" = none
 P0:mg "min" = none
 Kn:mg "range" = none
 PZ:mg "set" = none
 Ln:mg "sorted" = none
 Nm:mg "tuple" = none
noncomputable abbrev Sl:List Str:=["  ", "longs", "links", "ways"]
abbrev gX(K:X3)(C D:On):Gx:=Rk Sl K C D
def gJ{K:X3}:l6 ((Rk Sl K C D).at m):=CN (by decide +kernel) (by decide +kernel)
structure KZ(K:X3)(mg:Wi)(C D:On):Prop where
 one:C=D
 J1:LV K C
 N6:mg "Nodes" = some (.ref C)
 Kl:dz K C "longs"
 Km:dz K C "links"
 Kv:dz K C "ways"
def fW{K:X3}(a:KZ K b C D):LU ((Rk Sl K C D).at m) K 1 "longs" := Hy Y a.J1 (a.one ▸ a.J1) a.Kl (a.one ▸ a.Kl)
def fL{K:X3}(a:KZ K b C D):LU ((Rk Sl K C D).at m) K 2 "links" := Hy Y a.J1 (a.one ▸ a.J1) a.Km (a.one ▸ a.Km)
def eY{K:X3}(a:KZ K b C D):LU ((Rk Sl K C D).at m) K 3 "ways" := Hy Y a.J1 (a.one ▸ a.J1) a.Kv (a.one ▸ a.Kv)
section
variable(P:SB)(w:UV)(base:UF){K:X3}
abbrev fu:Stmt:=inClass (top 16) 1
def mh:oe Qp Qp (ah fu):=by constructor<;>first | rfl | decide +kernel
def aL(F:J4 K "new_node" "Nodes.new_node" fu f e)(b:Meth K C "new_node" f)(B:Le mg)(a:KZ K mg C D) :
  MtAt P w K mg base 1 (gX K C D) 0 "new_node" Qp [false,false,J] aT:=sP F b a.J1 (kG (by decide +kernel) (by decide +kernel)) mh Y Y (λ_ _ _ _ _ _ g d=>by obtain⟨_,_,_,_,rfl⟩:=L2.JD d;rfl) λ_ _ _ _ _ _ _ h =>
  (af (Bw gJ (kC 1 (fW a) (cy 0)) (ae (qv 1) ag) Y Y Y Y Y Y Y)
  (af (Bw gJ (kC 2 (fL a) (cy 0)) (ae (qv 2) ag) Y Y Y Y Y Y Y)
  (af (D2 gJ (kC 3 (eY a) (cy 0)) Y Y Q4 Y Y Y Y Y Y Y Y)
  (ar (bu (nA FW FS (eQ B.Kg (ae (w_fld gJ (fW a) (qv 0)) ag)) ai))))))
abbrev fA:Stmt:=inClass (top 16) 0
def l9:oe Qs Qs (ah fA):=by constructor<;>first | rfl | decide +kernel
def cI(F:J4 K "__init__" "Nodes.__init__" fA f g)(d:Mk K C f)(B:Le mg)(a:KZ K mg C D)(h:MtAt P w K mg base 1 (gX K C D) 0 "new_node" Qp [false,false,J] aT) :
  InAt P w K mg base 2 (gX K C D) 0 0 "Nodes" Qs fD:=G6 F d a.N6 l9 Y Y (λ_ _ _ _ _ _ i e=>by obtain⟨_,rfl⟩:=L2.pY e;rfl) λ_ _ _ _ _ _ _ b =>
  (af (vJ 0 1 gJ (fW a) (dr ag) Y Q4 Y Y Y)
  (af (vJ 0 2 gJ (fL a) (dr ag) Y Q4 Y Y Y)
  (af (vJ 0 3 gJ (eY a) (dr ag) Y Q4 Y Y Y)
  (ar (u6 (i8 gJ h.at b (by decide) (cy 0) (ae ai (ae z8 (ae vm ag)))) Y)))))
abbrev cq:Stmt:=inClass (top 16) 4
def aZ:oe ["self", "node", "sign", "old", "long", "half"] Qr (ah cq):=by constructor<;>first | rfl | decide +kernel
def aS(F:J4 K "node_just_behind" "Nodes.node_just_behind" cq f g)(d:Meth K C "node_just_behind" f)(B:Le mg)(a:KZ K mg C D)(h:MtAt P w K mg base 1 (gX K C D) 0 "new_node" Qp [false,false,J] aT) :
  MtAt P w K mg base 2 (gX K C D) 0 "node_just_behind" Qr [false,false] ay:=sP F d a.J1 (kG (by decide +kernel) (by decide +kernel)) aZ Y Y (λ_ _ _ _ _ _ i e=>by obtain⟨_,_,_,rfl⟩:=L2.vY e;rfl) λ_ _ _ _ _ _ _ b =>
  (af (aB (tf b (aX (w_fld gJ (eY a) (qv 0)) (qv 1) (λ_ _=>rfl)) (qv 2) (λ_ _=>rfl)) aZ.nd Y Q4)
  (af (aB (w_add (aX (w_fld gJ (fW a) (qv 0)) (qv 1) (λ_ _=>rfl)) ai) aZ.nd Y Q4)
  (af (dy (lO b (aX (w_fld gJ (fW a) (qv 0)) (qv 3) (λ_ _=>rfl)) (qv 4)) (ar (cf 3 Y (Or.inl Y) Y Y)) bG)
  (af (fe (i8 gJ h.at b (by decide) (cy 0) (ae (qv 4) (ae (aX (w_fld gJ (fL a) (qv 0)) (qv 3) (λ_ _=>rfl)) (ae (Cz B.Os (ae (aX (w_fld gJ (eY a) (qv 0)) (qv 3) (λ_ _=>rfl)) ag) Y Y) ag)))) aZ.nd Y Q4)
  (af (lY gJ b (kC 2 (fL a) (cy 0)) (qv 3) (qv 5))
  (af (iL ZE (Nz.QE (rH (nU (qv 1)) (oa (lO b (w_get b (aX (w_fld gJ (eY a) (qv 0)) (qv 1) (λ_ _=>rfl)) (qv 2) Y Y Y Y) (qv 3)))))
  (af (lY gJ b (Et b (kC 3 (eY a) (cy 0)) (qv 1) (λ_ _=>rfl) Y) (qv 2) (qv 5))
  (ar (aB (aX (w_fld gJ (fL a) (qv 0)) (qv 1) (λ_ _=>rfl)) aZ.nd Y Q4))))
  (ar (cf 5 Y (Or.inl Y) Y Y))))))))
abbrev dW:Stmt:=inClass (top 16) 3
def cj:oe ["self", "head", "sign", "fresh", "node"] Qn (ah dW):=by constructor<;>first | rfl | decide +kernel
def bF(F:J4 K "head_behind" "Nodes.head_behind" dW f h)(e:Meth K C "head_behind" f)(B:Le mg)(b:KZ K mg C D)(i:MtAt P w K mg base 1 (gX K C D) 0 "new_node" Qp [false,false,J] aT)(d:MtAt P w K mg base 2 (gX K C D) 0 "node_just_behind" Qr [false,false] ay) :
  MtAt P w K mg base 3 (gX K C D) 0 "head_behind" Qn [false,false] bE:=sP F e b.J1 (kG (by decide +kernel) (by decide +kernel)) cj Y Y (λ_ _ _ _ _ _ j g=>by obtain⟨_,_,_,rfl⟩:=L2.vY g;rfl) λ_ _ _ _ _ _ _ a =>
  (af (dy (IJ a (qv 2) (aX (w_fld gJ (eY b) (qv 0)) (qv 1) (λ_ _=>rfl)) (by with_unfolding_all rfl) Y) (ar (xY (i8 gJ d.at a (by decide) (cy 0) (ae (qv 1) (ae (qv 2) ag))))) bG)
  (af (fe (i8 gJ i.at a (by decide) (cy 0) (ae (w_add (aX (w_fld gJ (fW b) (qv 0)) (qv 1) (λ_ _=>rfl)) ai) (ae ai (ae vm ag)))) cj.nd Y Q4)
  (af (aB (qv 1) cj.nd Y Q4)
  (af (iL ZE (Nz.QE (rH (nU (qv 4)) (oa (sA a (qv 2) (aX (w_fld gJ (eY b) (qv 0)) (qv 4) (λ_ _=>rfl)) (by with_unfolding_all rfl)))))
  (af (lY gJ a (Et a (kC 3 (eY b) (cy 0)) (qv 4) (λ_ _=>rfl) Y) (qv 2) (qv 3))
  (ar (aB (aX (w_fld gJ (fL b) (qv 0)) (qv 4) (λ_ _=>rfl)) cj.nd Y Q4))))
  (af (dy (nU (qv 4)) (ar (xD gJ a (kC 2 (fL b) (cy 0)) (qv 3) (i8 gJ d.at a (by decide) (cy 0) (ae (qv 4) (ae (qv 2) ag))) (λ_=>rfl) Y Y Y)) bG)
  (ar (cf 3 Y (Or.inl Y) Y Y)))))))
abbrev eA:Stmt:=inClass (top 16) 2
def dU:oe ["self", "head", "word", "sign"] Qo (ah eA):=by constructor<;>first | rfl | decide +kernel
def bM(F:J4 K "head_grown" "Nodes.head_grown" eA f e)(b:Meth K C "head_grown" f)(B:Le mg)(h:KZ K mg C D)(g:MtAt P w K mg base 3 (gX K C D) 0 "head_behind" Qn [false,false] bE) :
  MtAt P w K mg base 4 (gX K C D) 0 "head_grown" Qo [false,false] bQ:=sP F b h.J1 (kG (by decide +kernel) (by decide +kernel)) dU Y Y (λ_ _ _ _ _ _ i d=>by obtain⟨_,_,_,rfl⟩:=L2.vY d;rfl) λ_ _ _ _ _ _ _ a =>
  (af (bU ZE Y (bw (qv 2)) (ax 3 dU.nd Y Q4 Q4)
  (ar (fe (i8 gJ g.at a (by decide) (cy 0) (ae (qv 1) (ae (qv 3) ag))) dU.nd Y Q4)))
  (ar (cf 1 Y (Or.inl Y) Y Y)))
abbrev cG:Stmt:=inClass (top 16) 6
def aK:oe ["self", "numbers", "met", "done", "ways", "sign"] Qs (ah cG):=by constructor<;>first | rfl | decide +kernel
def bh{m:Me}(F:J4 K "numbers_by_node" "Nodes.numbers_by_node" cG f g)(d:Meth K C "numbers_by_node" f)(B:Le mg)(b:KZ K mg C D) :
  MpAt P w K mg base 1 ((gX K C D).at m) 0 "numbers_by_node" Qs aM:=vn F d b.J1 (kG (by decide +kernel) (by decide +kernel)) aK Y Y (λ_ _ _ _ _ _ h e=>by obtain⟨_,rfl⟩:=L2.pY e;rfl) λ_ _ _ _ _ _ a =>
  (af (d6 Gu aK.nd Y Q4)
  (af (d6 (dr (ae ai ag)) aK.nd Y Q4)
  (af (aB ai aK.nd Y Q4)
  (af (iL ZE (je oQ t5 jr (qv 3) (eQ B.Kg (ae (qv 2) ag)) (kH _))
  (af (aB (aX (w_fld gJ (eY b) (qv 0)) (aX (qv 2) (qv 3) (λ_ _=>rfl)) (λ_ _=>rfl)) aK.nd Y Q4)
  (af (bU ZE Y (bw (xj B.Ln (ae (qv 4) ag))) (ax 5 aK.nd Y Q4 Q4)
  (ar (dy (sA a (tf a (qv 4) (qv 5) (λ_ _=>rfl)) (qv 1) (by with_unfolding_all rfl)) (af (BB 1 a (tf a (qv 4) (qv 5) (λ_ _=>rfl)) (eQ B.Kg (ae (qv 2) ag)) Y Q4 Y Y (λ_=>rfl) Y Y Y)
  (ar (jB 2 (ae (tf a (qv 4) (qv 5) (λ_ _=>rfl)) ag) Y Y Q4 Y Y))) bG)))
  (ar (aB (w_add (qv 3) ai) aK.nd Y Q4)))))
  (iY 2 (ar (cf 1 Y (Or.inl Y) Y Y)))))))
abbrev gO:Stmt:=inClass (top 16) 7
def d8:oe ["self", "node", "numbers", "link", "ways", "steps"] Qq (ah gO):=by constructor<;>first | rfl | decide +kernel
def dC{m:Me}(F:J4 K "row_of" "Nodes.row_of" gO f g)(d:Meth K C "row_of" f)(B:Le mg)(a:KZ K mg C D) :
  MpAt P w K mg base 1 ((gX K C D).at m) 0 "row_of" Qq bN:=vn F d a.J1 (kG (by decide +kernel) (by decide +kernel)) d8 Y Y (λ_ _ _ _ _ _ h e=>by obtain⟨_,_,_,rfl⟩:=L2.vY e;rfl) λ_ _ _ _ _ _ b =>
  (af (aB (aX (w_fld gJ (fL a) (qv 0)) (qv 1) (λ_ _=>rfl)) d8.nd Y Q4)
  (af (aB (aX (w_fld gJ (eY a) (qv 0)) (qv 1) (λ_ _=>rfl)) d8.nd Y (Or.inr Y))
  (af (aB (Eb B.Nm (ae (gg 1 Qt Y (bw (xj B.Ln (ae (ba 4 Y (Or.inr Q4) Y Y) ag))) (bJ) (λ_ _ _ _ _=>(ax 0 (show List.Nodup Qt from by decide +kernel) Y Q4 (Or.inr Y))) (λ_ _ _ _ _=>(gI (ae (qv 0) (ae (xW b (ba 3 Y (Or.inr Q4) Y Y) (tf b (ba 5 Y (Or.inr Q4) Y Y) (qv 0) (λ_ _=>rfl))) ag)))) Y Y (by decide)) ag)) d8.nd Y Q4)
  (af (dy (G9 (qv 3)) (ar (bu (gI (ae ai (ae ai (ae z8 (ae (qv 5) ag))))))) bG)
  (ar (bu (gI (ae (w_add (aX (w_fld gJ (fW a) (qv 0)) (qv 3) (λ_ _=>rfl)) ai) (ae (aX (w_fld gJ (fW a) (qv 0)) (qv 1) (λ_ _=>rfl)) (ae (xW b (ba 2 Y (Or.inr Q4) Y Y) (qv 3)) (ae (qv 5) ag)))))))))))
abbrev iy:Stmt:=inClass (top 16) 5
def jX:oe ["self", "numbers"] Qs (ah iy):=by constructor<;>first | rfl | decide +kernel
def dZ{m:Me}(F:J4 K "table" "Nodes.table" iy f e)(b:Meth K C "table" f)(B:Le mg)(i:KZ K mg C D)(h:∀m,MpAt P w K mg base 1 ((gX K C D).at m) 0 "numbers_by_node" Qs aM)(g:∀m,MpAt P w K mg base 1 ((gX K C D).at m) 0 "row_of" Qq bN) :
  MpAt P w K mg base 2 ((gX K C D).at m) 0 "table" Qs dY:=vn F b i.J1 (kG (by decide +kernel) (by decide +kernel)) jX Y Y (λ_ _ _ _ _ _ j d=>by obtain⟨_,rfl⟩:=L2.pY d;rfl) λ_ _ _ _ _ _ a =>
  (af (d6 (tK (h _) a (by decide) (ba 0 Y (Or.inr Q4) Y Y) Y) jX.nd Y (Or.inr Y))
  (ar (Gr 1 ["node", "self", "numbers"] Y Y (Or.inr Q4) Y Y (bJ) (λ_ _ _ _ _=>(ax 0 (show List.Nodup (["node", "self", "numbers"]:List Str) from by decide +kernel) Y Q4 (Or.inr Y))) (λ_ _ _ _ _=>(DH (g _) a (by decide) (ba 1 Y (Or.inr Q4) Y Y) (ae (qv 0) (ae (ba 2 Y (Or.inr Q4) Y Y) ag)) Y Y Y)) Y Y (by decide) (λ_=>rfl))))
abbrev kR:Stmt:=top 5
def uO:oe ["thing"] ["thing"] (ah kR):=by constructor<;>first | rfl | decide +kernel
def dw{m:Me}(F:J4 K "is_whole" "is_whole" kR f d)(a:mg "is_whole" = Z (.ref f))(B:Le mg)(h:KZ K mg C D) :
  FnAt P w K mg base 1 "is_whole" ["thing"] ((gX K C D).at m) gA:=ft F a uO Y Y (λ_ _ _ _ _ _ e b=>by obtain⟨_,rfl⟩:=L2.pY b;rfl) λ_ _ _ _ _ _ g =>
  (ar (bu (Gj (w_is .int B.Ki B.TM (qv 0)) (Gq (GP (w_is .bool B.Ki B.Ot (qv 0)))))))
abbrev fE:Stmt:=top 6
def lT:oe Qj Qj (ah fE):=by constructor<;>first | rfl | decide +kernel
def cH{m:Me}(F:J4 K "refuse_no_text" "refuse_no_text" fE f e)(b:mg "refuse_no_text" = Z (.ref f))(B:Le mg)(i:KZ K mg C D)(g:∀m,FnAt P w K mg base 1 "is_whole" ["thing"] ((gX K C D).at m) gA) :
  FnAt P w K mg base 2 "refuse_no_text" Qj ((gX K C D).at m) cB:=ft F b lT Y Y (λ_ _ _ _ _ _ h d=>by obtain⟨_,_,rfl⟩:=L2.di d;rfl) λ_ _ _ _ _ _ a =>
  (ar (dy (Nz.QE (mW (jg (jb (bS (g _) a (ae (qv 1) ag) (by decide) Y Y))) (sv (jg (ju ai (qv 1) (eQ B.Kg (ae (qv 0) ag)) (by with_unfolding_all rfl)))))) (ar zD) bG))
abbrev v8:Stmt:=top 8
def nS:oe ["table", "word", "stands", "sign", "ways"] ["table", "word"] (ah v8):=by constructor<;>first | rfl | decide +kernel
def pb{m:Me}(F:J4 K "walk" "walk" v8 f e)(b:mg "walk" = Z (.ref f))(B:Le mg)(h:KZ K mg C D) :
  FnAt P w K mg base 1 "walk" ["table", "word"] ((gX K C D).at m) oP:=ft F b nS Y Y (λ_ _ _ _ _ _ g d=>by obtain⟨_,_,rfl⟩:=L2.di d;rfl) λ_ _ _ _ _ _ a =>
  (af (d6 (dr (ae ai ag)) nS.nd Y Q4)
  (af (bU ZE Y (bw (qv 1)) (ax 3 nS.nd Y Q4 Q4)
  (af (aB (Ec B.Os (ae (aX (aX (qv 0) (aX (qv 2) EJ (λ_ _=>rfl)) (λ_ _=>rfl)) ai (λ_ _=>rfl)) ag)) nS.nd Y Q4)
  (af (dy (sA a (qv 3) (qv 4) (by with_unfolding_all rfl)) (ar (cf 2 Y (Or.inl Y) Y Y)) bG)
  (ar (jB 2 (ae (tf a (qv 4) (qv 3) (λ_ _=>rfl)) ag) Y Y Q4 Y Y)))))
  (ar (cf 2 Y (Or.inl Y) Y Y))))
abbrev fi:Stmt:=top 10
def kW:oe Qw Qw (ah fi):=by constructor<;>first | rfl | decide +kernel
def bc{m:Me}(F:J4 K "refuse_no_stand" "refuse_no_stand" fi f e)(b:mg "refuse_no_stand" = Z (.ref f))(B:Le mg)(i:KZ K mg C D)(g:∀m,FnAt P w K mg base 1 "is_whole" ["thing"] ((gX K C D).at m) gA) :
  FnAt P w K mg base 2 "refuse_no_stand" Qw ((gX K C D).at m) aO:=ft F b kW Y Y (λ_ _ _ _ _ _ h d=>by obtain⟨_,_,rfl⟩:=L2.di d;rfl) λ_ _ _ _ _ _ a =>
  (ar (dy (Nz.QE (mW (jg (jb (bS (g _) a (ae (qv 1) ag) (by decide) Y Y))) (sv (jg (ju ai (qv 1) (eQ B.Kg (ae (qv 0) ag)) (by with_unfolding_all rfl)))))) (ar zD) bG))
abbrev hJ:Stmt:=top 11
def cT:oe ["table", "before", "number", "row", "way"] ["table"] (ah hJ):=by constructor<;>first | rfl | decide +kernel
def dh{m:Me}(F:J4 K "steps_before" "steps_before" hJ f e)(b:mg "steps_before" = Z (.ref f))(B:Le mg)(h:KZ K mg C D) :
  FnAt P w K mg base 1 "steps_before" ["table"] ((gX K C D).at m) fj:=ft F b cT Y Y (λ_ _ _ _ _ _ g d=>by obtain⟨_,rfl⟩:=L2.pY d;rfl) λ_ _ _ _ _ _ a =>
  (af (d6 vm cT.nd Y Q4)
  (af (bU ZE Y (jU (qv 0) Y B.Kp) (iZ Y (bx (ax 2 cT.nd Y Q4 Q4) (bx (ax 3 cT.nd Y Q4 Q4) gE)))
  (ar (bU ZE Y (bw (aX (qv 3) ai (λ_ _=>rfl))) (ax 4 cT.nd Y Q4 Q4)
  (ar (dy (lO a (aX (aX (qv 0) (aX (qv 4) ai (λ_ _=>rfl)) (λ_ _=>rfl)) ai (λ_ _=>rfl)) (w_add (aX (qv 3) ai (λ_ _=>rfl)) ai)) (ar (BB 1 a (aX (qv 4) ai (λ_ _=>rfl)) (gI (ae (qv 2) (ae (aX (qv 4) ai (λ_ _=>rfl)) ag))) Y Q4 Y Y (λ_=>rfl) Y Y Y)) bG)))))
  (ar (cf 1 Y (Or.inl Y) Y Y))))
abbrev mN:Stmt:=top 9
def fB:oe ["table", "stand", "before", "word", "step"] Qw (ah mN):=by constructor<;>first | rfl | decide +kernel
def eE{m:Me}(F:J4 K "longest" "longest" mN f e)(b:mg "longest" = Z (.ref f))(B:Le mg)(j:KZ K mg C D)(h:∀m,FnAt P w K mg base 2 "refuse_no_stand" Qw ((gX K C D).at m) aO)(g:∀m,FnAt P w K mg base 1 "steps_before" ["table"] ((gX K C D).at m) fj) :
  FnAt P w K mg base 3 "longest" Qw ((gX K C D).at m) b7:=ft F b fB Y Y (λ_ _ _ _ _ _ i d=>by obtain⟨_,_,rfl⟩:=L2.di d;rfl) λ_ _ _ _ _ _ a =>
  (af (vo (bS (h _) a (ae (qv 0) (ae (qv 1) ag)) (by decide) Y Y) Y)
  (af (aB (bS (g _) a (ae (qv 0) ag) (by decide) Y Y) fB.nd Y Q4)
  (af (aB (k9 (by decide +kernel) (by decide)) fB.nd Y Q4)
  (af (iL ZE (wZ a (qv 1) ai)
  (af (aB (tf a (qv 2) (qv 1) (λ_ _=>rfl)) fB.nd Y Q4)
  (af (aB (w_add (aX (qv 4) ai (λ_ _=>rfl)) (qv 3)) fB.nd Y Q4)
  (ar (aB (aX (qv 4) ai (λ_ _=>rfl)) fB.nd Y Q4)))))
  (ar (cf 3 Y (Or.inl Y) Y Y))))))
abbrev sG:Stmt:=top 13
def pC:oe ["table", "stand", "met"] Qw (ah sG):=by constructor<;>first | rfl | decide +kernel
def lN{m:Me}(F:J4 K "chain" "chain" sG f e)(b:mg "chain" = Z (.ref f))(B:Le mg)(i:KZ K mg C D)(g:∀m,FnAt P w K mg base 2 "refuse_no_stand" Qw ((gX K C D).at m) aO) :
  FnAt P w K mg base 3 "chain" Qw ((gX K C D).at m) oh:=ft F b pC Y Y (λ_ _ _ _ _ _ h d=>by obtain⟨_,_,rfl⟩:=L2.di d;rfl) λ_ _ _ _ _ _ a =>
  (af (vo (bS (g _) a (ae (qv 0) (ae (qv 1) ag)) (by decide) Y Y) Y)
  (af (d6 (dr ag) pC.nd Y Q4)
  (af (iL ZE (nU (qv 1))
  (af (jB 2 (ae (qv 1) ag) Y Y Q4 Y Y)
  (ar (aB (aX (aX (qv 0) (qv 1) (λ_ _=>rfl)) ai (λ_ _=>rfl)) pC.nd Y Q4))))
  (ar (cf 2 Y (Or.inl Y) Y Y)))))
abbrev jR:Stmt:=top 14
def cO:oe ["book", "table", "found", "number", "text", "end", "head", "stand"] Qk (ah jR):=by constructor<;>first | rfl | decide +kernel
def fU{m:Me}(F:J4 K "places_by" "places_by" jR f i)(e:mg "places_by" = Z (.ref f))(B:Le mg)(l:KZ K mg C D)(d:∀m,FnAt P w K mg base 3 "chain" Qw ((gX K C D).at m) oh)(b:∀m,FnAt P w K mg base 1 "walk" ["table", "word"] ((gX K C D).at m) oP) :
  FnAt P w K mg base 4 "places_by" Qk ((gX K C D).at m) ic:=ft F e cO Y Y (λ_ _ _ _ _ _ j g=>by obtain⟨_,_,rfl⟩:=L2.di g;rfl) λ_ _ _ _ _ _ a =>
  (af (AV 1 Qm (λ_ _ _ h=>GN h) Y (bw (qv 1)) (bJ) (λ_ _ _ _ _=>(ax 0 (show List.Nodup Qm from by decide +kernel) Y Q4 (Or.inr Y))) (λ_ _ _ _ _=>(dr ag)) cO.nd Y Q4 Y Y (by decide))
  (af (bU ZE Y (jU (qv 0) Y B.Kp) (iZ Y (bx (ax 3 cO.nd Y Q4 Q4) (bx (ax 4 cO.nd Y Q4 Q4) gE)))
  (ar (bU ZE Y (jU (bS (b _) a (ae (qv 1) (ae (qv 4) ag)) (by decide) Y Y) Y B.Kp) (iZ Y (bx (ax 5 cO.nd Y Q4 Q4) (bx (ax 6 cO.nd Y Q4 Q4) gE)))
  (ar (bU ZE Y (bw (bS (d _) a (ae (qv 1) (ae (qv 6) ag)) (by decide) Y Y)) (ax 7 cO.nd Y Q4 Q4)
  (ar (Fc 2 Y (Or.inl Y) Y Y (qv 7) (λ_ _=>rfl) (ae (gI (ae (qv 3) (ae (qv 5) ag))) ag) Y Y Y Y Y Y Y)))))))
  (ar (cf 2 Y (Or.inl Y) Y Y))))
abbrev kM:Stmt:=top 17
def jZ:oe ["book", "nodes", "text"] ["book"] (ah kM):=by constructor<;>first | rfl | decide +kernel
def gF{m:Me}(F:J4 K "table_of" "table_of" kM f e)(b:mg "table_of" = Z (.ref f))(B:Le mg)(l:KZ K mg C D)(h:InAt P w K mg base 2 (gX K C D) 0 0 "Nodes" Qs fD)(i:MtAt P w K mg base 4 (gX K C D) 0 "head_grown" Qo [false,false] bQ)(g:∀m,MpAt P w K mg base 2 ((gX K C D).at m) 0 "table" Qs dY) :
  FnAt P w K mg base 5 "table_of" ["book"] ((gX K C D).at m) gC:=ft F b jZ Y Y (λ_ _ _ _ _ _ j d=>by obtain⟨_,rfl⟩:=L2.pY d;rfl) λ_ _ _ _ _ _ a =>
  (af (d6 (DQ h.at a (by decide) Y Y) jZ.nd Y Q4)
  (af (bU ZE Y (bw (qv 0)) (ax 2 jZ.nd Y Q4 Q4)
  (ar (u6 (i8 gJ i.at a (by decide) (cy 1) (ae ai (ae (qv 2) ag))) Y)))
  (iY 1 (ar (bu (tK (g _) a (by decide) (qv 1) Y))))))
abbrev ll:Stmt:=top 21
def sW:oe ["places"] ["places"] (ah ll):=by constructor<;>first | rfl | decide +kernel
def gH{m:Me}(F:J4 K "texts_in" "texts_in" ll f d)(a:mg "texts_in" = Z (.ref f))(B:Le mg)(h:KZ K mg C D) :
  FnAt P w K mg base 1 "texts_in" ["places"] ((gX K C D).at m) iV:=ft F a sW Y Y (λ_ _ _ _ _ _ e b=>by obtain⟨_,rfl⟩:=L2.pY b;rfl) λ_ _ _ _ _ _ g =>
  (ar (bu (lJ B.Ln B.PZ (ae (gg 1 ["place", "places"] Y (bw (qv 0)) (bJ) (λ_ _ _ _ _=>(ax 0 (show List.Nodup (["place", "places"]:List Str) from by decide +kernel) Y Q4 (Or.inr Y))) (λ_ _ _ _ _=>(aX (qv 0) ai (λ_ _=>rfl))) Y Y (by decide)) ag))))
abbrev kA:Stmt:=top 19
def vc:oe Qk Qk (ah kA):=by constructor<;>first | rfl | decide +kernel
def g7{m:Me}(F:J4 K "texts_by" "texts_by" kA f g)(b:mg "texts_by" = Z (.ref f))(B:Le mg)(j:KZ K mg C D)(h:∀m,FnAt P w K mg base 4 "places_by" Qk ((gX K C D).at m) ic)(e:∀m,FnAt P w K mg base 1 "texts_in" ["places"] ((gX K C D).at m) iV) :
  FnAt P w K mg base 5 "texts_by" Qk ((gX K C D).at m) gM:=ft F b vc Y Y (λ_ _ _ _ _ _ i d=>by obtain⟨_,_,rfl⟩:=L2.di d;rfl) λ_ _ _ _ _ _ a =>
  (ar (bu (gg 1 ["places", "book", "table"] Y (bw (bS (h _) a (ae (qv 0) (ae (qv 1) ag)) (by decide) Y Y)) (bJ) (λ_ _ _ _ _=>(ax 0 (show List.Nodup (["places", "book", "table"]:List Str) from by decide +kernel) Y Q4 (Or.inr Y))) (λ_ _ _ _ _=>(bS (e _) a (ae (qv 0) ag) (by decide) Y Y)) Y Y (by decide))))
abbrev kT:Stmt:=top 22
def ue:oe Qz Qz (ah kT):=by constructor<;>first | rfl | decide +kernel
def hO{m:Me}(F:J4 K "has_each" "has_each" kT f e)(b:mg "has_each" = Z (.ref f))(B:Le mg)(h:KZ K mg C D) :
  FnAt P w K mg base 1 "has_each" Qz ((gX K C D).at m) g9:=ft F b ue Y Y (λ_ _ _ _ _ _ g d=>by obtain⟨_,_,rfl⟩:=L2.di d;rfl) λ_ _ _ _ _ _ a =>
  (ar (bu (w_all B.TN (ae (gg 1 ["number", "texts", "wanted"] Y (bw (qv 1)) (bJ) (λ_ _ _ _ _=>(ax 0 (show List.Nodup (["number", "texts", "wanted"]:List Str) from by decide +kernel) Y Q4 (Or.inr Y))) (λ_ _ _ _ _=>(JH a (qv 0) (ba 1 Y (Or.inr Q4) Y Y) (by with_unfolding_all rfl) Y)) Y Y (by decide)) ag))))
abbrev jx:Stmt:=top 24
def sN:oe Qy Qy (ah jx):=by constructor<;>first | rfl | decide +kernel
def fN{m:Me}(F:J4 K "least_end" "least_end" jx f d)(a:mg "least_end" = Z (.ref f))(B:Le mg)(h:KZ K mg C D) :
  FnAt P w K mg base 1 "least_end" Qy ((gX K C D).at m) eI:=ft F a sN Y Y (λ_ _ _ _ _ _ e b=>by obtain⟨_,_,rfl⟩:=L2.di b;rfl) λ_ _ _ _ _ _ g =>
  (ar (bu (w_add (w_find (qv 0) (ae (qv 1) ag)) (eQ B.Kg (ae (qv 1) ag)))))
abbrev d9:Stmt:=top 23
def dQ:oe Qx ["table", "stands"] (ah d9):=by constructor<;>first | rfl | decide +kernel
def bP{m:Me}(F:J4 K "stand_of_longest" "stand_of_longest" d9 f b)(g:mg "stand_of_longest" = Z (.ref f))(B:Le mg)(q:KZ K mg C D)(j:∀m,FnAt P w K mg base 3 "longest" Qw ((gX K C D).at m) b7)(n:PySem.W.codeHdIn K e d=J)(LT:Tb base d "stand_of_longest.<locals>.<lambda>")(o:Bm mg base)(l:b.code=.ref e) :
  FnAt P w K mg base 6 "stand_of_longest" ["table", "stands"] ((gX K C D).at m) bR:=Gm F g l dQ Y Y (λ_ _ _ _ _ _ p i=>by obtain⟨_,_,rfl⟩:=L2.di i;rfl) λA outer s H E a=>(
  (af (aB (GH B.TL (ae (gg 1 Qu Y (bw (qv 1)) (bJ) (λ_ _ _ _ _=>(ax 0 (show List.Nodup Qu from by decide +kernel) Y Q4 (Or.inr Y))) (λ_ _ _ _ _=>(aX (aX (ba 1 Y (Or.inr Q4) Y Y) (qv 0) (λ_ _=>rfl)) ai (λ_ _=>rfl))) Y Y (by decide)) ag)) dQ.nd Y (Or.inr Y))
  (af (pO 1 Qu (λ_ _ _ h=>xH h) Y (bw (qv 1)) (bJ) (λ_ _ _ _ _=>(ax 0 (show List.Nodup Qu from by decide +kernel) Y Q4 (Or.inr Y))) (λ_ _ _ _ _=>(lO a (aX (aX (ba 1 Y (Or.inr Q4) Y Y) (qv 0) (λ_ _=>rfl)) ai (λ_ _=>rfl)) (ba 3 Y (Or.inr Q4) Y Y))) (λ_ _ _ _ _=>(qv 0)) dQ.nd Y Q4 Y Y (by decide))
  (ar (bu (GU (k0:=3) (y := "number") (N:=Qx) a (by decide) B.P0 (qv 3) (λ_ _ _ _ _ _ a=>((bS (j _) a (ae (ba 1 Y (Or.inr (Or.inr Y)) Y Y) (ae (qv 0) ag)) (by decide) Y Y))) n LT o Y Y Y Y Y Y Y Y Y Y Y (λ_ _ _ _ _=>rfl) Y Y))))))
abbrev oA:Stmt:=top 20
def gx:oe ["book", "some", "number", "table", "wanted", "fitting", "word"] ["book", "some"] (ah oA):=by constructor<;>first | rfl | decide +kernel
def jD{m:Me}(F:J4 K "shared" "shared" oA f j)(b:mg "shared" = Z (.ref f))(B:Le mg)(r:KZ K mg C D)(e:∀m,FnAt P w K mg base 1 "has_each" Qz ((gX K C D).at m) g9)(l:∀m,FnAt P w K mg base 1 "least_end" Qy ((gX K C D).at m) eI)(n:∀m,FnAt P w K mg base 3 "longest" Qw ((gX K C D).at m) b7)(o:∀m,FnAt P w K mg base 2 "refuse_no_text" Qj ((gX K C D).at m) cB)(p:∀m,FnAt P w K mg base 6 "stand_of_longest" ["table", "stands"] ((gX K C D).at m) bR)(g:∀m,FnAt P w K mg base 5 "table_of" ["book"] ((gX K C D).at m) gC)(i:∀m,FnAt P w K mg base 5 "texts_by" Qk ((gX K C D).at m) gM) :
  FnAt P w K mg base 7 "shared" ["book", "some"] ((gX K C D).at m) hU:=ft F b gx Y Y (λ_ _ _ _ _ _ q d=>by obtain⟨_,_,rfl⟩:=L2.di d;rfl) λ_ _ _ _ _ _ a =>
  (af (bU ZE Y (bw (qv 1)) (ax 2 gx.nd Y Q4 Q4)
  (ar (vo (bS (o _) a (ae (ba 0 Y (Or.inr Q4) Y Y) (ae (qv 2) ag)) (by decide) Y Y) Y)))
  (af (aB (bS (g _) a (ae (ba 0 Y (Or.inr Q4) Y Y) ag) (by decide) Y Y) gx.nd Y Q4)
  (af (aB (lJ B.Ln B.PZ (ae (qv 1) ag)) gx.nd Y (Or.inr Y))
  (af (pO 2 Qv (λ_ _ _ h=>xH h) Y (jU (bS (i _) a (ae (ba 0 Y (Or.inr Q4) Y Y) (ae (qv 3) ag)) (by decide) Y Y) Y B.Kp) (pH (bJ) (bJ)) (λ_ _ _ _ _=>(iZ Y (bx (ax 0 (show List.Nodup Qv from by decide +kernel) Y Q4 (Or.inr Y)) (bx (ax 1 (show List.Nodup Qv from by decide +kernel) Y Q4 (Or.inr Y)) gE)))) (λ_ _ _ _ _=>(jb (bS (e _) a (ae (qv 1) (ae (ba 6 Y (Or.inr Q4) Y Y) ag)) (by decide) Y Y))) (λ_ _ _ _ _=>(qv 0)) gx.nd Y Q4 Y Y (by decide))
  (af (aB (bS (n _) a (ae (qv 3) (ae (bS (p _) a (ae (qv 3) (ae (qv 5) ag)) (by decide) Y Y) ag)) (by decide) Y Y) gx.nd Y (Or.inr Y))
  (ar (bu (gI (ae (ba 6 Y (Or.inr Q4) Y Y) (ae (gg 1 Ql Y (bw (qv 1)) (bJ) (λ_ _ _ _ _=>(ax 0 (show List.Nodup Ql from by decide +kernel) Y Q4 (Or.inr Y))) (λ_ _ _ _ _=>(bS (l _) a (ae (aX (ba 1 Y (Or.inr Q4) Y Y) (qv 0) (λ_ _=>rfl)) (ae (ba 7 Y (Or.inr Q4) Y Y) ag)) (by decide) Y Y)) Y Y (by decide)) ag))))))))))
abbrev jd:Stmt:=top 26
def br:oe ["_law_script", "_law_k", "_law_cell", "_law_left", "_law_number", "_law_turn", "_law_more"] Qd (ah jd):=by constructor<;>first | rfl | decide +kernel
def dI{m:Me}(F:J4 K "_law_spring" "_law_spring" jd f e)(b:mg "_law_spring" = Z (.ref f))(B:Le mg)(h:KZ K mg C D) :
  FnAt P w K mg base 1 "_law_spring" Qd ((gX K C D).at m) cQ:=ft F b br Y Y (λ_ _ _ _ _ _ g d=>by obtain⟨_,_,rfl⟩:=L2.di d;rfl) λ_ _ _ _ _ _ a =>
  (af (aB (w_add (w_mul (qv 1) ai) ai) br.nd Y Q4)
  (af (dy (AL (eQ B.Kg (ae (qv 0) ag)) ai) (ar (aB (w_add (aX (qv 0) (w_mod (qv 1) (eQ B.Kg (ae (qv 0) ag))) (λ_ _=>rfl)) (w_mul (nA oj nR (qv 1) (eQ B.Kg (ae (qv 0) ag))) ai)) br.nd Y Q4)) bG)
  (af (dy (lO a (w_mod (qv 2) ai) ai) (ar (bu (dr (ae (nA oj nR (qv 2) ai) ag)))) bG)
  (af (aB (w_mod (w_add (nA oj nR (qv 2) ai) (w_mul ai (qv 1))) ai) br.nd Y Q4)
  (af (aB ai br.nd Y Q4)
  (af (bU ZE Y (eu ai Y B.Kn) (ax 5 br.nd Y Q4 Q4)
  (af (aB (w_mod (w_add (w_add (w_mul (qv 3) ai) (w_mul ai (qv 5))) ai) ai) br.nd Y Q4)
  (af (aB (w_mod (w_mul (qv 3) (qv 3)) ai) br.nd Y Q4)
  (ar (aB (w_add (w_mul (qv 4) ai) (w_mod (w_mul (qv 6) (w_add (w_mod (qv 6) ai) ai)) ai)) br.nd Y Q4)))))
  (ar (bu (dr (ae (qv 4) ag))))))))))
abbrev k8:Stmt:=top 27
def nz:oe ["_law_spring_here", "_law_most", "_law_digit"] Qe (ah k8):=by constructor<;>first | rfl | decide +kernel
def aH{m:Me}(F:J4 K "_law_next" "_law_next" k8 f e)(b:mg "_law_next" = Z (.ref f))(B:Le mg)(h:KZ K mg C D) :
  IoAt P w K mg base 1 "_law_next" Qe ((gX K C D).at m) [false] aA:=q9 F b nz Y Y (λ_ _ _ _ _ _ g d=>by obtain⟨_,_,rfl⟩:=L2.di d;rfl) λ_ _ _ _ _ _ _ a =>
  (af (aB (w_mod (aX (Io (qv 0)) ai (λ_ _=>rfl)) (qv 1)) nz.nd Y Q4)
  (af (lY gJ a (HH (cy 0)) ai (nA oj nR (aX (Io (qv 0)) ai (λ_ _=>rfl)) (qv 1)))
  (ar (cf 2 Y (Or.inl Y) Y Y))))
abbrev kL:Stmt:=top 28
def va:oe Qf Qf (ah kL):=by constructor<;>first | rfl | decide +kernel
def cN{m:Me}(F:J4 K "_law_text" "_law_text" kL f g)(d:mg "_law_text" = Z (.ref f))(B:Le mg)(i:KZ K mg C D)(b:∀m,IoAt P w K mg base 1 "_law_next" Qe ((gX K C D).at m) [false] aA) :
  IoAt P w K mg base 2 "_law_text" Qf ((gX K C D).at m) [false,false] dF:=q9 F d va Y Y (λ_ _ _ _ _ _ h e=>by obtain⟨_,_,_,rfl⟩:=L2.vY e;rfl) λ_ _ _ _ _ _ _ a =>
  (ar (xY (Do (k9 (by decide +kernel) (by decide)) (Bj Qa Y Y B.Kn (bX (b _) a (cP 0 J Y (Or.inr Q4) Y Y (cp (aR (w_add (qv 2) ai)) bI))) (λ_ _ _ _ _=>L2.sM (show List.Nodup Qa from by decide +kernel) Y Q4 (Or.inr Y)) (λ_ _ _ _ _=>(Iv (aR (ba 2 Y (Or.inr Q4) Y Y)) (bX (b _) a (cP 1 J Y (Or.inr Q4) Y Y (cp (aR (eQ B.Kg (ae (ba 2 Y (Or.inr Q4) Y Y) ag))) bI))) (λ_ _=>rfl) Y)) Y Y Y Y (by decide) (λ_=>rfl)) Y Y Y Y Y Y)))
abbrev jz:Stmt:=top 29
def eW:oe ["_law_spring_here", "_law_letters", "_law_few", "_law_start", "_law_step"] Qh (ah jz):=by constructor<;>first | rfl | decide +kernel
def fR{m:Me}(F:J4 K "_law_signs" "_law_signs" jz f g)(d:mg "_law_signs" = Z (.ref f))(B:Le mg)(i:KZ K mg C D)(b:∀m,IoAt P w K mg base 1 "_law_next" Qe ((gX K C D).at m) [false] aA) :
  IoAt P w K mg base 2 "_law_signs" Qh ((gX K C D).at m) [] fP:=q9 F d eW Y Y (λ_ _ _ _ _ _ h e=>by obtain⟨_,rfl⟩:=L2.pY e;rfl) λ_ _ _ _ _ _ _ a =>
  (af (aB (k9 (by decide +kernel) (by decide)) eW.nd Y (Or.inr Y))
  (af (fe (sR (dr (ae ai (ae ai (ae ai (ae ai (ae ai (ae ai (ae ai (ae ai ag))))))))) (bX (b _) a (cP 0 J Y (Or.inl Y) Y Y (cp (aR ai) bI)))) eW.nd Y Q4)
  (af (fe (bX (b _) a (cP 0 J Y (Or.inl Y) Y Y (cp (aR ai) bI))) eW.nd Y (Or.inr Y))
  (af (fe (sR (dr (ae ai (ae ai (ae ai (ae ai ag))))) (bX (b _) a (cP 0 J Y (Or.inl Y) Y Y (cp (aR ai) bI)))) eW.nd Y (Or.inr Y))
  (ar (bu (Cn (k9 (by decide +kernel) (by decide)) (ae (gg 1 Q9 Y (eu (qv 2) Y B.Kn) (bJ) (λ_ _ _ _ _=>(ax 0 (show List.Nodup Q9 from by decide +kernel) Y Q4 (Or.inr Y))) (λ_ _ _ _ _=>(aX (ba 2 Y (Or.inr Q4) Y Y) (w_mod (w_add (ba 4 Y (Or.inr Q4) Y Y) (w_mul (ba 5 Y (Or.inr Q4) Y Y) (qv 0))) ai) (λ_ _=>rfl))) Y Y (by decide)) ag))))))))
abbrev kN:Stmt:=top 30
def dD:oe ["_law_spring_here", "_law_signs_here", "_law_many", "_law_book_here", "_law_k", "_law_text_here", "_law_old"] Qg (ah kN):=by constructor<;>first | rfl | decide +kernel
def gQ{m:Me}(F:J4 K "_law_book" "_law_book" kN f h)(e:mg "_law_book" = Z (.ref f))(B:Le mg)(j:KZ K mg C D)(b:∀m,IoAt P w K mg base 1 "_law_next" Qe ((gX K C D).at m) [false] aA)(d:∀m,IoAt P w K mg base 2 "_law_text" Qf ((gX K C D).at m) [false,false] dF) :
  IoAt P w K mg base 3 "_law_book" Qg ((gX K C D).at m) [false] gD:=q9 F e dD Y Y (λ_ _ _ _ _ _ i g=>by obtain⟨_,_,rfl⟩:=L2.di g;rfl) λ_ _ _ _ _ _ _ a =>
  (af (fe (sR (dr (ae ai (ae ai (ae ai (ae ai (ae ai (ae ai (ae ai (ae ai ag))))))))) (bX (b _) a (cP 0 J Y (Or.inl Y) Y Y (cp (aR ai) bI)))) dD.nd Y Q4)
  (af (d6 (dr ag) dD.nd Y Q4)
  (af (bU ZE Y (eu (qv 2) Y B.Kn) (ax 4 dD.nd Y Q4 Q4)
  (af (fe (bX (d _) a (cP 0 J Y (Or.inl Y) Y Y (cp (aR (qv 1)) (cp (sR (dr (ae ai (ae ai (ae ai (ae ai ag))))) (bX (b _) a (cP 0 J Y (Or.inl Y) Y Y (cp (aR ai) bI)))) bI)))) dD.nd Y Q4)
  (af (BR (wU (AL (qv 4) ai) (wW (vq a.units) zx (bX (b _) a (cP 0 J Y (Or.inl Y) Y Y (cp (aR ai) bI))) (aR ai) (kH _))) (af (fe (G7 3 Y (Or.inl Y) Y Y (bX (b _) a (cP 0 J Y (Or.inl Y) Y Y (cp (aR (qv 4)) bI))) (λ_ _=>rfl) Y) dD.nd Y Q4)
  (ar (fe (EG (qu j7 mM (EG (aR (qv 6)) (t8 (bX (b _) a (cP 0 J Y (Or.inl Y) Y Y (cp (aR (w_add (eQ B.Kg (ae (qv 6) ag)) ai)) bI)))) tM) (aR (qv 5))) tM (t8 (aR ai))) dD.nd Y Q4))) bG)
  (ar (jB 3 (ae (qv 5) ag) Y Y Q4 Y Y)))))
  (af (BR (wU (pd ai (qv 2) ai (by with_unfolding_all rfl)) (wW (vq a.units) zx (bX (b _) a (cP 0 J Y (Or.inl Y) Y Y (cp (aR ai) bI))) (aR ai) (kH _))) (ar (xD gJ a (cy 3) ai (qu DT C9 (qu j7 mM (qu j7 mM (aR (aX (qv 3) ai (λ_ _=>rfl))) (bX (d _) a (cP 0 J Y (Or.inl Y) Y Y (cp (aR (qv 1)) (cp (aR ai) bI))))) (aR (aX (qv 3) EJ (λ_ _=>rfl)))) (qu j7 mM (aR ai) (bX (b _) a (cP 0 J Y (Or.inl Y) Y Y (cp (aR ai) bI))))) (λ_=>rfl) Y Y Y)) bG)
  (ar (cf 3 Y (Or.inl Y) Y Y))))))
abbrev jH:Stmt:=top 31
def dG:oe ["_law_book_here", "_law_found", "_law_t", "_law_text_here", "_law_start", "_law_end"] ["_law_book_here"] (ah jH):=by constructor<;>first | rfl | decide +kernel
def fJ{m:Me}(F:J4 K "_law_parts" "_law_parts" jH f e)(b:mg "_law_parts" = Z (.ref f))(B:Le mg)(h:KZ K mg C D) :
  FnAt P w K mg base 1 "_law_parts" ["_law_book_here"] ((gX K C D).at m) eK:=ft F b dG Y Y (λ_ _ _ _ _ _ g d=>by obtain⟨_,rfl⟩:=L2.pY d;rfl) λ_ _ _ _ _ _ a =>
  (af (d6 (Dc (by decide +kernel) (by decide)) dG.nd Y Q4)
  (af (bU ZE Y (jU (qv 0) Y B.Kp) (iZ Y (bx (ax 2 dG.nd Y (Or.inr Y) Q4) (bx (ax 3 dG.nd Y Q4 Q4) gE)))
  (af (E6 1 a (k9 (by decide +kernel) (by decide)) (w_add (tf a (qv 1) (k9 (by decide +kernel) (by decide)) (λ_ _=>rfl)) (gg 1 Q6 Y (eu (w_add (eQ B.Kg (ae (qv 3) ag)) ai) Y B.Kn) (bJ) (λ_ _ _ _ _=>(ax 0 (show List.Nodup Q6 from by decide +kernel) Y Q4 (Or.inr Y))) (λ_ _ _ _ _=>(gI (ae (ba 3 Y (Or.inr Q4) Y Y) (ae (qv 0) ag)))) Y Y (by decide))) Y Q4 Y Y (λ_=>rfl) Y Y Y)
  (ar (bU ZE Y (eu (eQ B.Kg (ae (qv 3) ag)) Y B.Kn) (ax 4 dG.nd Y Q4 Q4)
  (ar (bU ZE Y (vy (w_add (qv 4) ai) (w_add (eQ B.Kg (ae (qv 3) ag)) ai) Y B.Kn) (ax 5 dG.nd Y Q4 Q4)
  (ar (AE gJ 1 (Bd (qv 3) (uz (qv 4)) (uz (qv 5)) Y) (ae (gI (ae (ba 2 Y (Or.inr Q4) Y Y) (ae (qv 5) ag))) ag)  rfl Y Q4 Y Y Y Y Y Y Y Y Y Y Y Y Y Y))))))))
  (ar (cf 1 Y (Or.inl Y) Y Y))))
abbrev mI:Stmt:=top 32
def eD:oe ["_law_parts_here", "_law_some", "_law_found", "_law_word", "_law_there", "_law_ends", "_law_number"] Qc (ah mI):=by constructor<;>first | rfl | decide +kernel
def iM{m:Me}(F:J4 K "_law_due" "_law_due" mI f e)(b:mg "_law_due" = Z (.ref f))(B:Le mg)(h:KZ K mg C D) :
  FnAt P w K mg base 1 "_law_due" Qc ((gX K C D).at m) gw:=ft F b eD Y Y (λ_ _ _ _ _ _ g d=>by obtain⟨_,_,rfl⟩:=L2.di d;rfl) λ_ _ _ _ _ _ a =>
  (af (aB (k9 (by decide +kernel) (by decide)) eD.nd Y Q4)
  (FA 0 ZE Y Y Q4 Y Y (ax 3 eD.nd Y Q4 Q4)
  (af (aB (gg 2 Qi Y (bw (xW a (qv 0) (qv 3))) (pH (bJ) (bJ)) (λ_ _ _ _ _=>(iZ Y (bx (ax 0 (show List.Nodup Qi from by decide +kernel) Y Q4 (Or.inr Y)) (bx (ax 1 (show List.Nodup Qi from by decide +kernel) Y Q4 (Or.inr Y)) gE)))) (λ_ _ _ _ _=>(qv 0)) Y Y (by decide)) eD.nd Y (Or.inr Y))
  (ar (dy (lO a (eQ B.Kg (ae (mH 1 Qb Y (bw (qv 1)) (bJ) (λ_ _ _ _ _=>(ax 0 (show List.Nodup Qb from by decide +kernel) Y Q4 (Or.inr Y))) (λ_ _ _ _ _=>(sA a (qv 0) (ba 5 Y (Or.inr Q4) Y Y) (by with_unfolding_all rfl))) (λ_ _ _ _ _=>(qv 0)) Y Y (by decide)) ag)) ai) (ar (dy (Nz.QE (mW (AL (eQ B.Kg (ae (qv 3) ag)) (eQ B.Kg (ae (qv 2) ag))) (sv (Nz.QE (rH (lO a (eQ B.Kg (ae (qv 3) ag)) (eQ B.Kg (ae (qv 2) ag))) (oa (je oQ t5 jr (qv 3) (qv 2) (kH _)))))))) (ar (aB (qv 3) eD.nd Y Q4)) bG)) bG))) (λ_=>rfl)
  (af (d6 (dr ag) eD.nd Y Q4)
  (af (bU ZE Y (bw (qv 1)) (ax 6 eD.nd Y (Or.inr Y) Q4)
  (ar (jB 5 (ae (G4 B.P0 (ae (mH 2 Qi Y (bw (xW a (qv 0) (qv 2))) (pH (bJ) (bJ)) (λ_ _ _ _ _=>(iZ Y (bx (ax 0 (show List.Nodup Qi from by decide +kernel) Y Q4 (Or.inr Y)) (bx (ax 1 (show List.Nodup Qi from by decide +kernel) Y Q4 (Or.inr Y)) gE)))) (λ_ _ _ _ _=>(lO a (qv 0) (ba 8 Y (Or.inr Q4) Y Y))) (λ_ _ _ _ _=>(qv 1)) Y Y (by decide)) ag)) ag) Y Y Q4 Y Y)))
  (iY 5 (ar (bu (gI (ae (qv 2) (ae (qv 5) ag))))))))))
abbrev jL:Stmt:=top 33
def eZ:oe ["_law_book_here", "_law_parts_here", "_law_some", "_law_due_here", "_law_handed", "_law_turn", "_law_got"] Q5 (ah jL):=by constructor<;>first | rfl | decide +kernel
def fM{m:Me}(F:J4 K "_law_right" "_law_right" jL f h)(e:mg "_law_right" = Z (.ref f))(B:Le mg)(j:KZ K mg C D)(d:∀m,FnAt P w K mg base 1 "_law_due" Qc ((gX K C D).at m) gw)(b:∀m,FnAt P w K mg base 7 "shared" ["book", "some"] ((gX K C D).at m) hU) :
  FnAt P w K mg base 8 "_law_right" Q5 ((gX K C D).at m) fO:=ft F e eZ Y Y (λ_ _ _ _ _ _ i g=>by obtain⟨_,_,_,rfl⟩:=L2.vY g;rfl) λ_ _ _ _ _ _ a =>
  (af (aB (bS (d _) a (ae (qv 1) (ae (qv 2) ag)) (by decide) Y Y) eZ.nd Y Q4)
  (af (aB (gI (ae (xo B.M9 (ae (qv 0) ag)) (ae (xo B.M9 (ae (qv 2) ag)) ag))) eZ.nd Y Q4)
  (af (bU ZE Y (eu ai Y B.Kn) (ax 5 eZ.nd Y Q4 Q4)
  (af (BD (bS (b _) a (ae (aX (qv 4) ai (λ_ _=>rfl)) (ae (aX (qv 4) ai (λ_ _=>rfl)) ag)) (by decide) Y Y) eZ.nd)
  (af (dy (Nz.QE (mW (jg (jb (w_is .tuple B.Ki B.Nm (qv 6)))) (mW (wZ a (qv 6) (qv 3)) (mW (wZ a (qv 4) (gI (ae (qv 0) (ae (qv 2) ag)))) (sv (jg (jb (w_is .list B.Ki B.M9 (aX (qv 6) ai (λ_ _=>rfl)))))))))) (ar (bu uv)) bG)
  (af (dy (wZ a (mH 1 Q7 Y (bw (aX (qv 6) ai (λ_ _=>rfl))) (bJ) (λ_ _ _ _ _=>(ax 0 (show List.Nodup Q7 from by decide +kernel) Y Q4 (Or.inr Y))) (λ_ _ _ _ _=>(jb (w_is .bool B.Ki B.Ot (qv 0)))) (λ_ _ _ _ _=>(qv 0)) Y Y (by decide)) (dr ag)) (ar (bu uv)) bG)
  (ar (FM 6 Y (Or.inl Y) Y Y ai (λ_ _=>rfl) (ae ai ag) Y Y Y Y Y Y Y))))))
  (ar (bu uv)))))
abbrev ma:Stmt:=top 34
def iX:oe ["_law_script", "_law_spring_here", "_law_signs_here", "_law_book_here", "_law_parts_here", "_law_more", "_law_turn", "_law_some"] ["_law_script"] (ah ma):=by constructor<;>first | rfl | decide +kernel
def FB{m:Me}(F:J4 K "law" "law" ma f b)(B:Le mg)(n:KZ K mg C D)(g:∀m,IoAt P w K mg base 3 "_law_book" Qg ((gX K C D).at m) [false] gD)(e:∀m,IoAt P w K mg base 1 "_law_next" Qe ((gX K C D).at m) [false] aA)(j:∀m,FnAt P w K mg base 1 "_law_parts" ["_law_book_here"] ((gX K C D).at m) eK)(i:∀m,FnAt P w K mg base 8 "_law_right" Q5 ((gX K C D).at m) fO)(h:∀m,IoAt P w K mg base 2 "_law_signs" Qh ((gX K C D).at m) [] fP)(d:∀m,FnAt P w K mg base 1 "_law_spring" Qd ((gX K C D).at m) cQ)(l:∀m,IoAt P w K mg base 2 "_law_text" Qf ((gX K C D).at m) [false,false] dF) :
  FnOk P w K mg base KL 9 f b ["_law_script"] (MK ((gX K C D).at m) BG):=fnV F iX Y Y λ_ _ _ _ _ _ a =>
  (af (d6 (bS (d _) a (ae (qv 0) (ae ai ag)) (by decide) Y Y) iX.nd Y Q4)
  (af (fe (bX (h _) a (cP 1 false Y (Or.inl Y) Y Y bI)) iX.nd Y Q4)
  (af (zW (CT (g _) a (cP 1 false Y (Or.inl Y) Y Y (cp (aR (qv 2)) bI)) (by decide) Y Y Y Y) iX.nd Y (Or.inr Y) Y Q4)
  (iY 3 (af (dy (lO a (ba 3 Y (Or.inr Q4) Y Y) (dr ag)) (ar (BP (bX (l _) a (cP 1 false Y (Or.inl Y) Y Y (cp (aR (qv 2)) (cp (aR ai) bI)))) iX.nd Y (Or.inr Y) Y Y Q4)) bG)
  (iY 1 (af (aB (bS (j _) a (ae (ba 3 Y (Or.inr Q4) Y Y) ag) (by decide) Y Y) iX.nd Y Q4)
  (af (d6 (bS (d _) a (ae (qv 0) (ae ai ag)) (by decide) Y Y) iX.nd Y (Or.inr Y))
  (af (bU ZE Y (eu ai Y B.Kn) (ax 6 iX.nd Y Q4 Q4)
  (af (CY Q8 Y Y B.Kn (qu j7 mM (aR ai) (bX (e _) a (cP 5 false Y (Or.inr Q4) Y Y (cp (aR ai) bI)))) (λ_ _ _ _ _=>L2.sM (show List.Nodup Q8 from by decide +kernel) Y Q4 (Or.inr Y)) (λ_ _ _ _ _=>(bX (e _) a (cP 6 false Y (Or.inr Q4) Y Y (cp (aR (eQ B.Kg (ae (ba 4 Y (Or.inr Q4) Y Y) ag))) bI)))) Y Y Y Y (by decide) (λ_=>rfl) iX.nd Y Q4 Y Q4)
  (iY 7 (ar (dy (jg (jb (bS (i _) a (ae (ba 3 Y (Or.inr Q4) Y Y) (ae (qv 4) (ae (qv 7) ag))) (by decide) Y Y))) (ar (bu uv)) bG)))))
  (iY 5 (ar (bu uv))))))))))))
end
abbrev gN(K:X3)(x:Str)(f:On):Prop:=PySem.W.nsIn K mainGlobals x=Z (Z (.ref f))
abbrev gZ(K:X3)(x:Str):Prop:=PySem.W.nsIn K mainGlobals x=Z L
def all_mk{l:PySem.W.OpenLaw}{K:X3}(X:K.In h)(G:h.Ns mainGlobals b)(hfa:b "law" = Z (.ref fa))(g:∀ns:Vg,ns.length<=63->BG [.scr ns]=Z (.fr,.bl J))(a0:Meth K C "new_node" f0)(F0:J4 K "new_node" "Nodes.new_node" fu f0 fd0)(a1:Mk K C f1)(F1:J4 K "__init__" "Nodes.__init__" fA f1 fd1)(a2:Meth K C "node_just_behind" f2)(F2:J4 K "node_just_behind" "Nodes.node_just_behind" cq f2 fd2)(a3:Meth K C "head_behind" f3)(F3:J4 K "head_behind" "Nodes.head_behind" dW f3 fd3)(a4:Meth K C "head_grown" f4)(F4:J4 K "head_grown" "Nodes.head_grown" eA f4 fd4)(a5:Meth K C "numbers_by_node" f5)(F5:J4 K "numbers_by_node" "Nodes.numbers_by_node" cG f5 fd5)(a6:Meth K C "row_of" f6)(F6:J4 K "row_of" "Nodes.row_of" gO f6 fd6)(a7:Meth K C "table" f7)(F7:J4 K "table" "Nodes.table" iy f7 fd7)(a8:gN K "is_whole" f8)(F8:J4 K "is_whole" "is_whole" kR f8 fd8)(a9:gN K "refuse_no_text" f9)(F9:J4 K "refuse_no_text" "refuse_no_text" fE f9 fd9)(a10:gN K "walk" f10)(F10:J4 K "walk" "walk" v8 f10 Q)(a11:gN K "refuse_no_stand" f11)(F11:J4 K "refuse_no_stand" "refuse_no_stand" fi f11 P)(a12:gN K "steps_before" f12)(F12:J4 K "steps_before" "steps_before" hJ f12 O)(a13:gN K "longest" f13)(F13:J4 K "longest" "longest" mN f13 N)(a14:gN K "chain" f14)(F14:J4 K "chain" "chain" sG f14 M)(a15:gN K "places_by" f15)(F15:J4 K "places_by" "places_by" jR f15 H)(a16:gN K "table_of" f16)(F16:J4 K "table_of" "table_of" kM f16 E)(a17:gN K "texts_in" f17)(F17:J4 K "texts_in" "texts_in" ll f17 D)(a18:gN K "texts_by" f18)(F18:J4 K "texts_by" "texts_by" kA f18 A)(a19:gN K "has_each" f19)(F19:J4 K "has_each" "has_each" kT f19 z)(a20:gN K "least_end" f20)(F20:J4 K "least_end" "least_end" jx f20 y)(a21:gN K "stand_of_longest" f21)(F21:J4 K "stand_of_longest" "stand_of_longest" d9 f21 Tq)(d21:Tq.code=.ref Kc)(h21:PySem.W.codeHdIn K Kc Kt=J)(a22:gN K "shared" f22)(F22:J4 K "shared" "shared" oA f22 x)(a23:gN K "_law_spring" f23)(F23:J4 K "_law_spring" "_law_spring" jd f23 u)(a24:gN K "_law_next" f24)(F24:J4 K "_law_next" "_law_next" k8 f24 t)(a25:gN K "_law_text" f25)(F25:J4 K "_law_text" "_law_text" kL f25 r)(a26:gN K "_law_signs" f26)(F26:J4 K "_law_signs" "_law_signs" jz f26 q)(a27:gN K "_law_book" f27)(F27:J4 K "_law_book" "_law_book" kN f27 o)(a28:gN K "_law_parts" U)(F28:J4 K "_law_parts" "_law_parts" jH U n)(a29:gN K "_law_due" S)(F29:J4 K "_law_due" "_law_due" mI S j)(a30:gN K "_law_right" R)(F30:J4 K "_law_right" "_law_right" jL R i)(a31:gN K "law" f)(l31:K.lookup f=Z ⟨VJ,VI,.func (PySem.W.fnOf "law" "law" (d5 ma) (bg ma) (ah ma) .none Sv TC Sj TQ Rt TF),U7⟩)(c31:PySem.W.codeIn K Rt "law" = J)(k31:PySem.W.keepIn K (.ref f)=J)(R0:gZ K "all")(P7:gZ K "bool")(P6:gZ K "dict")(Mu:gZ K "enumerate")(RZ:gZ K "int")(Mc:gZ K "isinstance")(RY:gZ K "len")(P5:gZ K "list")(RX:gZ K "max")(RW:gZ K "min")(OM:gZ K "range")(RV:gZ K "set")(NS:gZ K "sorted")(OL:gZ K "tuple")(w_Nodes:gN K "Nodes" C)(J1:LV K C)(Kl:dz K C "longs")(Km:dz K C "links")(Kv:dz K C "ways")
  : ∃fd:Re,(∀(s:KB)(v:PP),BindsTo s fd ⟨[v],[]⟩ [("_law_script",v)])/\∀base:UF,K.In base->base.Ns mainGlobals b->Bm b base->(∀p∈([(Kc,Kt, "stand_of_longest.<locals>.<lambda>")]:L2.TU),Tb base p.2.1 p.2.2)->FnOk l.prog w K b base KL 9 fa fd ["_law_script"] (MK (gx0 K) DD):=by
 have e:=hfa.symm.trans (ZA X G a31);cases e;have B:Le b:=⟨Yw X G R0,Yw X G P7,Yw X G P6,Yw X G Mu,Yw X G RZ,Yw X G Mc,Yw X G RY,Yw X G P5,Yw X G RX,Yw X G RW,Yw X G OM,Yw X G RV,Yw X G NS,Yw X G OL⟩
 have a:KZ K b C C:=⟨rfl,J1,ZA X G w_Nodes,Kl,Km,Kv⟩
 refine⟨PySem.W.fnOf "law" "law" (d5 ma) (bg ma) (ah ma) .none Sv TC Sj TQ Rt TF,λs v=>.of_eq Y,λbase _ _ Lb Lt=>?_⟩;have aL:=aL l.prog w base F0 a0 B a;have cI:=cI l.prog w base F1 a1 B a aL;have aS:=aS l.prog w base F2 a2 B a aL;have bF:=bF l.prog w base F3 a3 B a aL aS;have bM:=bM l.prog w base F4 a4 B a bF;have bh:=λm=>bh (m:=m) l.prog w base F5 a5 B a;have dC:=λm=>dC (m:=m) l.prog w base F6 a6 B a;have dZ:=λm=>dZ (m:=m) l.prog w base F7 a7 B a bh dC;have dw:=λm=>dw (m:=m) l.prog w base F8 (ZA X G a8) B a;have cH:=λm=>cH (m:=m) l.prog w base F9 (ZA X G a9) B a dw;have pb:=λm=>pb (m:=m) l.prog w base F10 (ZA X G a10) B a;have bc:=λm=>bc (m:=m) l.prog w base F11 (ZA X G a11) B a dw;have dh:=λm=>dh (m:=m) l.prog w base F12 (ZA X G a12) B a;have eE:=λm=>eE (m:=m) l.prog w base F13 (ZA X G a13) B a bc dh;have lN:=λm=>lN (m:=m) l.prog w base F14 (ZA X G a14) B a bc;have fU:=λm=>fU (m:=m) l.prog w base F15 (ZA X G a15) B a lN pb;have gF:=λm=>gF (m:=m) l.prog w base F16 (ZA X G a16) B a cI bM dZ;have gH:=λm=>gH (m:=m) l.prog w base F17 (ZA X G a17) B a;have g7:=λm=>g7 (m:=m) l.prog w base F18 (ZA X G a18) B a fU gH;have hO:=λm=>hO (m:=m) l.prog w base F19 (ZA X G a19) B a;have fN:=λm=>fN (m:=m) l.prog w base F20 (ZA X G a20) B a;have bP:=λm=>bP (m:=m) l.prog w base F21 (ZA X G a21) B a eE h21 (Lt _ (.head _)) Lb d21;have jD:=λm=>jD (m:=m) l.prog w base F22 (ZA X G a22) B a hO fN eE cH bP gF g7;have dI:=λm=>dI (m:=m) l.prog w base F23 (ZA X G a23) B a;have aH:=λm=>aH (m:=m) l.prog w base F24 (ZA X G a24) B a;have cN:=λm=>cN (m:=m) l.prog w base F25 (ZA X G a25) B a aH;have fR:=λm=>fR (m:=m) l.prog w base F26 (ZA X G a26) B a aH;have gQ:=λm=>gQ (m:=m) l.prog w base F27 (ZA X G a27) B a aH cN;have fJ:=λm=>fJ (m:=m) l.prog w base F28 (ZA X G a28) B a;have iM:=λm=>iM (m:=m) l.prog w base F29 (ZA X G a29) B a;have fM:=λm=>fM (m:=m) l.prog w base F30 (ZA X G a30) B a iM jD;exact C2 Y (FB l.prog w base (m:=λ_=>L) (AD (st:=ma) l31 c31 k31) B a gQ aH fJ fM fR dI cN) g
end T32
open PySem PySem.W PyProof.Rows PySem.W.X PySem.W.ZRun
set_option maxRecDepth 100000 in
set_option maxHeartbeats 0 in
theorem PySem.Challenge.cw_allparts_k32_the_longest_shared_holds : PySem.Challenge.rw_allparts_k32_the_longest_shared.Holds := by
 w_on;o_law;k_head;(case hw=>w_witness2)
 k_fill
 refine VS.zH (l:=PySem.Challenge.rw_allparts_k32_the_longest_shared) (k:=9) (x := "_law_script") (tb:=[(202,200, "stand_of_longest.<locals>.<lambda>")]) rfl rfl ⟨rfl,by decide,by decide⟩ (by decide) (by decide +kernel) (fun _=>by kernel_rfl) (fun _=>(List.forall_mem_cons.mpr ⟨by kernel_rfl,(fun _ h=>nomatch h)⟩)) ?F
 case F =>
  intro w mg fa h KX G hmg;apply T32.all_mk KX G hmg T32.Af
  (case w_Nodes=>unfold T32.gN;k_is)
  all_goals first | (refine' L2.AD ?l ?c ?k;(case l=>k_is);(case c=>k_is);(case k=>k_is)) | (refine' ⟨?l,?c,?k⟩;(case l=>k_is);(case c=>k_is);(case k=>k_is)) | (refine' ⟨?l,?c,?k,?d⟩;(case l=>k_is);(case c=>k_is);(case k=>k_is);(case d=>k_is)) | (unfold T32.gN;k_is) | (unfold T32.gZ;k_is) | (unfold L2.dz;k_is) | k_is | exact rfl | kernel_rfl
end
