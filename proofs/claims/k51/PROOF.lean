import PyProof.Rows.All
import Wide.All
import OpenK.AllK
import PySem.Challenge.RW_allparts_k51_tables_written
set_option linter.all false
set_option bootstrap.genMatcherCode false
set_option genSizeOf false
noncomputable section
namespace PySem.W.Fast
def tw18376015533120091936:True:=⟨⟩
def tw7704445752929844702:True:=⟨⟩
def tw5941215131916390487:True:=⟨⟩
def tw2866893130317923078:True:=⟨⟩
def tw5166097596654779090:True:=⟨⟩
def tw10258643500982627621:True:=⟨⟩
def tw3050716206755936497:True:=⟨⟩
def tw15926548124524079:True:=⟨⟩
def tw4209651169841400463:True:=⟨⟩
def tw15731853080021860904:True:=⟨⟩
def tw3779429298309453766:True:=⟨⟩
def tw3208028597266183351:True:=⟨⟩
def tw795427805715519117:True:=⟨⟩
def tw16724996500471552212:True:=⟨⟩
def tw7007276550245776573:True:=⟨⟩
def tw4943413227410769743:True:=⟨⟩
def tw11763116044197560788:True:=⟨⟩
def tw11913281635936087877:True:=⟨⟩
def tw8414713536019700818:True:=⟨⟩
def tw9208340693524375675:True:=⟨⟩
def tw12196497983305643551:True:=⟨⟩
def tw14594734443205920861:True:=⟨⟩
def tw4521112036828473326:True:=⟨⟩
def tw15246062812951850679:True:=⟨⟩
def tw15607222095152173599:True:=⟨⟩
def tw14411313290392363781:True:=⟨⟩
def tw13211486486249417603:True:=⟨⟩
def tw10573409884112784837:True:=⟨⟩
def tw12737833345666138804:True:=⟨⟩
def tw9025847162229140521:True:=⟨⟩
def tw2739033883140273888:True:=⟨⟩
def tw11850624332353171961:True:=⟨⟩
def tw3920352098278514587:True:=⟨⟩
def tw12675726379068556550:True:=⟨⟩
def tw4105610900394302281:True:=⟨⟩
def tw2019690244022189796:True:=⟨⟩
def tw1145540065095865344:True:=⟨⟩
def tw12656763011956551761:True:=⟨⟩
def tw9288769822240099308:True:=⟨⟩
def tw5126148641037778497:True:=⟨⟩
def tw17098300664159021533:True:=⟨⟩
def tw5638248472514824877:True:=⟨⟩
def tw3531329141892770267:True:=⟨⟩
def tw5349124280885346187:True:=⟨⟩
def tw8954036657046462262:True:=⟨⟩
def tw2795551898678116129:True:=⟨⟩
def tw13789351451134884662:True:=⟨⟩
def tw11195158309955372408:True:=⟨⟩
def tw2280165226958057454:True:=⟨⟩
def tw13966283463402130090:True:=⟨⟩
def tw10441803101200971946:True:=⟨⟩
def tw13820040493167719525:True:=⟨⟩
def tw3756125976951242120:True:=⟨⟩
def tw213705082666329704:True:=⟨⟩
def tw984245085016073964:True:=⟨⟩
def tw5945463024161931139:True:=⟨⟩
def tw15875394756064684907:True:=⟨⟩
def tw975653655968844517:True:=⟨⟩
def tw16653678303929808463:True:=⟨⟩
def tw16118447498657873189:True:=⟨⟩
def tw17504952406780869876:True:=⟨⟩
def tw14611036106884125678:True:=⟨⟩
def tw15525348511682676794:True:=⟨⟩
def tw8336200708730363615:True:=⟨⟩
def tw16451763153745673266:True:=⟨⟩
def tw15897605631305340986:True:=⟨⟩
def tw5724520841238400263:True:=⟨⟩
def tw4953196082610417464:True:=⟨⟩
def tw10101793201746662567:True:=⟨⟩
def tw17176147559833611274:True:=⟨⟩
def tw277013053839788820:True:=⟨⟩
def tw15538821104604863850:True:=⟨⟩
def tw3016748139740385389:True:=⟨⟩
def tw15842719199332768673:True:=⟨⟩
def tw12770487071668352657:True:=⟨⟩
def tw14428886278339911305:True:=⟨⟩
def tw8902653797769440510:True:=⟨⟩
def tw16775339048195795356:True:=⟨⟩
def tw411887992239135743:True:=⟨⟩
def tw16155244162253159453:True:=⟨⟩
def tw3348120040592515407:True:=⟨⟩
def tw6817876601356931406:True:=⟨⟩
def tw1559694107245045047:True:=⟨⟩
def tw9361677856424911507:True:=⟨⟩
def tw1718446500368114288:True:=⟨⟩
def tw17438395778166705975:True:=⟨⟩
def tw1642061600186209319:True:=⟨⟩
def tw16568059932636202639:True:=⟨⟩
def tw4873885324378418273:True:=⟨⟩
def tw4789962917675394022:True:=⟨⟩
def tw8298864031464964896:True:=⟨⟩
def tw8749312482811944728:True:=⟨⟩
def tw9475864753296988336:True:=⟨⟩
def tw6619079470000650799:True:=⟨⟩
def tw14603082766977385646:True:=⟨⟩
def tw4389975040513874570:True:=⟨⟩
def tw6312505370909443380:True:=⟨⟩
def tw16486000279223916684:True:=⟨⟩
def tw1701398161902376133:True:=⟨⟩
def tw14346526293218625171:True:=⟨⟩
def tw9219700000933229231:True:=⟨⟩
def tw881653137602627917:True:=⟨⟩
def tw5256244809364173224:True:=⟨⟩
def tw12491163361920564880:True:=⟨⟩
def tw3109438224592089896:True:=⟨⟩
def tw18188715474527542233:True:=⟨⟩
def tw11013405986821620714:True:=⟨⟩
def tw15710521783668314107:True:=⟨⟩
def tw6623523715302627833:True:=⟨⟩
def tw15791897143724588558:True:=⟨⟩
def tw96084021963564746:True:=⟨⟩
def tw16753333010180235611:True:=⟨⟩
def tw14496179464494371915:True:=⟨⟩
def tw6904770125722399897:True:=⟨⟩
def tw14898164606017629818:True:=⟨⟩
def tw13677930398701101361:True:=⟨⟩
def tw14581076089348266205:True:=⟨⟩
def tw15365144083583036540:True:=⟨⟩
def tw11749825466441001374:True:=⟨⟩
def tw14538883651215952672:True:=⟨⟩
def tw17299793652384616737:True:=⟨⟩
def tw18271764876913049557:True:=⟨⟩
def tw15079870457594748177:True:=⟨⟩
def tw14497379324968072852:True:=⟨⟩
def tw13410543659532740308:True:=⟨⟩
def tw6658066219915096795:True:=⟨⟩
def tw2864409136601573804:True:=⟨⟩
def tw11462874388913702767:True:=⟨⟩
def tw741368401961829503:True:=⟨⟩
def tw14483525512177881881:True:=⟨⟩
def tw10864043935597667676:True:=⟨⟩
def tw7342465807933722368:True:=⟨⟩
def tw9847298532806889027:True:=⟨⟩
def tw15883739683050950161:True:=⟨⟩
def tw6870323833931055432:True:=⟨⟩
def tw11402083622509210685:True:=⟨⟩
def tw1957873208765765530:True:=⟨⟩
def tw14201673380139214648:True:=⟨⟩
def tw1369584259577662863:True:=⟨⟩
def tw1257055450962747091:True:=⟨⟩
def tw10667858009809408005:True:=⟨⟩
def tw4815155412210556898:True:=⟨⟩
def tw9553506756306031101:True:=⟨⟩
def tw4505307947671580359:True:=⟨⟩
def tw13822876705712101206:True:=⟨⟩
def tw2149813442138158717:True:=⟨⟩
def tw9031922081838112536:True:=⟨⟩
def tw5776213747716814367:True:=⟨⟩
def tw14216065773989167202:True:=⟨⟩
def tw13130070566352146150:True:=⟨⟩
def tw3624097203267902372:True:=⟨⟩
def tw7620093832286656103:True:=⟨⟩
def tw6645605317816853416:True:=⟨⟩
def tw16640980938178529930:True:=⟨⟩
def tw117356695505573574:True:=⟨⟩
def tw11712351675121909733:True:=⟨⟩
def tw17563660944091621969:True:=⟨⟩
def tw8642955514535866702:True:=⟨⟩
def tw11888275450606862176:True:=⟨⟩
def tw6991503257066241682:True:=⟨⟩
def tw4925218519701771994:True:=⟨⟩
def tw2954237978905627100:True:=⟨⟩
def tw17786109119563689321:True:=⟨⟩
def tw1047825027016849583:True:=⟨⟩
def tw9584745336876420049:True:=⟨⟩
def tw11705747139723064501:True:=⟨⟩
def tw5756815458349321984:True:=⟨⟩
def tw16864233368966648623:True:=⟨⟩
def tw13890207717136058873:True:=⟨⟩
def tw2546119264767384424:True:=⟨⟩
def tw13424596649069324297:True:=⟨⟩
def tw12419680324509639782:True:=⟨⟩
def tw9720733381248091458:True:=⟨⟩
def tw13560123999413070734:True:=⟨⟩
def tw11729910959319967860:True:=⟨⟩
def tw10594624393448355857:True:=⟨⟩
def tw6513277111832475349:True:=⟨⟩
def tw4180849905538111675:True:=⟨⟩
def tw12800176171806120784:True:=⟨⟩
def tw9395690377041636236:True:=⟨⟩
def tw5760247996695325884:True:=⟨⟩
def tw15733885501030761671:True:=⟨⟩
def tw1545310004824982889:True:=⟨⟩
def tw9738634860859019332:True:=⟨⟩
def tw8486706750049612643:True:=⟨⟩
def tw6406224743323552949:True:=⟨⟩
def tw17324795430784772344:True:=⟨⟩
def tw6721550534692637227:True:=⟨⟩
def tw5781677701796511731:True:=⟨⟩
def tw9122950198318654425:True:=⟨⟩
def tw9474544464718047221:True:=⟨⟩
def tw13832771310679582723:True:=⟨⟩
def tw5292945577394438568:True:=⟨⟩
def tw816493688725868293:True:=⟨⟩
def tw6860430823225585882:True:=⟨⟩
def tw4861669815145397569:True:=⟨⟩
def tw2087653608000017221:True:=⟨⟩
def tw1740401816598880572:True:=⟨⟩
def tw15029880485777594910:True:=⟨⟩
def tw9520118674130916811:True:=⟨⟩
def tw4417892214810362004:True:=⟨⟩
def tw4340069147629131517:True:=⟨⟩
def tw4214537351235742835:True:=⟨⟩
def tw17350064185627336949:True:=⟨⟩
def tw12627324214613897647:True:=⟨⟩
def tw8005824066703810471:True:=⟨⟩
def tw6569569040817967900:True:=⟨⟩
def tw5709933400578544472:True:=⟨⟩
def tw2070455914092421323:True:=⟨⟩
def tw14245246764327876120:True:=⟨⟩
def tw13915715961883323688:True:=⟨⟩
def tw1821285109282945467:True:=⟨⟩
def tw589790445683271990:True:=⟨⟩
def tw5715943991110358243:True:=⟨⟩
def tw2812964311866368215:True:=⟨⟩
def tw9783430346959442516:True:=⟨⟩
def tw5048409776084280766:True:=⟨⟩
def tw18016505912804943450:True:=⟨⟩
def tw16181552593149150232:True:=⟨⟩
def tw146810068442712373:True:=⟨⟩
def tw14351400715710046526:True:=⟨⟩
def tw2466267149022404121:True:=⟨⟩
def tw999264783463407483:True:=⟨⟩
def tw9683208107626028628:True:=⟨⟩
def tw9604761839813847998:True:=⟨⟩
def tw9468625547362495269:True:=⟨⟩
def tw9404958416610619038:True:=⟨⟩
def tw938725518629875635:True:=⟨⟩
def tw9166674091684812709:True:=⟨⟩
def tw9161562549150696:True:=⟨⟩
def tw8528199287266075617:True:=⟨⟩
def tw8105527342145185786:True:=⟨⟩
def tw8028105575012899355:True:=⟨⟩
def tw7966617669020024896:True:=⟨⟩
def tw7272530826133412559:True:=⟨⟩
def tw7173604999330251170:True:=⟨⟩
def tw6973108710304782263:True:=⟨⟩
def tw6822627529487935265:True:=⟨⟩
def tw6626608379322856168:True:=⟨⟩
def tw6294443041645033586:True:=⟨⟩
def tw6273960823821929942:True:=⟨⟩
def tw5856005584309467711:True:=⟨⟩
def tw5846184941342183053:True:=⟨⟩
def tw5749067249301987520:True:=⟨⟩
def tw5483194570759796028:True:=⟨⟩
def tw5369532105915906757:True:=⟨⟩
def tw5316113565476171472:True:=⟨⟩
def tw5091260670493969113:True:=⟨⟩
def tw4679945847436189406:True:=⟨⟩
def tw4422808713969015938:True:=⟨⟩
def tw4396702993989303853:True:=⟨⟩
def tw385869688555106875:True:=⟨⟩
def tw3328298909160729051:True:=⟨⟩
def tw29469662753495853:True:=⟨⟩
def tw2856168011071599625:True:=⟨⟩
def tw197297284998503220:True:=⟨⟩
def tw1853357431609249731:True:=⟨⟩
def tw18255573319064159793:True:=⟨⟩
def tw18119034758827376201:True:=⟨⟩
def tw18108724948807498122:True:=⟨⟩
def tw17941589778791995147:True:=⟨⟩
def tw17893850460549600529:True:=⟨⟩
def tw17676524973584877263:True:=⟨⟩
def tw17635969340890004482:True:=⟨⟩
def tw17594198613689752695:True:=⟨⟩
def tw17438815995952705909:True:=⟨⟩
def tw17062036870110024590:True:=⟨⟩
def tw16789047810505144446:True:=⟨⟩
def tw16620849603890803791:True:=⟨⟩
def tw16493086368328510281:True:=⟨⟩
def tw16402676536681980509:True:=⟨⟩
def tw16035191250960289933:True:=⟨⟩
def tw15989832959076246264:True:=⟨⟩
def tw15744556238732487885:True:=⟨⟩
def tw1560475641623999376:True:=⟨⟩
def tw15129888249387032194:True:=⟨⟩
def tw15067343050076269025:True:=⟨⟩
def tw14954875643521375961:True:=⟨⟩
def tw14923324030418765203:True:=⟨⟩
def tw13890021364284844529:True:=⟨⟩
def tw13453861452789649249:True:=⟨⟩
def tw13165666524019838360:True:=⟨⟩
def tw1277776484992679996:True:=⟨⟩
def tw12563526174974924881:True:=⟨⟩
def tw11762091922845216475:True:=⟨⟩
def tw1151076640636303798:True:=⟨⟩
def tw11262149845999312090:True:=⟨⟩
def tw11062480139542482004:True:=⟨⟩
def tw10593220239407820178:True:=⟨⟩
def tw1011335034038154720:True:=⟨⟩
def tw10000724418887456561:True:=⟨⟩
end PySem.W.Fast
open Option renaming some->Z, none->L
open Bool renaming true->B, false->O
theorem q0(h:True:=by first | exact .inl Y | exact .inr Y | assumption):True:=h
theorem q1(h:True:=by decide):True:=h
theorem q2(h:True:=by rfl):True:=h
theorem q3(h:True:=by intro _;rfl):True:=h
theorem q4(h:True:=by with_unfolding_all rfl):True:=h
theorem q5(h:True:=by first | exact Or.inl Y | exact Or.inr (Or.inl Y) | exact Or.inr (Or.inr Y)):True:=h
theorem q6(h:True:=by first | exact Or.inl Y | exact Or.inr Y):True:=h
theorem q7(h:True:=by first | exact .inl Y | exact .inr Y):True:=h
theorem q8(h:True:=by exact rfl):True:=h
set_option hygiene false
local macro_rules|`({`q0,$x})=>`(autoParam $x q0._auto_1)|`({`q1,$x})=>`(autoParam $x q1._auto_1)|`({`q2,$x})=>`(autoParam $x q2._auto_1)|`({`q3,$x})=>`(autoParam $x q3._auto_1)|`({`q4,$x})=>`(autoParam $x q4._auto_1)|`({`q5,$x})=>`(autoParam $x q5._auto_1)|`({`q6,$x})=>`(autoParam $x q6._auto_1)|`({`q7,$x})=>`(autoParam $x q7._auto_1)|`({`q8,$x})=>`(autoParam $x q8._auto_1)
theorem Y.{u}{α:Sort u}{a:α}:a=a:=rfl
open PySem renaming Shared->FS, model->GM, sizeLine->IR, Addr->KB, Value->KF, wpAny->KM, starEach->PP, FuncData->Pi, Program->Pv, Around->P3, keywordEach->Re, compareOp->SB, Heap->SC, World->SL, attributeBase->SZ, foldedSetIterable->UF
open PyProof.Rows renaming Keyed->On
set_option linter.all false
set_option maxRecDepth 100000
set_option Elab.async false
set_option maxHeartbeats 4000000
abbrev Xz:=PySem.Value->PySem.Shared->Prop
abbrev Xl:=List (PySem.Addr×PySem.Obj)
abbrev Wm:=List (List PySem.Addr)
abbrev W0:=PySem.W.Frag
abbrev W3:=PySem.Str->Option PySem.Value
abbrev W4:=List PySem.Addr
abbrev W5:=List PySem.Value
abbrev W6:=Option PySem.Value
abbrev W7:=List Nat
abbrev W8:=List Int
abbrev W9:=List (List (List Nat))
abbrev Zp:=@if_pos
abbrev Zn:=@if_neg
abbrev ZO:=@beq_eq_false_iff_ne
abbrev ZK:=@decide_eq_false
open Option renaming bind_eq_some_iff->Zz,map_eq_some_iff->Zu,bind_some->Zs,isSome_map->YJ,isSome_iff_exists->YH,getD_some->YD
open List renaming length_map->Zy,mem_cons_of_mem->Zx,mem_cons_self->Zw,length_append->Zt,getD_eq_getElem?_getD->Zr,getElem?_eq_getElem->Zq,mem_cons->Zk,mem_singleton->Zj,map_cons->Zi,length_cons->Zf,mem_append->Zd,length_singleton->Za,getElem?_eq_some_iff->ZZ,nodup_cons->ZX,zip_cons_cons->ZV,getElem?_map->ZU,flatten_cons->ZR,size_toArray->ZQ,mem_append_right->ZM,nodup_append->ZL,append_nil->ZJ,getElem?_eq_none->ZI,map_map->ZF,all_eq_true->ZE,mem_map->Z0,length_range->Z1,append_assoc->Z2,map_append->Z3,getElem?_append_left->Z5,getElem_mem->Z7,getElem?_append_right->Yy,mem_append_left->Yv,sublist_cons_self->Yu,length_set->Yt,find?_cons->Ys,suffix_refl->Yr,lookup_cons->Yq,length_zip->Yn,getElem?_eq_none_iff->Yk,flatten_append->Yi,mem_of_getElem?->Yf,nodup_nil->YY,mem_range->YX,getElem?_replicate->YW,any_cons->YV,cons_append->YR,sublist_append_right->YN,getElem?_zip_eq_some->YM,nil_append->YK,getElem?_set_ne->YI,getD_cons_succ->YG,length_drop->YC,take_of_length_le->Y0,drop_of_length_le->Y1,suffix_nil->Y5,length_replicate->Y6,cons_lt_cons_iff->Y7,pairwise_map->Y8,pairwise_cons->Xp,map_nil->Xg,length_filter_le->Xa,any_eq_true->XY,sum_cons->XX,nil_suffix->XT,mem_filter->XS,map_congr_left->XR,perm_ext_iff_of_nodup->XH,drop_eq_getElem_cons->XG,all_cons->XB,not_mem_nil->X1,getElem?_set_self->X3,set_getElem_self->X9,cons_prefix_cons->Wz,map_id->Wy,drop_zero->Wx,filterMap_cons->Wu,findIdx?_cons->Wp,map_set->Wi,getElem?_set->Wh,ext_getElem?->Wg,map_fst_zip->Wb,length_take->Wa,filter_cons->WZ
open PySem renaming wpAny_bind->Zv,wpAny_pure->Zl,wpAny_truthy_bool->Yb,wpAny_mono->YU,sizeLine_eq->YO,wpAny_setState_of->YF,wpAny_newObj_type->YE,wpAny_holding->YB,wpAny_setField->Y3,wpAny_call_entry->Y4,wpAny_passesOwn->Y9,mem_of_lookup->Xs,codeAny_builtin->Xd,wpAny_Call_Name_kw->Xc,tupleKind_room_in1->Xb,codeAny_mono->XU,wpAny_askSetting->XQ,wpAny_typeNameOfWhole_keyiter->XJ,wpAny_pyIter_slot->X4,wpAny_pyIter_list->X5,fits_of_scanBound->X6,typeIs_str->Ww,wpAny_execs_nil->Wr
open PySem.Heap renaming get?_push_of_some->Zo,get?_push_size->Ze,lt_size->ZW,get?_update_self->Yx,size_push->Yj,get?_update_other->Yh
open Nat renaming le_refl->Zm,ne_of_lt->Zg,le_trans->ZY,lt_of_lt_of_le->ZS,le_of_not_lt->ZP,lt_succ_self->Z6,zero_le->Yw,lt_succ_of_lt->Yo,succ_le_succ->Yl,min_eq_left->Yd,lt_irrefl->YZ,le_add_right->YS,lt_of_le_of_lt->YA,min_le_right->Xw,le_of_lt->Xv,le_of_eq->Xu,pos_of_ne_zero->Xq,le_succ->Xm,zero_add->Xj,ne_of_gt->Xi,min_self->Xh,le_of_not_le->XZ,add_sub_cancel->XI,min_eq_right->X0,le_add_right_of_le->X2,lt_trans->Wk,add_sub_of_le->Wj
open Option.some renaming inj->Zh
open Bool renaming false_ne_true->Zc,and_eq_true_iff->Zb,and_eq_true->Ye,eq_iff_iff->X7
open PySem.W renaming mg_of->ZG,mg_none_of->ZA,kia_one->Yg,kia_tup->YL,kitx_list->XF,plainGet_of->Wv,callWith_K->Wq
open Array renaming length_toList->Z4,getElem?_toList->Z8,getElem?_eq_getElem->Yc,getElem?_eq_none->Xe
open Int renaming toNat_natCast->Z9,emod_lt_of_pos->Yz,emod_nonneg->Ym,natCast_nonneg->Xo,toNat_of_nonneg->Wt,ofNat_lt->Wf,mul_le_mul_of_nonneg_right->WY
open PySem.PassesOwn renaming never->Yp
open Ne renaming symm->Ya
open List.Perm renaming refl->YQ
open PySem.Heap.SameBut renaming update->Y2
open PySem.F renaming slot_dict_keyiterator_next->Xy,plainAttrs_list->Xn,type_list_append->XD,slot_list_append->XC,slot_dict_get->X8
open PySem.Around renaming under_plainId->Xr
open PySem.Paired renaming length->Xk
open List.Sublist renaming refl->Xf
open PyProof.Rows renaming callWith_type1->XM
open Prod.mk renaming inj->XE
open PySem.Calls renaming callWith_builtin->Ws
open PyProof.Rows.F renaming plain_set_update_loop->We
open PySem.Value renaming isStrOf_shape->Wc
section
namespace L2
def ar{G:Prop}(h:∀P:Prop,(G->P)->P):G:=h G id
end L2
namespace VS
noncomputable abbrev Tx:=W7
inductive T where
 |non | bl (b:Bool) | int (i:Int) | str (s:Tx) | scr (ns:W8)
 |tup (l:List T) | lst (l:List T) | dct (kd:Nat) (l:List (T×T)) | obj (c:Nat) (fs:List (Nat×T))
 deriving Inhabited
abbrev Vw:=List T
noncomputable def dq:Nat:=16777216
mutual
def FW:T->Bool
 |.lst _=>O
 |.dct _ _=>O
 |.obj _ _=>O
 |.tup l=>ij l
 |_=>B
def ij:Vw->Bool
 |[]=>B
 |t :: r=>FW t&&ij r
end
mutual
@[simp] def eqT:T->T->Bool
 |.non,.non=>B
 |.bl a,.bl b=>a==b
 |.bl a,.int i=>(if a then 1 else 0)==i
 |.int i,.bl a=>i==(if a then 1 else 0)
 |.int i,.int j=>i==j
 |.str s,.str t=>s==t
 |.tup a,.tup b=>rE a b
 |.lst a,.lst b=>rE a b
 |_,_=>O
def rE:Vw->Vw->Bool
 |[],[]=>B
 |a :: d,b :: bs=>eqT a b&&rE d bs
 |_,_=>O
end
noncomputable def GD:Nat->T->Bool
 |_,.non=>B
 |_,.bl _=>B
 |_,.int _=>B
 |_,.str _=>B
 |n+1,.tup l=>l.all (GD n)
 |n+1,.lst l=>l.all (GD n)
 |_,_=>O
inductive Md where | fr | pu | bo
 deriving DecidableEq,Inhabited
noncomputable def Md.join:Md->Md->Md
 |.bo,_=>.bo
 |_,.bo=>.bo
 |.pu,_=>.pu
 |_,.pu=>.pu
 |.fr,.fr=>.fr
inductive Cell where | pu (t:T) | ow (t:T)
 deriving Inhabited
abbrev Vz:=Option Cell
noncomputable abbrev Env:=List (Vz)
noncomputable abbrev Val:=Md×T
abbrev Vx:=Option Val
abbrev Vy:=List Val
abbrev Ex:=Env->Vx
abbrev Gf:=Env->Option (Vy)
@[simp] def up(m:Md)(t:T):Val:=(if FW t then .fr else m,t)
noncomputable def EG:T->Bool
 |.lst _=>B
 |.dct _ _=>B
 |.obj _ _=>B
 |_=>O
@[simp] def cellOf:Val->Vz
 | (.fr,t)=>Z (if EG t then .ow t else .pu t)
 | (.pu,t)=>Z (.pu t)
 | (.bo,_)=>L
inductive Out where | nx (U:Env) | rt (v:Val) (U:Env) | bk (U:Env) | ct (U:Env)
abbrev Sx:=Env->Option Out
@[simp] noncomputable def eC(t:T)(_:Env):Vx:=Z (.fr,t)
abbrev Q3(i:Int):Ex:=eC (.int i)
@[simp] def ab(i:Nat)(U:Env):Vx:=match U[i]? with
 |some (some (.pu t))=>Z (up .pu t)
 |some (some (.ow t))=>Z (.bo,t)
 |_=>L
@[simp] noncomputable def e1(f:Val->Vx)(a:Ex)(U:Env):Vx:=(a U).bind f
@[simp] noncomputable def e2(f:Val->Val->Vx)(a b:Ex)(U:Env):Vx:=(a U).bind λx=>(b U).bind λy=>f x y
@[simp] noncomputable def ag(_:Env):Option (Vy):=Z []
@[simp] noncomputable def ae(a:Ex)(r:Gf)(U:Env):Option (Vy):=(a U).bind λx=>(r U).bind λxs=>Z (x :: xs)
@[simp] noncomputable def eN(f:Vy->Vx)(a:Gf)(U:Env):Vx:=(a U).bind f
@[simp] def cK:Vy->Md
 |[]=>.fr
 |v :: r=>v.1.join (cK r)
@[simp] noncomputable def trees(l:Vy):Vw:=l.map (·.2)
def Hu(m:Md)(l:Vw):Vx:=if l.length<=dq then Z (if ij l then .fr else m,.lst l) else L
@[simp] def cQ(a:Gf)(U:Env):Vx:=(a U).bind λl=>Hu (cK l) (trees l)
def oC(l:Vy):Vx:=if l.length<=dq then Z (up (cK l) (.tup (trees l))) else L
@[simp] def mG(a:Gf)(U:Env):Vx:=(a U).bind oC
def dput(l:List (T×T))(k v:T):List (T×T):=if l.any (λp=>eqT p.1 k) then l.map (λp=>if eqT p.1 k then (p.1,v) else p) else l++[(k,v)]
noncomputable def jB:T->Bool
 |.int _=>B
 |.str _=>B
 |_=>O
def keyOk:Nat->T->Bool
 |0,t=>jB t
 |1,.tup l=>l.all jB
 |_,_=>O
noncomputable def pairs:List (Ex×Ex)->Env->Option (List (Val×Val))
 |[],_=>Z []
 | (a,b) :: r,U=>(a U).bind λx=>(b U).bind λy=>(pairs r U).map ((x,y) :: ·)
def qH(a:Nat)(b:List (Ex×Ex))(U:Env):Vx:=(pairs b U).bind λl=>if l.all (λp=>keyOk a p.1.2)/\l.length<=15 then
 Z (cK (l.map (·.2)),.dct a (l.foldl (λd p=>dput d p.1.2 p.2.2) [])) else L
noncomputable def LX:T->Option Bool
 |.bl b=>Z b
 |.int i=>Z (i != 0)
 |.str s=>Z (!s.isEmpty)
 |.lst l=>Z (!l.isEmpty)
 |.tup l=>Z (!l.isEmpty)
 |.dct 0 l=>Z (!l.isEmpty)
 |.non=>Z O
 |_=>L
@[simp] noncomputable def fH(a b:Ex)(U:Env):Vx:=(a U).bind λx=>match x.2 with
 |.bl true=>b U
 |.bl false=>Z (.fr,.bl O)
 |_=>L
@[simp] noncomputable def JS(a b:Ex)(U:Env):Vx:=(a U).bind λx=>match x.2 with
 |.bl true=>Z (.fr,.bl B)
 |.bl false=>b U
 |_=>L
@[simp] noncomputable def jF(a:Ex)(U:Env):Vx:=(a U).bind λx=>match x.2 with
 |.bl b=>Z (.fr,.bl (!b))
 |_=>L
@[simp] def Kx(c a b:Ex)(U:Env):Vx:=(c U).bind λx=>(LX x.2).bind λt=>if t then a U else b U
noncomputable def Lm:T->Bool
 |.non=>B
 |_=>O
@[simp] def vm(a:Ex)(U:Env):Vx:=(a U).bind λx=>Z (.fr,.bl (Lm x.2))
@[simp] def ie(a:Ex)(U:Env):Vx:=(a U).bind λx=>Z (.fr,.bl (!Lm x.2))
@[simp] noncomputable def gP(f g:Val->Val->Vx)(a b c:Ex)(U:Env):Vx:=(a U).bind λx=>(b U).bind λy=>(f x y).bind λr=>match r.2 with
 |.bl true=>(c U).bind λz=>g y z
 |.bl false=>Z (.fr,.bl O)
 |_=>L
@[simp] noncomputable def int?:T->Option Int
 |.int i=>Z i
 |_=>L
def bO:Val->Val->Vx
 | (_,.int i),(_,.int j)=>Z (.fr,.int (i+j))
 | (_,.str s),(_,.str t)=>if s.length+t.length<=dq then Z (.fr,.str (s++t)) else L
 | (m,.lst s),(n,.lst t)=>Hu (m.join n) (s++t)
 |_,_=>L
@[simp] noncomputable def qh:Val->Val->Vx
 | (_,.int i),(_,.int j)=>Z (.fr,.int (i-j))
 |_,_=>L
noncomputable def Ob:Int:=4611686018427387904
noncomputable def Nw:Int:=18446744073709551616
def kL:Val->Val->Vx
 | (_,.int i),(_,.int j)=>if (-Nw<i/\i<Nw)\/(-Nw<j/\j<Nw) then Z (.fr,.int (i*j)) else L
 |_,_=>L
noncomputable def bC:Val->Val->Vx
 | (_,.int i),(_,.int j)=>if 0<j/\j<1073741824 then Z (.fr,.int (i/j)) else L
 |_,_=>L
noncomputable def oMod:Val->Val->Vx
 | (_,.int i),(_,.int j)=>if 0<j then Z (.fr,.int (i%j)) else L
 |_,_=>L
noncomputable def IE:Tx->Tx->Bool
 |[],[]=>O
 |[],_ :: _=>B
 |_ :: _,[]=>O
 |a :: d,b :: bs=>if a<b then B else if b<a then O else IE d bs
@[simp] def oLt:Val->Val->Vx
 | (_,.int i),(_,.int j)=>Z (.fr,.bl (decide (i<j)))
 | (_,.str s),(_,.str t)=>Z (.fr,.bl (IE s t))
 |_,_=>L
@[simp] def oLe:Val->Val->Vx
 | (_,.int i),(_,.int j)=>Z (.fr,.bl (decide (i<=j)))
 | (_,.str s),(_,.str t)=>Z (.fr,.bl (!IE t s))
 |_,_=>L
@[simp] def L0(a b:Val):Vx:=oLt b a
@[simp] def L1(a b:Val):Vx:=oLe b a
@[simp] def oEq(a b:Val):Vx:=if GD 60 a.2/\GD 60 b.2 then Z (.fr,.bl (eqT a.2 b.2)) else L
@[simp] def IQ(a b:Val):Vx:=if GD 60 a.2/\GD 60 b.2 then Z (.fr,.bl (!eqT a.2 b.2)) else L
def ft(l:List (T×T))(k:T):Option T:=(l.find? λp=>eqT p.1 k).map (·.2)
noncomputable def G8(n:Nat)(i:Int):Option Nat:=if 0<=i then (if i<n then Z i.toNat else L) else (if 0<=i+n then Z (i+n).toNat else L)
@[simp] def sub(m:Md)(t:T):Val:=up m t
@[simp] def ay:Val->Val->Vx
 | (m,.lst l),(_,.int i)=>(G8 l.length i).bind λk=>(l[k]?).map (sub m)
 | (m,.tup l),(_,.int i)=>(G8 l.length i).bind λk=>(l[k]?).map (sub m)
 | (_,.scr l),(_,.int i)=>(G8 l.length i).bind λk=>(l[k]?).map λn=>(.fr,.int n)
 | (_,.str l),(_,.int i)=>(G8 l.length i).bind λk=>(l[k]?).map λn=>(.fr,.str [n])
 |_,_=>L
noncomputable def clip(n:Nat)(i:Int):Nat:=if i<0 then (i+n).toNat else min i.toNat n
def cut{α:Type}(l:List α)(a b:Option Int):List α :=
 let lo:=match a with | none=>0 | some i=>clip l.length i
 let hi:=match b with | none=>l.length | some i=>clip l.length i
 (l.drop lo).take (hi-lo)
@[simp] def MD(v:Val)(a b:Option Int):Vx:=match v with
 | (_,.str s)=>Z (.fr,.str (cut s a b))
 | (m,.lst l)=>Hu m (cut l a b)
 |_=>L
@[simp] def rK(c:Option Ex)(U:Env):Option (Option Int):=match c with
 |none=>Z L
 |some e=>(e U).bind λy=>(int? y.2).map Z
@[simp] def HM(a:Ex)(b d:Option Ex)(U:Env):Vx:=(a U).bind λx=>(rK b U).bind λl=>(rK d U).bind λh=>MD x l h
noncomputable def C1:T->Option Nat
 |.lst l=>Z l.length
 |.tup l=>Z l.length
 |.str l=>Z l.length
 |.scr l=>Z l.length
 |.dct 0 l=>Z l.length
 |_=>L
@[simp] def cP:Vy->Vx
 |[x]=>(C1 x.2).map λn=>(.fr,.int n)
 |_=>L
@[simp] noncomputable def rW:Vy->Vx
 |[(_,.int i),(_,.int j)]=>Z (.fr,.int (if j<i then j else i))
 |_=>L
@[simp] noncomputable def qq:Vy->Vx
 |[(_,.int i),(_,.int j)]=>Z (.fr,.int (if j > i then j else i))
 |_=>L
noncomputable def qB:Vw->Option (W8)
 |[]=>Z []
 |.int i :: r=>(qB r).map (i :: ·)
 |_=>L
noncomputable def strs?:Vw->Option (List Tx)
 |[]=>Z []
 |.str i :: r=>(strs? r).map (i :: ·)
 |_=>L
noncomputable def lq:Vw->Option (List Bool)
 |[]=>Z []
 |.bl i :: r=>(lq r).map (i :: ·)
 |_=>L
def zv:Vy->Vx
 |[(_,.lst l)]=>(qB l).bind λa=>Z (.fr,.int a.sum)
 |_=>L
def n8:Vy->Vx
 |[(_,.lst l)]=>(lq l).bind λbs=>Z (.fr,.bl (bs.all id))
 |_=>L
@[simp] def Bp:Vy->Vx
 |[(m,.lst l)]=>Hu m l
 |[(m,.tup l)]=>Hu m l
 |_=>L
def iq:Vy->Vx
 |[(m,.lst l)]=>if l.length<=dq then Z (up m (.tup l)) else L
 |_=>L
def oA(x:Tx):List Tx->List Tx
 |[]=>[x]
 |y :: r=>if IE y x then y :: oA x r else x :: y :: r
def d7(l:List Tx):List Tx:=l.foldr oA []
noncomputable def dedup:List Tx->List Tx
 |[]=>[]
 |x :: r=>x :: (dedup r).filter (· ≠ x)
inductive Ty where | int | str | bool | list | tuple | dict
@[simp] noncomputable def jz:Ty->T->Bool
 |.int,.int _=>B
 |.int,.bl _=>B
 |.bool,.bl _=>B
 |.str,.str _=>B
 |.list,.lst _=>B
 |.tuple,.tup _=>B
 |.dict,.dct _ _=>B
 |_,_=>O
@[simp] noncomputable def lS:T->Bool
 |.obj _ _=>O
 |.scr _=>O
 |.dct 0 _=>B
 |.dct 1 _=>B
 |.dct _ _=>O
 |_=>B
@[simp] def Hy(t:Ty)(a:Ex)(U:Env):Vx:=(a U).bind λx=>if lS x.2 then Z (.fr,.bl (jz t x.2)) else L
noncomputable def total:List Tx->Nat
 |[]=>0
 |x :: r=>x.length+total r
noncomputable def bc(a:Tx):List Tx->Tx
 |[]=>[]
 |[x]=>x
 |x :: r=>x++a++bc a r
def iX:Val->Vy->Vx
 | (_,.str sep),[(_,.lst l)]=>(strs? l).bind λa=>if total a+a.length*sep.length<=dq then Z (.fr,.str (bc sep a)) else L
 |_,_=>L
@[simp] noncomputable def eM(f:Val->Vy->Vx)(o:Ex)(b:Gf)(U:Env):Vx:=(o U).bind λx=>(b U).bind λa=>f x a
noncomputable abbrev Fn:=Vw->Vx
@[simp] def aQ(g:Fn)(b:Gf)(U:Env):Vx:=(b U).bind λa=>(g (trees a)).bind λr=>match r with
 | (.fr,t)=>Z (.fr,t)
 | (_,t)=>Z ((Md.pu).join (cK a),t)
abbrev Iz:=Env->Option (Md×Vw)
noncomputable def pb:Val->Option (Md×Vw)
 | (m,.lst l)=>Z (m,l)
 | (m,.tup l)=>Z (m,l)
 | (_,.str l)=>Z (.fr,l.map λc=>.str [c])
 |_=>L
@[simp] def fE(a:Ex)(U:Env):Option (Md×Vw):=(a U).bind pb
noncomputable def rng(a:Int)(n:Nat):Vw:=(List.range n).map λ(k:Nat)=>T.int (a+k)
def dw(a:Ex)(U:Env):Option (Md×Vw):=(a U).bind λx=>(int? x.2).bind λj=>if -Ob<=j/\j<Ob then Z (.fr,rng 0 j.toNat) else L
noncomputable def iS(k:Nat):Vw->Vw
 |[]=>[]
 |t :: r=>.tup [.int k,t] :: iS (k+1) r
def Bn:Val->Option (Md×Vw)
 | (m,.lst l)=>Z (m,iS 0 l)
 |_=>L
@[simp] def By(a:Ex)(U:Env):Option (Md×Vw):=(a U).bind Bn
abbrev Tg:=T->Env->Option Env
@[simp] noncomputable def ba(i:Nat)(t:T)(U:Env):Option Env:=if i<U.length then Z (U.set i (Z (.pu t))) else L
noncomputable def xN:List Tg->Vw->Env->Option Env
 |[],[],U=>Z U
 |g :: b,t :: a,U=>(g t U).bind λd=>xN b a d
 |_,_,_=>L
@[simp] def jM(a:List Tg)(t:T)(U:Env):Option Env:=match t with
 |.tup l=>xN a l U
 |_=>L
@[simp] def QD(m:Md)(l:Vw):Bool:=match m with
 |.bo=>ij l
 |_=>B
def nA(e:Tg)(a:Option Ex)(d:Ex)(U:Env):Vw->Option (Vy)
 |[]=>Z []
 |t :: r=>(e t U).bind λf=>(match a with | none=>some true | some c=>(c f).bind λx=>LX x.2).bind λb =>
  if b then (d f).bind λv=>(nA e a d U r).map (v :: ·) else nA e a d U r
def cT(k:Nat)(e:Tg)(f:Iz)(a:Option Ex)(b:Ex)(U:Env):Vx:=(f U).bind λ(m,l)=>if QD m l then
 (nA e a b (List.replicate k L++U) l).bind λd=>Hu (cK d) (trees d) else L
@[simp] noncomputable def dH(U:Env):Option Out:=Z (.nx U)
@[simp] noncomputable def aq(a b:Sx)(U:Env):Option Out:=(a U).bind λo=>match o with
 |.nx d=>b d
 |o=>Z o
@[simp] def lP(i:Nat)(e:Ex)(U:Env):Option Out:=(e U).bind λv=>(cellOf v).bind λc=>if i<U.length then Z (.nx (U.set i (Z c))) else L
@[simp] noncomputable def aB(i:Nat)(e:Ex)(U:Env):Option Out:=(e U).bind λv=>match v.1 with
 |.bo=>L
 |_=>if i<U.length then Z (.nx (U.set i (Z (.pu v.2)))) else L
@[simp] noncomputable def cX(e:Ex)(U:Env):Option Out:=(e U).bind λv=>Z (.rt (match v.1 with | .bo=>.pu | m=>m,v.2) U)
@[simp] def iE(i:Nat)(U:Env):Option Out:=match U[i]? with
 |some (some (.ow t))=>Z (.rt (.fr,t) (U.set i L))
 |some (some (.pu t))=>Z (.rt (up .pu t) U)
 |_=>L
@[simp] def GH(c:Ex)(a b:Sx)(U:Env):Option Out:=(c U).bind λx=>(LX x.2).bind λt=>if t then a U else b U
noncomputable def forL(d:Tg)(a:Sx):Vw->Env->Option Out
 |[],U=>Z (.nx U)
 |t :: r,U=>(d t U).bind λe=>(a e).bind λo=>match o with
  |.nx b=>forL d a r b
  |.ct b=>forL d a r b
  |.bk b=>Z (.nx b)
  |.rt v b=>Z (.rt v b)
@[simp] noncomputable def QE:Md->Bool
 |.bo=>O
 |_=>B
@[simp] def ji(b:Tg)(d:Iz)(a:Sx)(U:Env):Option Out:=(d U).bind λ(m,l)=>if QE m then forL b a l U else L
def fu(c:Ex)(a:Sx):Nat->Env->Option Out
 |0,_=>L
 |n+1,U=>(c U).bind λx=>(LX x.2).bind λt=>if t then (a U).bind λo=>match o with
  |.nx b=>fu c a n b
  |.ct b=>fu c a n b
  |.bk b=>Z (.nx b)
  |.rt v b=>Z (.rt v b)
  else Z (.nx U)
noncomputable def xH:Nat:=1000000
def nu(c:Ex)(a:Sx)(U:Env):Option Out:=fu c a xH U
@[simp] noncomputable def sE(i:Nat)(U:Env):Option Out:=match U[i]? with
 |some (some (.ow t))=>Z (.nx (U.set i (Z (.pu t))))
 |some (some (.pu _))=>Z (.nx U)
 |_=>L
inductive Ip where | fld (k:Nat) | ix (e:Ex) | un
inductive Ky where | fld (k:Nat) | at (t:T) | un
def keys:List Ip->Env->Option (List Ky)
 |[],_=>Z []
 |.fld k :: r,U=>(keys r U).map (.fld k :: ·)
 |.ix e :: r,U=>(e U).bind λx=>(keys r U).map (.at x.2 :: ·)
 |.un :: r,U=>(keys r U).map (.un :: ·)
noncomputable def Fe(a:List (Nat×T))(k:Nat):Option T:=a.lookup k
noncomputable def FJ(a:List (Nat×T))(k:Nat)(v:T):List (Nat×T):=if a.any (λp=>p.1==k) then a.map (λp=>if p.1==k then (p.1,v) else p) else a++[(k,v)]
def zH{α:Type}(f:T->Option (T×α)):List Ky->T->Option (T×α)
 |[],t=>f t
 |.fld k :: r,.obj c fs=>(Fe fs k).bind λx=>(zH f r x).map λ(y,a)=>(.obj c (FJ fs k y),a)
 |.at (.int i) :: r,.lst l=>(G8 l.length i).bind λj=>(l[j]?).bind λx=>(zH f r x).map λ(y,a)=>(.lst (l.set j y),a)
 |.at k :: r,.dct d l=>(ft l k).bind λx=>(zH f r x).map λ(y,a)=>(.dct d (dput l k y),a)
 |_,_=>L
abbrev Xx:=Env->Option (Val×Env)
@[simp] noncomputable def xP(e:Ex)(U:Env):Option (Val×Env):=(e U).map λv=>(v,U)
@[simp] def kR(i:Nat)(a:List Ip)(f:T->Vy->Option (T×Val))(g:Gf)(U:Env):Option (Val×Env):=match U[i]? with
 |some (some (.ow t))=>(keys a U).bind λe=>(g U).bind λb=>(zH (λx=>f x b) e t).map λ(d,v)=>(v,U.set i (Z (.ow d)))
 |_=>L
@[simp] noncomputable def fit(v:Val):Option T:=match v.1 with
 |.fr=>Z v.2
 |_=>L
def aC:T->Vy->Option (T×Val)
 |.lst l,[v]=>(fit v).bind λt=>if l.length<dq then Z (.lst (l++[t]),(.fr,.non)) else L
 |_,_=>L
@[simp] noncomputable def sX(x:Xx)(U:Env):Option Out:=(x U).map λr=>.nx r.2
@[simp] noncomputable def fn(d e:Nat)(a:Sx):Fn:=λb=>if b.length=d then
 (a (b.map (λt=>Z (.pu t))++List.replicate (e-d) L)).bind λo=>match o with
  |.rt v _=>Z v
  |.nx _=>Z (.fr,.non)
  |_=>L else L
def rJ{s t:Tx}(h:s.length+t.length<=16777216):bO (m,.str s) (n,.str t)=Z (.fr,.str (s++t)):=Zp h
def lu{m n:Md}{i j:Int}(h:-18446744073709551616<i/\i<18446744073709551616):kL (m,.int i) (n,.int j)=Z (.fr,.int (i*j)):=Zp (.inl h)
def ic{m n:Md}{i j:Int}(h:0<j/\j<1073741824):bC (m,.int i) (n,.int j)=Z (.fr,.int (i/j)):=Zp h
def cj{m n:Md}{i j:Int}(h:0<j):oMod (m,.int i) (n,.int j)=Z (.fr,.int (i%j)):=Zp h
def eI{l:Vw}(h:l.length<16777216):aC (.lst l) [(.fr,t)]=Z (.lst (l++[t]),(.fr,.non)):=by
 exact Zp h
def jN{m:Md}{j:Int}(e:a U=Z (m,.int j))(h:-4611686018427387904<=j/\j<4611686018427387904):dw a U=Z (.fr,rng 0 j.toNat):=by
 simp only[dw,e,Zs,int?];exact Zp h
def jt{l:Vw}(h:l.length<=16777216):Hu m l=Z (if ij l then .fr else m,.lst l):=Zp h
def dU{b:Tg}{t:T}{r:Vw}{U1 U2:Env}(e:b t U=Z U1)(d:a U1=Z (.nx U2)):forL b a (t :: r) U=forL b a r U2:=by
 simp[forL,e,d]
theorem strs_map{α:Type}(f:α->Tx):∀l:List α,strs? (l.map λx=>T.str (f x))=Z (l.map f)
 |[]=>rfl
 |a :: r=>congrArg (Option.map (f a :: ·)) (strs_map f r)
theorem ints_map{α:Type}(f:α->Int):∀l:List α,qB (l.map λx=>T.int (f x))=Z (l.map f)
 |[]=>rfl
 |a :: r=>congrArg (Option.map (f a :: ·)) (ints_map f r)
theorem oh{α:Type}(f:α->Bool):∀l:List α,lq (l.map λx=>T.bl (f x))=Z (l.map f)
 |[]=>rfl
 |a :: r=>by simp[lq,oh f r]
theorem nS:∀a:List Tx,bc [] a=a.flatten
 |[]=>rfl
 |[x]=>by simp[bc]
 |x :: y :: r=>by
  have:=nS (y :: r);simp[bc]at this ⊢;exact this
theorem mZ:∀a:List Tx,total a=a.flatten.length
 |[]=>rfl
 |x :: r=>by simp[total,mZ r]
def vv{m n:Md}(e:strs? l=Z a)(b:a.flatten.length<=16777216):iX (m,.str []) [(n,.lst l)]=Z (.fr,.str a.flatten):=by
 simp only[iX,Zs,e,nS];refine Zp ?_;rw[mZ];show _<=16777216;simpa using b
def kA{α:Type}(l:List α):(l.map λx=>[x]).flatten=l:=by
 induction l with
 |nil=>rfl
 |cons a r b=>rw[Zi,ZR,b];rfl
def nG(n:Nat):rng 0 n=(List.range n).map λ(k:Nat)=>T.int (k:Int):=by
 unfold rng;simp
theorem hZ{α:Type}(f:α->T)(h:∀x,FW (f x)=B):∀l:List α,ij (l.map f)=B
 |[]=>rfl
 |a :: r=>Zb.mpr ⟨h a,hZ f h r⟩
theorem oK{α:Type}(g:α->T)(f:α->Val):∀l:List α,(∀a∈l,∃e,i (g a) U=Z e/\d e=Z (f a))->nA i L d U (l.map g)=Z (l.map f)
 |[],_=>rfl
 |a :: r,h=>by
  obtain⟨e,m,j⟩:=h a Zw;simp[nA,m,j,oK g f r λb hb=>h b (Zx _ hb)]
theorem qD{α:Type}(f:α->T):∀l:List α,cK (l.map λa=>(Md.fr,f a))=.fr
 |[]=>rfl
 |a :: r=>congrArg (Md.join .fr) (qD f r)
def uZ{α:Type}(f:α->Val)(l:List α):trees (l.map f)=l.map λa=>(f a).2:=by simp
def bX{α:Type}{k:Nat}{tg:Tg}{it:Iz}{elt:Ex}{U:Env}{m:Md}(g:α->T)(f:α->T)(l:List α)(i:it U=Z (m,l.map g))(e:QD m (l.map g)=B)(d:l.length<=16777216)(h:∀a∈l,∃b,tg (g a) (List.replicate k L++U)=Z b/\elt b=Z (.fr,f a)):cT k tg it L elt U=Z (.fr,.lst (l.map f)):=by
 simp only[cT,i,Zs];rw[Zp e,oK g (λa=>(Md.fr,f a)) l h];simp only[Zs,qD,uZ];rw[jt (by rw[Zy];exact d)];simp
def sN{α:Type}{m n:Md}(f:α->T)(l:List α)(i:Int)(d:α)(g:0<=i)(e:i<l.length)(a:FW (f (l.getD i.toNat d))=B):ay (m,.lst (l.map f)) (n,.int i)=Z (.fr,f (l.getD i.toNat d)):=by
 have b:i.toNat<l.length:=by lia
 simp only[Zr,Zq b,YD]at a ⊢;simp[G8,g,e,b,a]
end VS
end
section
namespace L2
open PySem PySem.Spec PyProof.Rows
noncomputable abbrev Key:=Sum Int Str
def lE:Key->KF->Bool
 |.inl k,v=>Value.isInt k v
 |.inr x,v=>Value.isStrOf x v
noncomputable def EU(w:SL):Key->Int
 |.inl k=>hashInt k
 |.inr x=>hashStr w x
theorem bN:∀{k:Key}{v:KF},lE k v=B->(∃i t,k=Sum.inl i/\v=Value.int i t)\/(∃x t,k=Sum.inr x/\v=Value.str x t)
 |.inl i,v,h=>by
  obtain⟨t,e⟩:=Value.isInt_shape (k:=i) (v:=v) h;exact .inl ⟨i,t,rfl,e⟩
 |.inr x,v,h=>by
  obtain⟨t,e⟩:=Wc (x:=x) (v:=v) h;exact .inr ⟨x,t,rfl,e⟩
def vn(i:Int)(t:Tok):lE (.inl i) (.int i t)=B:=by simp[lE,Value.isInt]
def vp(x:Str)(t:Tok):lE (.inr x) (.str x t)=B:=by simp[lE,Value.isStrOf]
def C3(a b:Int):decide ((Sum.inl a:Key)=Sum.inl b)=(a==b):=by
 by_cases e:a=b
 ·subst e;simp
 ·rw[ZK (λq=>e (Sum.inl.inj q))];exact(ZO.mpr e).symm
def Dp(a b:Str):decide ((Sum.inr a:Key)=Sum.inr b)=decide (a=b):=by
 by_cases e:a=b
 ·subst e;simp
 ·rw[ZK (λq=>e (Sum.inr.inj q)),ZK e]
def DA(a:Int)(b:Str):decide ((Sum.inl a:Key)=Sum.inr b)=O:=ZK (λq=>nomatch q)
def Dl(a:Str)(b:Int):decide ((Sum.inr a:Key)=Sum.inl b)=O:=ZK (λq=>nomatch q)
def bF(d:Pv)(w:SL):PySem.KeyKind d w Key where
 is:=lE
 hash:=EU w
 inj:=λv a b l hb=>by
  rcases bN l with⟨i,t,rfl,rfl⟩ | ⟨x,t,rfl,rfl⟩
  ·rcases bN hb with⟨j,u,rfl,e⟩ | ⟨y,u,rfl,e⟩
   ·injection e with e1 _;rw[e1]
   ·exact nomatch e
  ·rcases bN hb with⟨j,u,rfl,e⟩ | ⟨y,u,rfl,e⟩
   ·exact nomatch e
   ·injection e with e1 _;rw[e1]
 byValue:=λk v h=>by
  rcases bN h with⟨i,t,rfl,rfl⟩ | ⟨x,t,rfl,rfl⟩<;>rfl
 pyHash:=λf h=>by
  rcases bN f with⟨i,t,rfl,rfl⟩ | ⟨x,t,rfl,rfl⟩
  ·exact wpAny_pyHash_int h
  ·exact wpAny_pyHash_str h
 eqBool:=λg f h=>by
  rcases bN g with⟨i,t,rfl,rfl⟩ | ⟨x,t,rfl,rfl⟩
  ·rcases bN f with⟨j,u,rfl,rfl⟩ | ⟨y,u,rfl,rfl⟩
   ·rw[C3]at h;exact wpAny_eqBool_int h
   ·rw[DA]at h;exact SeqAt.EqAt.int_str i t y u _ _ _ _ h
  ·rcases bN f with⟨j,u,rfl,rfl⟩ | ⟨y,u,rfl,rfl⟩
   ·rw[Dl]at h;exact SeqAt.EqAt.str_int x t j u _ _ _ _ h
   ·rw[Dp]at h;exact wpAny_eqBool_str h
 «strs» := λk x t v h=>by
  rcases bN h with⟨i,u,rfl,e⟩ | ⟨y,u,rfl,e⟩
  ·exact nomatch e
  ·injection e with e1 _
   subst e1;cases v<;>rfl
def rV(a:Pv)(w:SL)(i:Int)(t:Tok):(bF a w).is (.inl i) (.int i t)=B:=vn i t
def rB(a:Pv)(w:SL)(x:Str)(t:Tok):(bF a w).is (.inr x) (.str x t)=B:=vp x t
inductive V where
 |non | bl (b:Bool) | int (i:Int) | str (x:Str) | byt (b:Array UInt8) | flt (b:UInt64) | ref (a:KB) | ty (n:String)
 deriving DecidableEq
noncomputable def RelV:V->KF->Prop
 |.non,u=>u=Value.none
 |.bl b,u=>u=Value.bool b
 |.int i,u=>∃t,u=Value.int i t
 |.str x,u=>∃t,u=Value.str x t
 |.byt b,u=>∃t,u=Value.bytes b t
 |.flt b,u=>∃t,u=Value.float b t
 |.ref a,u=>u=Value.ref a
 |.ty n,u=>u=Value.type n
abbrev aK:List V->W5->Prop:=Paired RelV
theorem aK.length{xs:List V}(r:aK xs a):xs.length=a.length:=Xk r
theorem aK.get:∀{a:List V}{b:W5}{i:Nat}{x:V},aK a b->a[i]?=Z x->∃u,b[i]?=Z u/\RelV x u
 |_,_,_,_,.nil,e=>by simp at e
 |_,_,0,_,.cons r _,e=>by simp at e;subst e;exact⟨_,rfl,r⟩
 |_,_,i+1,x,.cons _ t,e=>by
  obtain⟨u,f,d⟩:=aK.get (i:=i) (x:=x) t (by simpa using e);exact⟨u,by simpa using f,d⟩
theorem aK.set(r:RelV x u):∀{a:List V}{b:W5}(i:Nat),aK a b->aK (a.set i x) (b.set i u)
 |_,_,_,.nil=>.nil
 |_,_,0,.cons _ t=>.cons r t
 |_,_,i+1,.cons q t=>.cons q (aK.set r i t)
theorem aK.append:∀{b a:List V}{d ws:W5},aK b d->aK a ws->aK (b++a) (d++ws)
 |_,_,_,_,.nil,s=>s
 |_,_,_,_,.cons r t,s=>.cons r (aK.append t s)
theorem aK.take:∀{a:List V}{b:W5}(n:Nat),aK a b->aK (a.take n) (b.take n)
 |_,_,0,_=>.nil
 |_,_,_+1,.nil=>.nil
 |_,_,n+1,.cons r t=>.cons r (aK.take n t)
theorem aK.drop:∀{a:List V}{b:W5}(n:Nat),aK a b->aK (a.drop n) (b.drop n)
 |_,_,0,r=>r
 |_,_,_+1,.nil=>.nil
 |_,_,n+1,.cons _ t=>aK.drop n t
def aK.none_of:∀{a:List V}{b:W5}{i:Nat},aK a b->a[i]?=L->b[i]?=L:=λ{a b i} r e=>by
 have f:=r.length;have d:=Yk.mp e;exact Yk.mpr (by lia)
def i3:Option V->W6->Prop
 |some v,some u=>RelV v u
 |none,none=>True
 |_,_=>False
def KV{κ:Type}:List (κ×V)->List (κ×KF)->Prop:=Paired λ(p:κ×V) (q:κ×KF)=>p.1=q.1/\RelV p.2 q.2
noncomputable def kV:Key->V
 |.inl i=>.int i
 |.inr x=>.str x
inductive HO where
 |lst (xs:List V)
 |tup (xs:List V)
 |dK (cg:List (Key×V)) | dT (cg:List (List Key×V))
 |set (S:Int->Bool) (n:Nat)
 |ins (C dx:KB) (fs:List (Str×V))
 |own (x:KB)
 |xd (fs:List (Str×V))
 |met (f x:KB)
 |rng (lo hi:Int)
 |frz (o:Obj) (u:HO)
 |tbl (q:Str)
 |ext (φ:SL->SC->Prop)
noncomputable abbrev Hp:=KB->Option HO
noncomputable def upd(H:Hp)(a:KB)(o:HO):Hp:=λb=>if b=a then Z o else H b
def aw{H:Hp}:upd H a o a=Z o:=by unfold upd;rw[Zp Y]
def aA(h:b≠a):upd H a o b=H b:=by unfold upd;rw[Zn h]
def Ao:upd (upd H a o) a u=upd H a u:=by
 funext b;unfold upd;split<;>rfl
def DV{H:Hp}{a b:KB}{o u:HO}(h:H a=Z o)(f:H b=Z u)(d:o≠u):a≠b:=by
 intro e;subst e;rw[h]at f;exact d (Zh f)
def cH{H:Hp}{a b:KB}{o:HO}(h:H a=Z o)(d:H b=L):a≠b:=by
 intro e;subst e;rw[h]at d;cases d
noncomputable def KD(h:SC)(a:KB):Prop:=∀o,h.get? a=Z o->o.dict=L
def KD.new(h:SC)(a:Array KF):KD (h.push { cls:=.type "tuple",data:=.seq a }) h.objs.size:=λo e=>by
 rw[Ze _ Y]at e;cases e;rfl
def KD.of{h:SC}(e:h.get? a=Z o)(d:o.dict=L):KD h a:=λf b=>by
 rw[e]at b;cases b;exact d
section
variable(P:Pv)(w:SL)
def c9(H:Hp)(h:SC)(a:KB):HO->Prop
 |.lst b=>b.length<=IR/\∃(g:W5)(n:Nat),aK b g/\h.get? a=Z { cls:=.type "list",data:=.seq g.toArray n }
 |.tup b=>b.length<=IR/\∃g:W5,aK b g/\KD h a/\IsTup h a g.toArray
 |.dK i=>i.length<=IR/\(a==sysModules)=O/\∃e,KV i e/\h.DictOf (bF P w) a e
 |.dT i=>i.length<=IR/\(a==sysModules)=O/\∃b:List (List Key×KB×KF),
   Paired (λ(p:List Key×V) (q:List Key×KB×KF)=>p.1=q.1/\H q.2.1=Z (.tup (p.1.map kV))/\RelV p.2 q.2.2) i b ∧
   ∃o s z,h.get? a=Z o/\o.ExactDict/\o.data=.dict s z/\s.toList=b.map (entryOfKey (tupleKind (bF P w)))/\(b.map (·.1)).Nodup
 |.set S n=>h.SetOf (intKind P w) a S n
 |.ins C j fs=>H j=Z (.own a)/\fs.length<=1000/\j≠a/\h.get? a=Z (PySem.W.instObj C j) ∧
   ∃d,h.Ns1 j d/\(∀f,i3 (fs.lookup f) (d f))/\PySem.Within d (fs.map (·.1))
 |.own _=>∃o,h.get? a=Z o
 |.xd fs=>∃d,h.Ns1 a d/\∀f,i3 (fs.lookup f) (d f)
 |.rng lo hi=>∃t u v,h.get? a=Z { cls:=.type "range",data:=.fields #[.int lo t,.int hi u,.int 1 v] }
 |.frz o u=>h.get? a=Z o/\c9 H h a u
 |.tbl q=>∃l,h.get? a=Z { cls:=.none,data:=.fields l }/\TriplesOk l.toList/\∀pos v,codeAmong pos l.toList=Z v->∃c o y e t,v=.ref c/\H c=Z (.frz o (.own y))/\o.data=.fields e/\e[1]?=Z (.str q t)
 |.met f x=>h.get? a=Z (PySem.W.methodObj (.ref f) (.ref x))
 |.ext φ=>φ w h/\(∃o,h.get? a=Z o)/\∀r m:SC,φ w r->(∀o,r.get? a=Z o->m.get? a=Z o)->φ w m
def GV(H:Hp)(h:SC):Prop:=∀a o,H a=Z o->c9 P w H h a o
end
section
theorem c9.lt(x:c9 P w H h a o):a<h.objs.size:=by
 cases o with
 |lst b=>obtain⟨_,_,_,_,e⟩:=x;exact ZW e
 |tup b=>obtain⟨_,_,_,_,p⟩:=x;exact p.lt
 |dK d=>obtain⟨_,_,_,_,o,_,_,e,_⟩:=x;exact ZW e
 |dT d=>obtain⟨_,_,_,_,o,_,_,e,_⟩:=x;exact ZW e
 |set S n=>obtain⟨o,_,_,_,e,_⟩:=x;exact ZW e
 |ins C g fs=>obtain⟨_,_,_,e,_⟩:=x;exact ZW e
 |own y=>obtain⟨_,e⟩:=x;exact ZW e
 |xd fs=>obtain⟨_,⟨_,_,_,e,_⟩,_⟩:=x;exact ZW e
 |rng lo hi=>obtain⟨_,_,_,e⟩:=x;exact ZW e
 |frz ob u=>obtain⟨e,_⟩:=x;exact ZW e
 |tbl q=>obtain⟨_,e,_⟩:=x;exact ZW e
 |met f y=>exact ZW (x)
 |ext φ=>obtain⟨_,⟨_,e⟩,_⟩:=x;exact ZW e
theorem Paired.Kp{α β:Type}{F G:α->β->Prop}:∀{e:List α}{d:List β},Paired F e d->(∀a b,F a b->G a b)->Paired G e d
 |_,_,.nil,_=>.nil
 |_,_,.cons r t,f=>.cons (f _ _ r) (Paired.Kp t f)
def c9.I0{h':SC}(x:c9 P w H h a o)(k:∀b u,(b=a\/H b=Z (.own a))->h.get? b=Z u->h'.get? b=Z u)(M:∀b,H b=Z (.own a)->H' b=Z (.own a))(J:∀b l,H b=Z (.tup l)->H' b=Z (.tup l))(N:∀b o y,H b=Z (.frz o (.own y))->H' b=Z (.frz o (.own y))):c9 P w H' h' a o:=by
 induction o with
 |lst l=>obtain⟨z,D,n,r,e⟩:=x;exact⟨z,D,n,r,k _ _ (.inl Y) e⟩
 |tup l=>obtain⟨z,D,r,nd,g,e,c⟩:=x;exact⟨z,D,r,KD.of (k _ _ (.inl Y) e) (nd _ e),g,k _ _ (.inl Y) e,c⟩
 |dK Q=>obtain⟨z,y,m,r,g,i,j,e,c⟩:=x;exact⟨z,y,m,r,g,i,j,k _ _ (.inl Y) e,c⟩
 |dT Q =>
  obtain⟨z,y,l,r,g,i,j,e,c⟩:=x;exact⟨z,y,l,Paired.Kp r λp q z=>⟨z.1,J _ _ z.2.1,z.2.2⟩,g,i,j,k _ _ (.inl Y) e,c⟩
 |set S n=>obtain⟨g,i,j,t,e,c⟩:=x;exact⟨g,i,j,t,k _ _ (.inl Y) e,c⟩
 |ins C R fs =>
  obtain⟨d,z,ne,e,A,⟨s,i,j,e2,c⟩,r⟩:=x;exact⟨M _ d,z,ne,k _ _ (.inl Y) e,A,⟨s,i,j,k _ _ (.inr d) e2,c⟩,r⟩
 |own y=>obtain⟨g,e⟩:=x;exact⟨g,k _ _ (.inl Y) e⟩
 |xd fs=>obtain⟨A,⟨s,i,j,e,c⟩,r⟩:=x;exact⟨A,⟨s,i,j,k _ _ (.inl Y) e,c⟩,r⟩
 |rng lo hi=>obtain⟨t,u,v,e⟩:=x;exact⟨t,u,v,k _ _ (.inl Y) e⟩
 |frz g u G=>obtain⟨e,q⟩:=x;exact⟨k _ _ (.inl Y) e,G q⟩
 |tbl q =>
  obtain⟨F,e,e1,e2⟩:=x;refine⟨F,k a _ (.inl Y) e,e1,λpos v r=>?_⟩;obtain⟨c,o,y,m,t,r1,r2,E⟩:=e2 pos v r;exact⟨c,o,y,m,t,r1,N _ _ _ r2,E⟩
 |met f y =>
  exact k a _ (.inl Y) x
 |ext φ=>obtain⟨p,⟨o,e⟩,st⟩:=x;exact⟨st _ _ p λo q=>k _ _ (.inl Y) q,⟨o,k _ _ (.inl Y) e⟩,st⟩
theorem GV.lt(x:GV P w H h)(e:H a=Z o):a<h.objs.size:=(x a o e).lt
def GV.fresh(x:GV P w H h)(e:h.objs.size<=a):H a=L:=by
 cases q:H a with
 |none=>rfl
 |some u=>exact absurd (ZS (x.lt q) e) (YZ _)
def GV.kept{h':SC}(x:GV P w H h)(k:∀b u,h.get? b=Z u->h'.get? b=Z u):GV P w H h':=λa o e =>
 (x a o e).I0 (λb u _ q=>k b u q) (λ_ q=>q) (λ_ _ q=>q) λ_ _ _ q=>q
def GV.laid{h':SC}(x:GV P w H h)(k:∀b u,h.get? b=Z u->h'.get? b=Z u)(g:h.objs.size<=a)(d:c9 P w (upd H a o) h' a o):GV P w (upd H a o) h':=λb u e=>by
 have f:=x.fresh g;by_cases hb:b=a
 ·subst hb;rw[aw]at e;cases e;exact d
 ·rw[aA hb]at e;exact(x b u e).I0 (λc v _ q=>k c v q) (λc q=>by rw[aA (cH q f)];exact q) (λc i q=>by rw[aA (cH q f)];exact q) λc _ _ q=>by rw[aA (cH q f)];exact q
end
noncomputable def Rd(H:Hp)(a:KB)(u:HO):Prop:=H a=Z u\/∃o,H a=Z (.frz o u)
def Rd.ok(r:Rd H a u)(x:GV P w H h):c9 P w H h a u:=by
 rcases r with r | ⟨o,r⟩
 ·exact x a u r
 ·obtain⟨_,q⟩:=x a _ r;exact q
noncomputable def FR:Option HO->Prop
 |some (.lst _)=>True
 |some (.dK _)=>True
 |some (.dT _)=>True
 |some (.set _ _)=>True
 |some (.ins _ _ _)=>True
 |some (.ext _)=>True
 |_=>False
section
def GV.write{h':SC}(m:GV P w H h)(a:FR (H x))(he:e=x\/H e=Z (.own x))(k:∀b u,b≠e->h.get? b=Z u->h'.get? b=Z u)(o:∃u,h'.get? e=Z u)(g:c9 P w (upd H x o') h' x o'):GV P w (upd H x o') h':=λb u q=>by
 have l:∀c y,H c=Z (.own y)->c≠x:=λc y r z=>by subst z;rw[r]at a;exact a
 by_cases hb:b=x
 ·subst hb;rw[aw]at q;cases q;exact g
 ·rw[aA hb]at q;by_cases f:b=e
  ·have j:H b=Z (.own x):=by
    rcases he with z | z
    ·exact absurd (f.trans z) hb
    ·rw[f];exact z
   rw[q]at j;cases j;obtain⟨v,n⟩:=o;exact⟨v,by rw[f];exact n⟩
  ·refine(m b u q).I0 (λc v d r=>k c v ?_ r) (λc r=>by rw[aA (l c b r)];exact r) (λc i r=>by rw[aA ((λc i r z=>by subst z;rw[r]at a;exact a) c i r)];exact r) λc _ _ r=>by rw[aA λz=>by subst z;rw[r]at a;exact a];exact r
   rcases d with rfl | d
   ·exact f
   ·rintro rfl;rcases he with z | z
    ·exact l c b d z
    ·rw[d]at z;cases z;exact hb Y
end
structure Un(fs ex:W4)(H H':Hp)(h h':SC):Prop where
 keep:∀b o,h.get? b=some o->H b=none->b∉fs->b∉ex->h'.get? b=some o
 slot:∀b o,h.get? b=some o->H b=none->b∈fs->b∉ex->∃sl,h'.get? b=some { o with slots:=sl }
 free:∀b o,h.get? b=some o->H b=none->b∉ex->H' b=none
 there:∀b o,h.get? b=some o->b∉ex->∃o',h'.get? b=some o'
 HY:∀b xs,H b=some (.tup xs)->H' b=some (.tup xs)
 HL:∀b o u,H b=some (.frz o u)->H' b=some (.frz o u)
 HD:∀b q,H b=some (.tbl q)->H' b=some (.tbl q)
section
def Un.any(u:Un fs ex H H1 h h1)(q:h.get? b=Z d)(n:H b=L)(f:b∉ex):∃g,h1.get? b=Z { d with slots:=g }:=by
 by_cases hb:b∈fs
 ·exact u.slot b d q n hb f
 ·exact⟨d.slots,u.keep b d q n hb f⟩
def Un.kept{h h':SC}(k:∀b u,h.get? b=Z u->h'.get? b=Z u):Un fs ex H H h h' :=
 ⟨λb d q _ _ _=>k b d q,λb d q _ _ _=>⟨d.slots,k b d q⟩,λ_ _ _ n _=>n,λb d q _=>⟨d,k b d q⟩,λ_ _ q=>q,λ_ _ _ q=>q,λ_ _ q=>q⟩
def Un.refl:Un fs ex H H h h:=Un.kept λ_ _ q=>q
def Un.laid{fs ex:W4}{H:Hp}{h h':SC}{a:KB}{o:HO}(k:∀b u,h.get? b=Z u->h'.get? b=Z u)(g:h.objs.size<=a)(d:H a=L):Un fs ex H (upd H a o) h h' where
 keep:=λb u q _ _ _=>k b u q
 slot:=λb u q _ _ _=>⟨u.slots,k b u q⟩
 free:=λb u q n _=>by rw[aA (Zg (ZS (ZW q) g))];exact n
 there:=λb u q _=>⟨u,k b u q⟩
 HY:=λb f q=>by rw[aA (cH q d)];exact q
 HL:=λb u f q=>by rw[aA (cH q d)];exact q
 HD:=λb n q=>by rw[aA (cH q d)];exact q
def Un.write{h h':SC}(d:FR (H x))(he:e=x\/H e=Z (.own x))(k:∀b u,b≠e->h.get? b=Z u->h'.get? b=Z u)(l:∃u,h'.get? e=Z u):Un fs ex H (upd H x o) h h':=by
 have g:∀b,H b=L->b≠x:=λb n z=>by subst z;rw[n]at d;exact d
 have hb:∀b,H b=L->b≠e:=λb n z=>by
  subst z;rcases he with r | r
  ·exact g b n r
  ·rw[n]at r;cases r
 have f:∀b u,H b=Z u->¬FR (Z u)->b≠x:=λb u q nm z=>by subst z;rw[q]at d;exact nm d
 refine⟨λb u q n _ _=>k b u (hb b n) q,λb u q n _ _=>⟨u.slots,k b u (hb b n) q⟩,λb u q n _=>by rw[aA (g b n)];exact n,λb u q _=>?_,
  λb j q=>by rw[aA (f b _ q λz=>z)];exact q,λb u j q=>by rw[aA (f b _ q λz=>z)];exact q,λb n q=>by rw[aA (f b _ q λz=>z)];exact q⟩
 by_cases i:b=e
 ·subst i;exact l
 ·exact⟨u,k b u i q⟩
end
noncomputable def gone(v:KF):Obj:=⟨v,L,.freed,#[]⟩
def uX(H:Hp)(a:KB)(o:Obj):Obj:=match H a with
 |some (.tbl q)=>gone (.str q 0)
 |some _=>gone .none
 |none=>match o.data with
  |.freed=>gone .none
  |_=>o
def qT(h:SC)(H:Hp):Heap:=⟨h.objs.mapIdx λa o=>uX H a o,h.life⟩
def Tb(b:SC)(a:KB)(q:Str):Prop:=b.objs[a]?=Z (gone (.str q 0))
def uV(h:SC)(H:Hp):(qT h H).objs.size=h.objs.size:=Array.size_mapIdx
def pw(h:SC)(H:Hp)(b:KB):(qT h H).objs[b]?=(h.objs[b]?).map (uX H b):=Array.getElem?_mapIdx
def lU{h:SC}:h.get? b=Z o↔h.objs[b]?=Z o/\o.data ≠ .freed:=by
 unfold Heap.get?;split
 ·rename_i e;exact⟨λz=>(nomatch z),λ⟨z,n⟩=>by rw[e]at z;cases z;exact absurd Y n⟩
 ·rename_i n;exact⟨λz=>⟨z,λd=>by
   obtain⟨c,u,f,a⟩:=o;cases (d);exact n _ _ _ z⟩,λz=>z.1⟩
def wR{h:SC}(e:h.get? b=Z o)(n:H b=L):(qT h H).get? b=Z o:=by
 obtain⟨e1,e2⟩:=lU.mp e;refine lU.mpr ⟨?_,e2⟩;rw[pw,e1,Option.map_some];unfold uX;rw[n];cases h:o.data with
 |freed=>exact absurd h e2
 |_=>rfl
def Ar(e:(qT h H).get? b=Z o):h.get? b=Z o/\H b=L:=by
 obtain⟨e1,e2⟩:=lU.mp e;rw[pw]at e1;obtain⟨u,e3,a⟩:=Zu.mp e1;unfold uX at a;cases q:H b with
 |some y =>
  rw[q]at a;cases y<;>(cases a;exact absurd Y e2)
 |none =>
  rw[q]at a;refine⟨lU.mpr ?_,rfl⟩;cases d:u.data with
  |freed=>rw[d]at a;cases a;exact absurd Y e2
  |_ =>
   have f:u=o:=by rw[d]at a;exact a
   subst f;exact⟨e3,e2⟩
def yU:Tb (qT h H) b q↔H b=Z (.tbl q)/\b<h.objs.size:=by
 unfold Tb;rw[pw];constructor
 ·intro e;obtain⟨u,e3,a⟩:=Zu.mp e;refine⟨?_,(Array.getElem?_eq_some_iff.mp e3).1⟩;unfold uX at a;cases y:H b with
  |some f =>
   rw[y]at a;cases f with
   |tbl i=>cases a;rfl
   |_=>cases a
  |none =>
   rw[y]at a;cases d:u.data with
   |freed=>rw[d]at a;cases a
   |_ =>
    have g:u=gone (.str q 0):=by rw[d]at a;exact a
    rw[g]at d;cases d
 ·rintro⟨e,l⟩;rw[Yc l,Option.map_some];unfold uX;rw[e]
noncomputable def zo(g h:SC)(L:KB):Xl:=(List.range h.objs.size).filterMap λa=>if a=L\/(g.get? a).isSome=B then none else (h.get? a).map λo=>(a,o)
def rest(g h:SC)(L d:KB):Xl:=(zo g h L).filter λp=>decide (p.1≠d)
structure Mod(K:W0)(mg:W3)(base:SC):Prop where
 MM:K.In base
 glob:base.Ns mainGlobals mg
 blt:∃mb,base.Ns builtinsNs mb/\∀x:Str,x ≠ "__name__" → mb x=bootBuiltins x
 nolimit:base.NoLimit
structure Cx where
 prog:Pv
 w:SL
 K:W0
 mg:W3
 base:SC
 A:P3
 N:List Str
 s₀:FS
 H₀:Hp
 env:Env
 outer:List Env
 stack:List Env
 ex:W4
 fn:Str->Bool
 calm:Bool
 pn:Xl
 xe:Xz
abbrev K1(e:Expr)(l:List Expr)(X:Cx):Prop:=PP (e :: l) X.env=(O,eval e X.env) :: PP l X.env
abbrev K2(p:Pos)(l:List Expr)(X:Cx):Prop:=(backTo p (PP l X.env)).any (·.1)=O
abbrev K3(x:Str):Prop:=(x==("__debug__" : Str))=O
abbrev K4(x:Str):Prop:=(x==("__classdict__" : Str))=O
noncomputable def G2(l:List Env):W4:=l.filterMap (·.frame)
abbrev Cx.fs(X:Cx):W4:=G2 X.outer
noncomputable def Iw(a:Scope)(x:Str):Prop:=a.names.lookup x=Z .local\/a.names.lookup x=Z .cell\/a.names.lookup x=Z .free
noncomputable def Loc(a:Scope)(x:Str):Prop:=a.names.lookup x=Z .local\/a.names.lookup x=Z .cell
noncomputable def Look(a:Env)(h:SC)(m:W3)(x:Str)(u:KF):Prop :=
 (a.kindOf x=Z .local/\m x=Z u)\/((a.kindOf x=Z .cell\/a.kindOf x=Z .free)/\∃c,a.cells.lookup x=Z c/\h.IsCell c (Z u))
structure Cx.Ok(X:Cx):Prop where
 mod:Mod X.K X.mg X.base
 kind:X.env.scope.kind=.function
 glob:X.env.globals=mainGlobals
 blt:X.env.builtins=builtinsNs
 above:X.s₀.heap.objs.size<=X.env.locals
 inj:∀x y c,X.env.cells.lookup x=some c->X.env.cells.lookup y=some c->x=y
 has:∀x,(X.env.kindOf x=some .cell\/X.env.kindOf x=some .free)->∃c,X.env.cells.lookup x=some c
 Nk:∀x c,X.fn x=true->X.env.cells.lookup x=some c->X.s₀.heap.objs.size<=c
 hd:X.calm=true->X.A.handled=none
 frames:X.A.frames=some X.stack
 NC:X.stack=X.outer\/(X.stack=X.env :: X.outer/\X.env.frame=some X.env.locals)
 RT:∀b∈X.ex,b≠X.env.locals/\∀x c,X.env.cells.lookup x=some c->c≠b
 tb:∀b q,Tb X.base b q->X.H₀ b=some (.tbl q)
 bs:∀b o,X.base.get? b=some o->X.s₀.heap.get? b=some o/\X.H₀ b=none
 KA:X.base.objs.size<=X.s₀.heap.objs.size
 JC:∀b o,X.base.get? b=some o->b∉X.ex
 Kv:∀b∈X.ex,b∉X.fs
 Hc:X.s₀.heap.FunFrames X.base X.outer
 LI:∀b∈X.fs,X.H₀ b=none
structure Inv(X:Cx)(pins:Xl)(J:List (Option V))(H:Hp)(s:FS):Prop where
 ok:X.Ok
 os:s.os=X.s₀.os
 bare:AllBare s.gens
 base:Un X.fs X.ex X.H₀ H X.s₀.heap s.heap
 loc:∃m,s.heap.Ns X.env.locals m/\∀(i:Nat)(x:Str)(v:V),X.N[i]?=some x->J[i]?=some (some v)->Iw X.env.scope x->∃u,RelV v u/\Look X.env s.heap m x u
 cell:∀x c,X.env.cells.lookup x=some c->∃v,s.heap.IsCell c v
 free:H X.env.locals=none
 GI:∀x c,X.env.cells.lookup x=some c->H c=none
 pin:∀p∈X.pn++pins,s.heap.get? p.1=some p.2/\H p.1=none/\p.1≠X.env.locals/\p.1∉X.fs/\∀v,p.2.data ≠ .cell v
 oe:GV X.prog X.w H s.heap
 len:J.length=X.N.length
section
def Cx.Ok.OD{X:Cx}(a:X.Ok)(e:X.base.get? b=Z o):b∉X.fs:=λhb=>by
 have:=(a.Hc.mem hb).1;rw[e]at this;cases this
theorem Inv.bs(I:Inv X pins J H s):∀b o,X.base.get? b=Z o->s.heap.get? b=Z o/\H b=L:=λb o e =>
 ⟨I.base.keep b o (I.ok.bs b o e).1 (I.ok.bs b o e).2 (I.ok.OD e) (I.ok.JC b o e),I.base.free b o (I.ok.bs b o e).1 (I.ok.bs b o e).2 (I.ok.JC b o e)⟩
theorem Inv.tb(I:Inv X pins J H s):∀b q,Tb X.base b q->H b=Z (.tbl q):=λb q e=>I.base.HD b q (I.ok.tb b q e)
def Inv.bk(I:Inv X pins J H s):∀b o,X.base.get? b=Z o->s.heap.get? b=Z o:=λb o e=>(I.bs b o e).1
theorem Inv.mod(I:Inv X pins J H s):Mod X.K X.mg X.base:=I.ok.mod
def Inv.GP(I:Inv X pins J H s):X.K.In s.heap:=I.ok.mod.MM.keeps I.bk
theorem Inv.lt(I:Inv X pins J H s):X.env.locals<s.heap.objs.size:=let ⟨_,a,_⟩:=I.loc;a.lt
def Inv.sz(I:Inv X pins J H s):X.s₀.heap.objs.size<=s.heap.objs.size:=ZY I.ok.above (Xv I.lt)
def Inv.OC(I:Inv X pins J H s)(h:s.heap.objs.size<=a):a∉X.fs:=λhb=>by
 obtain⟨_,o,b,_⟩:=I.ok.Hc.mem hb;exact absurd (ZS (ZW b) (ZY I.sz h)) (YZ _)
def Inv.LM(I:Inv X pins J H s):∀x c,X.env.cells.lookup x=Z c->c≠X.env.locals:=λx c e z=>by
 obtain⟨v,o,a,hd⟩:=I.cell x c e;obtain⟨m,⟨f,g,h,d,b,_⟩,_⟩:=I.loc;rw[z,d]at a;cases a;rw[b]at hd;cases hd
theorem Inv.Hc(I:Inv X pins J H s):s.heap.FunFrames X.base X.outer:=by
 have all:∀(l:List Env),(∀b∈G2 l,b∈X.fs)->X.s₀.heap.FunFrames X.base l->s.heap.FunFrames X.base l:=by
  intro l
  induction l with
  |nil=>intro _ _;trivial
  |cons env r g =>
   intro f m;obtain⟨n,⟨L,o,a,j,i,hd⟩,h⟩:=m;have d:=f L (by unfold G2;rw[Wu,a];exact Zw);obtain⟨p,e⟩:=I.base.slot L o i (I.ok.LI L d) d λz=>I.ok.Kv L z d;exact⟨n,⟨L,_,a,j,e,hd⟩,g (λb hb=>f b (by unfold G2;rw[Wu,a];exact Zx _ hb)) h⟩
 exact all X.outer (λ_ hb=>hb) I.ok.Hc
theorem Inv.stack(I:Inv X pins J H s):s.heap.FunFrames X.base X.stack:=by
 rcases I.ok.NC with e | ⟨e,b⟩
 ·rw[e];exact I.Hc
 ·rw[e];obtain⟨m,a,_⟩:=I.loc;refine .cons (by rw[I.ok.kind];decide) b a ?_ I.Hc;exact Heap.get?_none_of_le (ZY I.ok.KA I.ok.above)
def Inv.HH(I:Inv X pins J H s):∀b∈G2 X.stack,b∈X.env.locals :: X.fs:=λb hb=>by
 rcases I.ok.NC with e | ⟨e,a⟩
 ·rw[e]at hb;exact Zx _ hb
 ·rw[e]at hb;unfold G2 at hb;rw[Wu,a]at hb;exact hb
def Inv.IL(I:Inv X pins J H s):∀b∈G2 X.stack,H b=L:=λb hb=>by
 rcases Zk.mp (I.HH b hb) with e | hb
 ·rw[e];exact I.free
 ·obtain⟨_,o,a,_⟩:=I.ok.Hc.mem hb;exact I.base.free b o a (I.ok.LI b hb) λz=>I.ok.Kv b z hb
def Inv.step{h':SC}{ch:W4}(I:Inv X pins J H s)(D:∀b∈ch,(b∈X.ex\/X.s₀.heap.objs.size<=b)/\b≠X.env.locals/\(∀x c,X.env.cells.lookup x=Z c->c≠b)/\∀p∈X.pn++pins,p.1≠b)(g:∀b o,b≠X.env.locals->b∉X.fs->b∉ch->s.heap.get? b=Z o->H b=L->h'.get? b=Z o)(j:∀b o,b≠X.env.locals->b∈X.fs->b∉ch->s.heap.get? b=Z o->H b=L->∃F,h'.get? b=Z { o with slots:=F })(f:∀b o,b∉ch->s.heap.get? b=some o->H b=none->H' b=none)(t:∀b o,b∉ch->s.heap.get? b=Z o->∃A,h'.get? b=Z A)(HY:∀b h,H b=Z (.tup h)->H' b=Z (.tup h))(HL:∀b o u,H b=Z (.frz o u)->H' b=Z (.frz o u))(HD:∀b q,H b=Z (.tbl q)->H' b=Z (.tbl q))(U:∀m,s.heap.Ns X.env.locals m->h'.Ns X.env.locals m)(S:GV X.prog X.w H' h')(hg:AllBare P) :
  Inv X pins J H' { s with heap:=h',gens:=P,drawn:=d',toks:=R }:=by
 have Q:∀b o,X.s₀.heap.get? b=Z o->b≠X.env.locals:=λb o e=>Zg (ZS (ZW e) I.ok.above);have E:∀b o,X.s₀.heap.get? b=Z o->b∉X.ex->b∉ch:=λb o e a hb=>by
  rcases (D b hb).1 with z | z
  ·exact a z
  ·exact absurd (ZS (ZW e) z) (YZ _)
 have cellK:∀x c,X.env.cells.lookup x=Z c->∀v,s.heap.IsCell c v->h'.IsCell c v:=λx c e v ⟨o,y,hd⟩=>by
  have C:c∉ch:=λz=>(D c z).2.2.1 x c e Y;by_cases N:c∈X.fs
  ·obtain⟨F,q⟩:=j c o (I.LM x c e) N C y (I.GI x c e);exact⟨_,q,hd⟩
  ·exact⟨o,g c o (I.LM x c e) N C y (I.GI x c e),hd⟩
 refine⟨I.ok,I.os,hg,⟨λb o e n hb a=>?_,λb o e n hb a=>?_,λb o e n a=>?_,λb o e a=>?_,λb h e=>HY b h (I.base.HY b h e),λb o h e=>HL b o h (I.base.HL b o h e),λb q e=>HD b q (I.base.HD b q e)⟩,?_,λx c e=>?_,?_,λx c e=>?_,λp M=>?_,S,I.len⟩
 ·exact g b o (Q b o e) hb (E b o e a) (I.base.keep b o e n hb a) (I.base.free b o e n a)
 ·obtain⟨F,e1⟩:=I.base.slot b o e n hb a;obtain⟨Sy,e2⟩:=j b _ (Q b o e) hb (E b o e a) e1 (I.base.free b o e n a);exact⟨Sy,e2⟩
 ·obtain⟨A,e1⟩:=I.base.there b o e a;exact f b A (E b o e a) e1 (I.base.free b o e n a)
 ·obtain⟨A,e1⟩:=I.base.there b o e a;exact t b A (E b o e a) e1
 ·obtain⟨m,hn,hl⟩:=I.loc;refine⟨m,U m hn,λi x v e1 e2 e3=>?_⟩;obtain⟨u,r,l⟩:=hl i x v e1 e2 e3;refine⟨u,r,?_⟩;rcases l with l | ⟨k,c,e,z⟩
  ·exact .inl l
  ·exact .inr ⟨k,c,e,cellK x c e _ z⟩
 ·obtain⟨v,z⟩:=I.cell x c e;exact⟨v,cellK x c e v z⟩
 ·obtain⟨m,⟨o,_,_,y,_⟩,_⟩:=I.loc;exact f _ o (λz=>(D _ z).2.1 Y) y I.free
 ·obtain⟨v,o,y,hd⟩:=I.cell x c e;exact f c o (λz=>(D c z).2.2.1 x c e Y) y (I.GI x c e)
 ·obtain⟨e,n,ne,G,d⟩:=I.pin p M;have C:=λz=>(D p.1 z).2.2.2 p M Y;exact⟨g p.1 p.2 ne G C e n,f p.1 p.2 C e n,ne,G,d⟩
def Inv.un{t':Nat}(I:Inv X pins J H s)(u:Un X.fs [] H H' s.heap h')(g:GV X.prog X.w H' h'):Inv X pins J H' { s with heap:=h',toks:=t' }:=by
 obtain⟨m,⟨o,v,x,a,r⟩,_⟩:=id I.loc;obtain⟨p,i⟩:=u.any a I.free (by simp);exact I.step (ch:=[]) (λ_ z=>nomatch z) (λb o _ hb _ e n=>u.keep b o e n hb (by simp)) (λb o _ hb _ e n=>u.slot b o e n hb (by simp)) (λb o _ e n=>u.free b o e n (by simp)) (λb o _ e=>u.there b o e (by simp)) u.HY u.HL u.HD (λt h=>by
  obtain⟨q,l,j,d,f⟩:=h;rw[a]at d;cases d;exact⟨_,l,j,i,f⟩) g I.bare
def Inv.call{g':Array GenState}{t':Nat}{d':Drawn}{ch:W4}(I:Inv X pins J H s)(u:Un (G2 X.stack) ch H H' s.heap h')(j:GV X.prog X.w H' h')(q:AllBare g')(g:∀b∈ch,(b∈X.ex\/X.s₀.heap.objs.size<=b)/\b≠X.env.locals/\(∀x c,X.env.cells.lookup x=Z c->c≠b)/\∀p∈X.pn++pins,p.1≠b) :
  Inv X pins J H' { s with heap:=h',gens:=g',drawn:=d',toks:=t' }:=by
 obtain⟨m,⟨o,D,E,f,r⟩,_⟩:=id I.loc;obtain⟨y,d⟩:=u.any f I.free λz=>(g _ z).2.1 Y;exact I.step (ch:=ch) g (λb o d hb a e n=>u.keep b o e n (λz=>(Zk.mp (I.HH b z)).elim d hb) a) (λb o _ _ a e n=>u.any e n a) (λb o a e n=>u.free b o e n a) (λb o a e=>u.there b o e a) u.HY u.HL u.HD (λC l=>by
  obtain⟨A,v,t,h,i⟩:=l;rw[f]at h;cases h;exact⟨_,v,t,d,i⟩) j q
def Inv.turned{h':SC}{t':Nat}(I:Inv X pins J H s)(k:∀b o,b≠a->s.heap.get? b=Z o->h'.get? b=Z o)(i:H a=L)(f:a≠X.env.locals)(w:a∈X.ex\/X.s₀.heap.objs.size<=a)(t:∀x c,X.env.cells.lookup x=Z c->c≠a)(l:∀p∈X.pn++pins,p.1≠a):Inv X pins J H { s with heap:=h',toks:=t' }:=by
 have g:∀b u,H b=Z u->b≠a:=λb u e z=>by rw[z,i]at e;cases e
 refine I.step (ch:=[a]) (λb hb=>?_) (λb o _ _ d e _=>k b o (λz=>d (by simp[z])) e) (λb o _ _ d e _=>⟨o.slots,k b o (λz=>d (by simp[z])) e⟩) (λ_ _ _ _ n=>n)
  (λb o d e=>⟨o,k b o (λz=>d (by simp[z])) e⟩) (λ_ _ e=>e) (λ_ _ _ e=>e) (λ_ _ e=>e) (λm j=>?_) (λb u e=>?_) I.bare
 ·have e:b=a:=by simpa using hb
  subst e;exact⟨w,f,t,l⟩
 ·obtain⟨o,y,A,h,r⟩:=j;exact⟨o,y,A,k _ o (Ya f) h,r⟩
 ·refine(I.oe b u e).I0 (λc v d q=>k c v ?_ q) (λ_ q=>q) (λ_ _ q=>q) λ_ _ _ q=>q;rcases d with z | z
  ·rw[z];exact g b u e
  ·exact g c _ z
def Inv.tok(I:Inv X pins J H s)(t:Nat):Inv X pins J H { s with toks:=t }:=I.un (t':=t) Un.refl I.oe
theorem Inv.kept{h':SC}{t':Nat}(I:Inv X pins J H s)(k:∀b u,s.heap.get? b=Z u->h'.get? b=Z u):Inv X pins J H { s with heap:=h',toks:=t' }:=I.un (Un.kept k) (I.oe.kept k)
theorem Inv.laid{h':SC}{o:HO}{t':Nat}(I:Inv X pins J H s)(k:∀b u,s.heap.get? b=Z u->h'.get? b=Z u)(e:s.heap.objs.size<=a)(d:c9 X.prog X.w (upd H a o) h' a o) :
  Inv X pins J (upd H a o) { s with heap:=h',toks:=t' }:=I.un (Un.laid k e (I.oe.fresh e)) (I.oe.laid k e d)
theorem Inv.write{h':SC}{x e:KB}(I:Inv X pins J H s)(d:FR (H x))(he:e=x\/H e=Z (.own x))(k:∀b u,b≠e->s.heap.get? b=Z u->h'.get? b=Z u)(f:∃u,h'.get? e=Z u)(a:c9 X.prog X.w (upd H x o) h' x o):Inv X pins J (upd H x o) { s with heap:=h',toks:=g }:=I.un (Un.write d he k f) (I.oe.write d he k f a)
def Inv.IP(I:Inv X pins J H s)(h:∀p∈a,s.heap.get? p.1=Z p.2/\H p.1=L/\p.1≠X.env.locals/\p.1∉X.fs/\∀v,p.2.data ≠ .cell v):Inv X a J H s :=
 ⟨I.ok,I.os,I.bare,I.base,I.loc,I.cell,I.free,I.GI,λp b=>(Zd.mp b).elim (λz=>I.pin p (Yv _ z)) (h p),I.oe,I.len⟩
def rq{N:List Str}(d:N.Nodup){i j:Nat}{x:Str}(a:N[i]?=Z x)(b:N[j]?=Z x):i=j:=by
 obtain⟨f,e1⟩:=ZZ.mp a;obtain⟨e,e2⟩:=ZZ.mp b;exact(List.getElem_inj d).mp (e1.trans e2.symm)
def oI{v:V}(I:Inv X pins J H s)(hN:X.N.Nodup)(D:X.N[i]?=Z x)(l:Loc X.env.scope x)(r:RelV v u)(h:∀S,Inv X pins (J.set i (Z v)) H S->(∃a,Heap.SameBut a s.heap S.heap/\(a=X.env.locals\/X.env.cells.lookup x=Z a))->Q () S)(hf:{`q0,X.fn x=B\/X.env.scope.names.lookup x=Z .local}):KM Mq A (storeName X.env x u) Q E s:=by
 obtain⟨m,hn,hl⟩:=id I.loc;have Rb:i<J.length:=by rw[I.len];exact(ZZ.mp D).1
 have LM:=I.LM;have tracked:∀{a:KB}{h':SC},(∃o,s.heap.get? a=Z o/\H a=L)->Heap.SameBut a s.heap h'->GV X.prog X.w H h':=λ{a h'} ha f b ob e=>by
  obtain⟨_,_,KW⟩:=ha;refine(I.oe b ob e).I0 (λc F g q=>(f.2 c ?_).trans q) (λ_ q=>q) (λ_ _ q=>q) λ_ _ _ q=>q;rintro rfl;rcases g with rfl | g
  ·rw[KW]at e;cases e
  ·rw[KW]at g;cases g
 rcases l with t | t
 ·refine wpAny_storeName_local t hn (λh' Tr f=>?_) (by rw[I.ok.kind];rfl);obtain⟨oL,_,_,MT,_⟩:=id hn;refine h _ ⟨I.ok,I.os,I.bare,⟨λb o e n hb l=>?_,λb o e n hb l=>?_,I.base.free,λb o e l=>?_,I.base.HY,I.base.HL,I.base.HD⟩,⟨_,Tr,λj y M e1 e2 e3=>?_⟩,λy c e=>?_,I.free,I.GI,λp hp=>?_,tracked ⟨oL,MT,I.free⟩ f,by simpa using I.len⟩ ⟨_,f,.inl Y⟩
  ·exact(f.2 b (Zg (ZS (ZW e) I.ok.above))).trans (I.base.keep b o e n hb l)
  ·obtain⟨R,e1⟩:=I.base.slot b o e n hb l;exact⟨R,(f.2 b (Zg (ZS (ZW e) I.ok.above))).trans e1⟩
  ·obtain⟨o',e1⟩:=I.base.there b o e l;exact⟨o',(f.2 b (Zg (ZS (ZW e) I.ok.above))).trans e1⟩
  ·by_cases C:j=i
   ·subst C;rw[D]at e1;cases e1;rw[X3 Rb]at e2;cases e2;exact⟨u,r,.inl ⟨t,by simp⟩⟩
   ·rw[YI (Ya C)]at e2;obtain⟨P,U,q⟩:=hl j y M e1 e2 e3;refine⟨P,U,?_⟩;rcases q with⟨k,e⟩ | ⟨k,c,e,z⟩
    ·refine .inl ⟨k,?_⟩;have:y≠x:=λe=>C (rq hN e1 (e ▸ D));simp[this,e]
    ·exact .inr ⟨k,c,e,z.sameBut f (LM y c e)⟩
  ·obtain⟨F,z⟩:=I.cell y c e;exact⟨F,z.sameBut f (LM y c e)⟩
  ·obtain⟨e,n,ne,nf,d⟩:=I.pin p hp;exact⟨(f.2 p.1 ne).trans e,n,ne,nf,d⟩
 ·have O2:X.fn x=B:=by
   rcases hf with z | z
   ·exact z
   ·rw[z]at t;cases t
  obtain⟨c,g⟩:=I.ok.has x (.inl t);obtain⟨F,z⟩:=I.cell x c g;refine wpAny_storeName_cell I.ok.kind t g z (λh' HK f=>?_);obtain⟨oc,QV,OS⟩:=id z;refine h { s with heap:=h' } ⟨I.ok,I.os,I.bare,⟨λb o e n hb l=>?_,λb o e n hb l=>?_,I.base.free,λb o e l=>?_,I.base.HY,I.base.HL,I.base.HD⟩,⟨m,hn.sameBut f (Ya (LM x c g)),λj y M e1 e2 e3=>?_⟩,λy G e=>?_,I.free,I.GI,λp hp=>?_,tracked ⟨oc,QV,I.GI x c g⟩ f,by simpa using I.len⟩ ⟨c,f,.inr g⟩
  ·exact(f.2 b (Zg (ZS (ZW e) (I.ok.Nk x c O2 g)))).trans (I.base.keep b o e n hb l)
  ·obtain⟨R,e1⟩:=I.base.slot b o e n hb l;exact⟨R,(f.2 b (Zg (ZS (ZW e) (I.ok.Nk x c O2 g)))).trans e1⟩
  ·obtain⟨o',e1⟩:=I.base.there b o e l;exact⟨o',(f.2 b (Zg (ZS (ZW e) (I.ok.Nk x c O2 g)))).trans e1⟩
  ·by_cases C:j=i
   ·subst C;rw[D]at e1;cases e1;rw[X3 Rb]at e2;cases e2;exact⟨u,r,.inr ⟨.inl t,c,g,HK⟩⟩
   ·rw[YI (Ya C)]at e2;obtain⟨P,U,q⟩:=hl j y M e1 e2 e3;refine⟨P,U,?_⟩;rcases q with q | ⟨k,G,e,z'⟩
    ·exact .inl q
    ·refine .inr ⟨k,G,e,z'.sameBut f ?_⟩;rintro rfl;exact C (rq hN e1 (I.ok.inj _ _ _ e g ▸ D))
  ·by_cases NX:G=c
   ·subst NX;exact⟨_,HK⟩
   ·obtain⟨w2,z2⟩:=I.cell y G e;exact⟨w2,z2.sameBut f NX⟩
  ·obtain⟨e,n,ne,nf,d⟩:=I.pin p hp;refine⟨(f.2 p.1 ?_).trans e,n,ne,nf,d⟩;intro q;rw[q,QV]at e;exact d F (by rw[← (Zh e)];exact OS)
def qU(I:Inv X pins J H s)(f:X.N.Nodup)(d:X.N[i]?=Z x)(b:Loc X.env.scope x)(r:RelV v u)(h:∀a,Inv X pins (J.set i (Z v)) H a->Q () a)(e:{`q0,X.fn x=B\/X.env.scope.names.lookup x=Z .local}):KM g A (storeName X.env x u) Q E s :=
 oI I f d b r (λa j _=>h a j) e
def Inv.Nj{a:FS}{ch:W4}(I:Inv X pins J H s)(e:a.os=s.os)(u:Un (G2 X.stack) ch H H' s.heap a.heap)(d:GV X.prog X.w H' a.heap)(f:AllBare a.gens)(g:∀b∈ch,(b∈X.ex\/X.s₀.heap.objs.size<=b)/\b≠X.env.locals/\(∀x c,X.env.cells.lookup x=Z c->c≠b)/\∀p∈X.pn++pins,p.1≠b):Inv X pins J H' a:=by
 obtain⟨h',g',d',t',h⟩:=a;subst e;exact I.call (g':=g') (t':=t') (d':=d') u d f g
end
abbrev XK:=KF->Option KB->Hp->Prop
noncomputable abbrev St:=List (Option V)
abbrev VK:=V->Hp->Prop
abbrev TE:=St->Hp->VK->Prop
abbrev TT:=St->Hp->(Bool->Hp->Prop)->Prop
abbrev TA:=St->Hp->(List V->Hp->Prop)->Prop
structure Ends where
 nx:St->Hp->Prop
 rt:VK
 bk:St->Hp->Prop:=λ_ _=>False
 ct:St->Hp->Prop:=λ_ _=>False
abbrev TS:=Ends->St->Hp->Prop
def EP(X:Cx)(a:Xl)(J:St)(Q:VK)(u:KF)(d:FS):Prop:=∃v b,Inv X a J b d/\RelV v u/\Q v b
noncomputable def TP(X:Cx)(a:Xl)(J:St)(Q:Bool->Hp->Prop)(b:Bool)(e:FS):Prop:=∃d,Inv X a J d e/\Q b d
def AP(X:Cx)(a:Xl)(J:St)(Q:List V->Hp->Prop)(e:W5)(f:FS):Prop:=∃b d,Inv X a J d f/\aK b e/\Q b d
def SP(X:Cx)(a:Xl)(D:Ends)(f:Flow)(e:FS):Prop :=
 match f with
 |.next=>∃d b,Inv X a d b e/\D.nx d b
 |.brk=>∃d b,Inv X a d b e/\D.bk d b
 |.cont=>∃d b,Inv X a d b e/\D.ct d b
 |.ret u=>∃v d b,Inv X a d b e/\RelV v u/\D.rt v b
def PE(X:Cx)(e:Expr)(t:TE):Prop :=
 ∀(a:Xl)(s:FS)(J:St)(H:Hp)(Q:VK),Inv X a J H s->t J H Q->KM (GM X.prog X.w) X.A (eval e X.env) (EP X a J Q) X.xe s
def PT(X:Cx)(e:Expr)(t:TT):Prop :=
 ∀(a:Xl)(s:FS)(J:St)(H:Hp)(Q:Bool->Hp->Prop),Inv X a J H s->t J H Q->KM (GM X.prog X.w) X.A (isTrue e X.env (eval e X.env)) (TP X a J Q) X.xe s
def PW(X:Cx)(e:Expr)(t:TT):Prop :=
 ∀(whole:Sem KF)(a:Xl)(s:FS)(J:St)(H:Hp)(Q:Bool->Hp->Prop),Inv X a J H s->t J H Q->KM (GM X.prog X.w) X.A (isTrue e X.env whole) (TP X a J Q) X.xe s
def PW.pt(h:PW X e t):PT X e t:=h _
def PA(X:Cx)(b:List Expr)(t:TA):Prop :=
 ∀(pos:Pos)(a:Xl)(s:FS)(J:St)(H:Hp)(Q:List V->Hp->Prop),Inv X a J H s->t J H Q->KM (GM X.prog X.w) X.A (spliced (backTo pos (PP b X.env))) (AP X a J Q) X.xe s
def PS(X:Cx)(b:Stmt)(t:TS):Prop :=
 ∀(a:Xl)(s:FS)(J:St)(H:Hp)(D:Ends),Inv X a J H s->t D J H->KM (GM X.prog X.w) X.A (exec b X.env) (SP X a D) X.xe s
def Hq(X:Cx)(b:List Stmt)(t:TS):Prop :=
 ∀(a:Xl)(s:FS)(J:St)(H:Hp)(D:Ends),Inv X a J H s->t D J H->KM (GM X.prog X.w) X.A (execs b X.env) (SP X a D) X.xe s
def thn{α:Type}{t:Sem α}{Q b:α->FS->Prop}(h:KM d A t Q E s)(e:∀a s,Q a s->b a s):KM d A t b E s:=YU h e λ_ _ x=>x
section
noncomputable def DL(i:Nat):TE:=λJ H Q=>∃v,J[i]?=Z (Z v)/\Q v H
noncomputable def tC(v:V):TE:=λ_ H Q=>Q v H
def fZ{X:Cx}(w:X.N[i]?=Z x)(o:Iw X.env.scope x)(f:{`q1,K3 x})(g:{`q1,K4 x}):PE X (.Name x d) (DL i):=by
 intro b s J H Q I h;obtain⟨v,e,h⟩:=h;obtain⟨m,p,t⟩:=I.loc;obtain⟨u,r,l⟩:=t i x v w e o;have fin:EP X b J Q u s:=⟨v,H,I,r,h⟩
 rcases l with⟨a,q⟩ | ⟨a,c,j,n⟩
 ·exact wpAny_Name (wpAny_loadName_local I.ok.kind a p q fin) f
 ·rcases a with a | a
  ·exact wpAny_Name (wpAny_loadName_cell I.ok.kind a j n fin) f
  ·exact wpAny_Name (wpAny_loadName_free I.ok.kind a j n fin g) f
def sg{i j pos}:PE X (.Constant (.int i) j pos) (tC (.int i)):=λ_ _ _ H _ I h=>wpAny_Constant_int ⟨.int i,H,I.tok _,⟨_,rfl⟩,h⟩
def D4{b j pos}:PE X (.Constant (.bool b) j pos) (tC (.bl b)):=λ_ _ _ H _ I h=>Constant_bool ⟨.bl b,H,I,rfl,h⟩
def Cp{j pos}:PE X (.Constant .none j pos) (tC .non):=λ_ _ _ H _ I h=>Constant_none ⟨.non,H,I,rfl,h⟩
def CW{x j pos}:PE X (.Constant (.str x) j pos) (tC (.str x)):=λ_ _ _ H _ I h=>Calls.Constant_str ⟨.str x,H,I.tok _,⟨_,rfl⟩,h⟩
noncomputable def Gl(X:Cx)(x:Str):Prop:=X.env.kindOf x=Z .globalImplicit
def l7(I:Inv X a J H s)(e:Gl X x)(d:X.mg x=Z u)(h:Q u s)(f:{`q1,K3 x}):KM (GM X.prog X.w) X.A (eval (.Name x b) X.env) Q E s :=
 Calls.Name_function_global I.ok.kind e (Calls.loadGlobal_global (by rw[I.ok.glob];exact I.mod.glob.keeps I.bk) d h) f
def mw(I:Inv X a J H s)(g:Gl X x)(f:X.mg x=L)(d:bootBuiltins x=Z u)(h:Q u s)(e:{`q1,x ≠ "__name__"})(i:{`q1,K3 x}):KM (GM X.prog X.w) X.A (eval (.Name x b) X.env) Q E s:=by
 obtain⟨m,l,j⟩:=I.mod.blt;exact Calls.Name_function_global I.ok.kind g (Calls.loadGlobal_builtin (by rw[I.ok.glob];exact I.mod.glob.keeps I.bk) f (by rw[I.ok.blt];exact l.keeps I.bk) ((j x e).trans d) h) i
def zD(d:Gl X x)(b:X.mg x=Z u)(r:RelV v u)(e:{`q1,K3 x}):PE X (.Name x a) (tC v) :=
 λ_ _ _ H _ I h=>l7 I d b ⟨v,H,I,r,h⟩ e
def oU{v:V}(f:Gl X x)(e:X.mg x=L)(b:bootBuiltins x=Z u)(r:RelV v u)(d:{`q1,x ≠ "__name__"})(g:{`q1,K3 x}):PE X (.Name x a) (tC v) :=
 λ_ _ _ H _ I h=>mw I f e b ⟨v,H,I,r,h⟩ d g
def PC(X:Cx)(g:CmpOp)(a b:Expr)(t:TE):Prop :=
 ∀(d:Xl)(s:FS)(J:St)(H:Hp)(Q:VK),Inv X d J H s->t J H Q →
  KM (GM X.prog X.w) X.A (eval a X.env) (λv f=>KM (GM X.prog X.w) X.A (eval b X.env) (λu e=>KM (GM X.prog X.w) X.A (SB g v u) (EP X d J Q) X.xe e) X.xe f) X.xe s
def yS(b:Expr)(h:d ≠ .In)(e:d ≠ .NotIn):behindInMarks d b=O:=by
 have e1:(d==CmpOp.In)=O:=by cases d<;>first | rfl | exact absurd Y h
 have e2:(d==CmpOp.NotIn)=O:=by cases d<;>first | rfl | exact absurd Y e
 cases b<;>simp[behindInMarks,e1,e2]
noncomputable def FF(ta:TE):TE:=λJ H Q=>ta J H λx d=>Q (.bl (decide (x=.non))) d
noncomputable def EJ(ta:TE):TE:=λJ H Q=>ta J H λx d=>Q (.bl (!decide (x=.non))) d
def RelV.Ic(r:RelV x v):(v==Value.none)=decide (x=.non):=by
 cases x with
 |non=>cases r;rfl
 |bl _=>cases r;rfl
 |int _=>obtain⟨t,rfl⟩:=r;rfl
 |str _=>obtain⟨t,rfl⟩:=r;rfl
 |byt _=>obtain⟨t,rfl⟩:=r;rfl
 |flt _=>obtain⟨t,rfl⟩:=r;rfl
 |ref _=>cases r;rfl
 |ty _=>cases r;rfl
def B4{j pos'}(f:PE X a ta):PC X .Is a (.Constant .none j pos') (FF ta):=by
 intro d s J H Q I h;refine thn (f d s J H _ I h) λv m g=>?_;obtain⟨x,l,i,r1,e⟩:=g;exact Constant_none (is_none_gen ⟨.bl _,l,i,by rw[r1.Ic];rfl,e⟩)
def zS{j pos'}(f:PE X a ta):PC X .IsNot a (.Constant .none j pos') (EJ ta):=by
 intro d s J H Q I h;refine thn (f d s J H _ I h) λv m g=>?_;obtain⟨x,l,i,r1,e⟩:=g;exact Constant_none (isnot_none_gen ⟨.bl _,l,i,by rw[r1.Ic];rfl,e⟩)
noncomputable def tB(t:TE):TT:=λJ H Q=>t J H λx d=>∃c,x=.bl c/\Q c d
def yy(h:PC X f a b t)(g:behindInMarks f b=O:=by first | exact yS _ (by decide) (by decide) | rfl):PT X (.Compare a [f] [b] pos) (tB t):=by
 intro e s J H Q I hw;refine wpAny_isTrue_Compare1 (thn (h e s J H _ I hw) λv r g=>thn g λu p l=>thn l λc o j=>?_) g;obtain⟨x,n,m,r1,i⟩:=j;obtain⟨d,rfl,q⟩:=i;cases r1;exact Yb ⟨n,m,q⟩
noncomputable def Fu(t u:TT):TT:=λJ H Q=>t J H λc d=>if c=B then u J d Q else Q O d
noncomputable def Sn(t u:TT):TT:=λJ H Q=>t J H λc d=>if c=B then Q B d else u J d Q
noncomputable def Fq(t:TT):TT:=λJ H Q=>t J H λc d=>Q (!c) d
def lV(f:PT X a tA):PW X (.BoolOp .And [a] pos) tA:=by
 intro g d s J H Q I h;refine isTrue_and (thn (f d s J H Q I h) λc i e=>?_);cases c with
 |true=>exact isTrue_and_nil e
 |false=>exact e
def la(f:PT X a tA):PW X (.BoolOp .Or [a] pos) tA:=by
 intro g d s J H Q I h;refine isTrue_or (thn (f d s J H Q I h) λc i e=>?_);cases c with
 |false=>exact isTrue_or_nil e
 |true=>exact e
def C0{X:Cx}{a:Expr}{pos:Pos}{tA NB:TT}{rest:List Expr}(m:PT X a tA)(l:PW X (.BoolOp .And (b :: rest) pos) NB):PW X (.BoolOp .And (a :: b :: rest) pos) (Fu tA NB):=by
 intro i d s J H Q I h;refine isTrue_and (thn (m d s J H _ I h) λc j n=>?_);obtain⟨g,f,e⟩:=n;cases c with
 |true=>exact l i d j J g Q f e
 |false=>exact⟨g,f,e⟩
def EC{X:Cx}{a:Expr}{pos:Pos}{tA NB:TT}{rest:List Expr}(m:PT X a tA)(l:PW X (.BoolOp .Or (b :: rest) pos) NB):PW X (.BoolOp .Or (a :: b :: rest) pos) (Sn tA NB):=by
 intro i d s J H Q I h;refine isTrue_or (thn (m d s J H _ I h) λc j n=>?_);obtain⟨g,f,e⟩:=n;cases c with
 |true=>exact⟨g,f,e⟩
 |false=>exact l i d j J g Q f e
def BV(e:PT X a tA):PT X (.UnaryOp .Not a pos) (Fq tA):=by
 intro d s J H Q I h;exact isTrue_not (e d s J H (λc f=>Q (!c) f) I h)
noncomputable def EW(ta e:TE):TE:=λJ H Q=>ta J H λx d=>∃c,x=.bl c/\if c=B then e J d Q else Q (.bl O) d
noncomputable def EX(ta:TE):TE:=λJ H Q=>ta J H λx d=>∃c,x=.bl c/\Q (.bl (!c)) d
def CT{op}(h:PE X a t):PE X (.BoolOp op [a] pos) t:=λd s J H Q I hw=>BoolOp_one (h d s J H Q I hw)
def CO{X:Cx}{a:Expr}{ta tb:TE}{pos:Pos}{rest:List Expr}(l:PE X a ta)(j:PE X (.BoolOp .And (b :: rest) pos) tb):PE X (.BoolOp .And (a :: b :: rest) pos) (EW ta tb):=by
 intro d s J H Q I h;refine BoolOp_and (thn (l d s J H _ I h) λv i m=>?_);obtain⟨x,g,f,r1,e⟩:=m;obtain⟨c,rfl,e⟩:=e;cases r1;refine Yb ?_;cases c with
 |true=>exact j d i J g Q f e
 |false=>exact⟨.bl O,g,f,rfl,e⟩
def BQ(f:PE X a ta):PE X (.UnaryOp .Not a pos) (EX ta):=by
 intro d s J H Q I h;refine UnaryOp_ (thn (f d s J H _ I h) λv l g=>?_);obtain⟨x,j,i,r1,e⟩:=g;obtain⟨c,rfl,e⟩:=e;cases r1;exact not_of (Yb ⟨.bl (!c),j,i,rfl,e⟩)
noncomputable def So(t:TT)(ta e:TE):TE:=λJ H Q=>t J H λc d=>if c=B then ta J d Q else e J d Q
def wB(l:PT X c tA)(n:PE X a ta)(m:PE X b tb):PE X (.IfExp c a b pos) (So tA ta tb):=by
 intro e s J H Q I h;refine wpAny_IfExp (thn (l e s J H _ I h) λd f o=>?_);obtain⟨j,i,g⟩:=o;cases d with
 |true=>exact n e f J j Q i g
 |false=>exact m e f J j Q i g
end
def FT(K:W0)(H:Hp)(a:KB)(d:List V):Prop :=
 Rd H a (.lst d) ∨
  ∃(o:Obj)(b:Array KF)(n:Nat),K.lookup a=Z o/\o.cls=.type "list" ∧ o.dict=L/\o.data=.seq b n/\b.size<=IR/\aK d b.toList
def GU(K:W0)(H:Hp)(a:KB)(d:List V):Prop :=
 Rd H a (.tup d) ∨
  ∃(o:Obj)(b:Array KF)(n:Nat),K.lookup a=Z o/\o.cls=.type "tuple" ∧ o.data=.seq b n/\b.size<=IR/\aK d b.toList
noncomputable def Fo:KF->Option V
 |.none=>Z .non
 |.bool b=>Z (.bl b)
 |.int i _=>Z (.int i)
 |.str x _=>Z (.str x)
 |.bytes b _=>Z (.byt b)
 |.float b _=>Z (.flt b)
 |.ref a=>Z (.ref a)
 |.type n=>Z (.ty n)
 |_=>L
def RelV.abs(r:RelV x u):Fo u=Z x:=by
 cases x with
 |non=>cases r;rfl
 |bl _=>cases r;rfl
 |int _=>obtain⟨t,rfl⟩:=r;rfl
 |str _=>obtain⟨t,rfl⟩:=r;rfl
 |byt _=>obtain⟨t,rfl⟩:=r;rfl
 |flt _=>obtain⟨t,rfl⟩:=r;rfl
 |ref _=>cases r;rfl
 |ty _=>cases r;rfl
def RelV.inj(r:RelV x u)(q:RelV y u):x=y:=Zh (r.abs.symm.trans q.abs)
theorem aK.inj:∀{b a:List V}{d:W5},aK b d->aK a d->b=a
 |_,_,_,.nil,.nil=>rfl
 |_,_,_,.cons r t,.cons f e=>by rw[r.inj f,aK.inj t e]
section
def FT.of{K:W0}(h:H a=Z (.lst xs)):FT K H a xs:=.inl (.inl h)
def GU.of{K:W0}(h:H a=Z (.tup xs)):GU K H a xs:=.inl (.inl h)
def Inv.list(I:Inv X pins J H s)(h:FT X.K H a xs):∃b:W5,aK xs b/\PlainL s.heap a b.toArray/\xs.length<=sizeLine:=by
 rcases h with h | ⟨o,b,n,f,g,hd,d,i,r⟩
 ·obtain⟨z,b,n,r,e⟩:=h.ok I.oe;exact⟨b,r,⟨_,n,e,rfl,rfl,rfl⟩,z⟩
 ·refine⟨b.toList,r,⟨o,n,I.GP a o f,g,hd,by simpa using d⟩,?_⟩;have e:=r.length;simp only[Z4]at e;lia
def Inv.tuple(I:Inv X pins J H s)(h:GU X.K H a xs):∃b:W5,aK xs b/\IsTup s.heap a b.toArray/\xs.length<=sizeLine:=by
 rcases h with h | ⟨o,b,n,f,g,d,i,r⟩
 ·obtain⟨z,b,r,_,p⟩:=h.ok I.oe;exact⟨b,r,p,z⟩
 ·refine⟨b.toList,r,⟨o,I.GP a o f,g,n,by simpa using d⟩,?_⟩;have e:=r.length;simp only[Z4]at e;lia
def Inv.Ig(I:Inv X pins J H s)(h:FT X.K H a xs)(i:FT X.K H a ys):xs=ys:=by
 obtain⟨j,r,⟨o,n,e,_,_,d⟩,_⟩:=I.list h;obtain⟨l,g,⟨m,p,b,_,_,f⟩,_⟩:=I.list i;rw[e]at b;cases b;rw[d]at f;injection f with d1 _
 have:j=l:=by simpa using congrArg Array.toList d1
 subst this;exact r.inj g
def Inv.IZ(I:Inv X pins J H s)(h:GU X.K H a xs)(i:GU X.K H a ys):xs=ys:=by
 obtain⟨j,r,⟨o,e,_,n,d⟩,_⟩:=I.tuple h;obtain⟨l,g,⟨m,b,_,p,f⟩,_⟩:=I.tuple i;rw[e]at b;cases b;rw[d]at f;injection f with d1 _
 have:j=l:=by simpa using congrArg Array.toList d1
 subst this;exact r.inj g
end
noncomputable abbrev Cx.Hr(X:Cx)(E:Xz):Cx:={ X with xe:=E }
abbrev Cx.IC(X:Cx):Cx:=X.Hr λ_ _=>False
theorem Cx.Ok.Hr{X:Cx}(a:X.Ok)(E:Xz):(X.Hr E).Ok :=
 ⟨a.mod,a.kind,a.glob,a.blt,a.above,a.inj,a.has,a.Nk,a.hd,a.frames,a.NC,a.RT,a.tb,a.bs,a.KA,a.JC,a.Kv,a.Hc,a.LI⟩
def Cx.Ok.GG{X:Cx}(a:(X.Hr E).Ok):X.Ok :=
 ⟨a.mod,a.kind,a.glob,a.blt,a.above,a.inj,a.has,a.Nk,a.hd,a.frames,a.NC,a.RT,a.tb,a.bs,a.KA,a.JC,a.Kv,a.Hc,a.LI⟩
section
theorem Inv.Hr(I:Inv X pins J H s)(E:Xz):Inv (X.Hr E) pins J H s:=⟨I.ok.Hr E,I.os,I.bare,I.base,I.loc,I.cell,I.free,I.GI,I.pin,I.oe,I.len⟩
theorem Inv.GG{X:Cx}(I:Inv (X.Hr E) pins J H s):Inv X pins J H s:=⟨I.ok.GG,I.os,I.bare,I.base,I.loc,I.cell,I.free,I.GI,I.pin,I.oe,I.len⟩
theorem SP.GG{X:Cx}(h:SP (X.Hr E) pins D f d):SP X pins D f d:=by
 cases f with
 |next=>obtain⟨a,b,I,q⟩:=h;exact⟨a,b,I.GG,q⟩
 |brk=>obtain⟨a,b,I,q⟩:=h;exact⟨a,b,I.GG,q⟩
 |cont=>obtain⟨a,b,I,q⟩:=h;exact⟨a,b,I.GG,q⟩
 |ret u=>obtain⟨v,a,b,I,r,q⟩:=h;exact⟨v,a,b,I.GG,r,q⟩
theorem Hq.IC{X:Cx}(h:Hq X.IC a t):Hq X a t:=λpins s J H D I hw =>
 YU (h pins s J H D (I.Hr _) hw) (λ_ _ q=>q.GG) λ_ _ z=>False.elim z
end
section
variable{st:Stmt}
noncomputable def ES:TS:=λD J H=>D.nx J H
noncomputable def FH(t u:TS):TS:=λD J H=>t { D with nx:=u D } J H
def Av:Hq X [] ES:=λ_ _ J H _ I h=>Wr ⟨J,H,I,h⟩
def xU{X:Cx}{rest:List Stmt}{t u:TS}(g:PS X st t)(d:Hq X rest u):Hq X (st :: rest) (FH t u):=by
 intro a s J H D I h;refine wpAny_execs_cons (thn (g a s J H { D with nx:=u D } I h) λf b q=>?_);cases f with
 |next =>
  obtain⟨i,l,j,q⟩:=q;exact d a b i l D j q
 |ret v=>exact q
 |brk=>exact q
 |cont=>exact q
def ak(b:PS X st t):Hq X [st] t:=by
 intro a s J H D I h;refine wpAny_execs_cons (thn (b a s J H D I h) λf d q=>?_);cases f with
 |next=>exact Wr q
 |ret v=>exact q
 |brk=>exact q
 |cont=>exact q
def Inv.quiet(I:Inv X a J H s):interactive X.env=O:=by simp[interactive,I.ok.kind]
noncomputable def Ei(a:TE):TS:=λD J H=>a J H λ_ b=>D.nx J b
def jg{pos:Pos}(he:PE X e te)(d:{`q2,swapsWith e L pos.line X.env=pure O}):PS X (.Expr e pos) (Ei te):=by
 intro a s J H D I h;exact wpAny_Expr_any (thn (he a s J H _ I h) λv i ⟨x,g,f,r1,b⟩=>⟨J,g,f,b⟩) I.quiet d
noncomputable def FM(a:TE):TS:=λD J H=>a J H D.rt
def p6(he:PE X e te):PS X (.Return (Z e) pos) (FM te):=by
 intro a s J H D I h;refine wpAny_Return_some (thn (he a s J H _ I h) λv i d=>?_);obtain⟨x,g,f,r1,b⟩:=d;exact⟨x,J,g,f,r1,b⟩
noncomputable def Fg(c:TT)(t u:TS):TS:=λD J H=>c J H λb a=>if b=B then t D J a else u D J a
def Ea(n:PT X c g)(p:Hq X a t)(o:Hq X b u):PS X (.If c a b pos) (Fg g t u):=by
 intro f s J H D I h;refine wpAny_If (thn (n f s J H _ I h) λd i q=>?_);obtain⟨m,l,j⟩:=q;cases d with
 |true=>exact p f i J m D l j
 |false=>exact o f i J m D l j
end
abbrev TG:=V->St->Hp->(St->Hp->Prop)->Prop
abbrev KC:=List V->St->Hp->(St->Hp->Prop)->Prop
def PG(X:Cx)(a:Expr)(t:TG):Prop :=
 ∀(b:Xl)(s:FS)(J:St)(H:Hp)(v:V)(u:KF)(Q:St->Hp->Prop),Inv X b J H s->RelV v u->t v J H Q →
  KM (GM X.prog X.w) X.A (assign a X.env u) (λ_ f=>∃d e,Inv X b d e f/\Q d e) X.xe s
def Ke(X:Cx)(g:List Expr)(t:KC):Prop :=
 ∀(a:Xl)(s:FS)(J:St)(H:Hp)(b:List V)(d:W5)(Q:St->Hp->Prop),Inv X a J H s->aK b d->t b J H Q →
  KM (GM X.prog X.w) X.A (assignInOrder ((assignEach g X.env).map (·.2)) d) (λ_ h=>∃e f,Inv X a e f h/\Q e f) X.xe s
abbrev zj:=V->V->V->Hp->(Hp->Prop)->Prop
def B3(X:Cx)(t:zj):Prop :=
 ∀(a:Xl)(s:FS)(J:St)(H:Hp)(o i v:V)(b iv u:KF)(Q:Hp->Prop),Inv X a J H s->RelV o b->RelV i iv->RelV v u->t o i v H Q →
  KM (GM X.prog X.w) X.A (setItem b iv u) (λ_ e=>∃d,Inv X a J d e/\Q d) X.xe s
section
noncomputable def Bs(i:Nat):TG:=λv J H Q=>Q (J.set i (Z v)) H
def AQ{X:Cx}(f:X.N.Nodup)(d:X.N[i]?=Z x)(b:Loc X.env.scope x)(e:{`q0,X.fn x=B\/X.env.scope.names.lookup x=Z .local}):PG X (.Name x pos) (Bs i):=by
 intro a s J H v u Q I r h;exact wpAny_assign_Name (qU I f d b r (λj g=>⟨_,H,g,h⟩) e)
noncomputable def Fx:KC:=λa J H Q=>a=[]/\Q J H
noncomputable def DK(t:TG)(u:KC):KC:=λa J H Q=>∃v r,a=v :: r/\t v J H λb d=>u r b d Q
def Ay:Ke X [] Fx:=by
 intro a s J H b d Q I r h;obtain⟨e,h⟩:=h;subst e;cases r;exact assignInOrder_nil ⟨J,H,I,h⟩
def xZ(m:PG X e t)(l:Ke X b u)(i:{`q2,(assignEach (e :: b) X.env).map (·.2)=assign e X.env :: (assignEach b X.env).map (·.2)}):Ke X (e :: b) (DK t u):=by
 intro a s J H q x Q I r h;obtain⟨v,w,e1,h⟩:=h;subst e1;cases r with
 |cons r f =>
  rw[i];refine assignInOrder_cons (thn (m a s J H _ _ _ I r h) λ_ d j=>?_);obtain⟨n,p,o,g⟩:=j;exact l a d n p _ _ Q o f g
def jM(K:W0)(n:Nat)(t:KC):TG:=λv J H Q=>∃a b,v=.ref a/\GU K H a b/\b.length=n/\t b J H Q
def B2{X:Cx}(w:X.calm=B)(h:Ke X f t)(p:{`q2,(assignEach f X.env).length=n})(x:{`q2,(assignEach f X.env).findIdx? (·.1)=L}):PG X (.Tuple f k pos) (jM X.K n t):=by
 intro d s J H v u Q I r hw;obtain⟨a,i,e1,m,q,hw⟩:=hw;subst e1;cases r;obtain⟨A,g,l,y⟩:=I.tuple m;refine assign_Tuple_tuple (I.ok.hd w) l (by simp[p,← q,g.length]) x λz j=>?_;exact h d _ J H i _ Q (I.kept (t':=s.toks) λb o e=>j b o (Zg (ZW e)) e) (by simpa using g) hw
noncomputable def D3(a b:TE)(t:zj):TG:=λv J H Q=>a J H λo f=>b J f λi e=>t o i v e λd=>Q J d
def sZ(q:PE X o e)(w:PE X i f)(p:B3 X t)(z:{`q3,∀v,assign (.Subscript o i pos) X.env v=(do
   let b ← holding [v] (eval o X.env)
   let iv ← holding [v,b] (eval i X.env)
   standAt pos
   holding [v,b,iv] (setItem b iv v)
   release [v,b,iv] [])}):PG X (.Subscript o i pos) (D3 e f t):=by
 intro a s J H v u Q I r h;rw[z];refine Zv (YB (thn (q a s J H _ I h) λb j d=>?_));obtain⟨x,G,D,r1,n⟩:=d;refine Zv (YB (thn (w a j J G _ D n) λiv g d=>?_));obtain⟨y,F,C,r2,m⟩:=d;refine Zv (wpAny_standAt (Zv (YB (thn (p a g J F x y v b iv u _ C r1 r2 r m) λ_ M d=>?_))));obtain⟨E,A,l⟩:=d;exact wpAny_release ⟨J,E,A,l⟩
noncomputable def D7(a:TE)(g:TG):TS:=λD J H=>a J H λx b=>g x J b D.nx
def sY{pos:Pos}(he:PE X e d)(l:PG X b g)(j:{`q2,swapsWithSole [b] e pos.line X.env=pure O})(hw:{`q2,swappedStores [b] e X.env=pure L})(n:{`q2,(assignEach [b] X.env).map (·.2)=[assign b X.env]}):PS X (.Assign [b] e pos) (D7 d g):=by
 intro a s J H D I h;refine wpAny_Assign_stores (thn (he a s J H _ I h) λv f m=>?_) j hw;obtain⟨x,p,o,r1,i⟩:=m;rw[n];exact thn (l a f J p x v _ o r1 i) λ_ r q=>q
def sG{X:Cx}{pos:Pos}(o:X.N.Nodup)(l:X.N[i]?=Z x)(g:Loc X.env.scope x)(he:PE X e d)(j:{`q2,swapsWith e (Z (.Name x a)) pos.line X.env=pure O})(m:{`q0,X.fn x=B\/X.env.scope.names.lookup x=Z .local}) :
  PS X (.Assign [.Name x a] e pos) (D7 d (Bs i)):=by
 intro b s J H D I h;refine wpAny_Assign_Name (thn (he b s J H _ I h) λv u n=>?_) j;obtain⟨y,r,q,r1,f⟩:=n;exact qU q o l g r1 (λt p=>⟨_,r,p,f⟩) m
end
section
def BN(c:TT)(g:TS):TS:=λD J H=>∃W:Nat->St->Hp->Prop,(∃m,W m J H)/\∀m J H,W m J H →
 c J H λb e=>if b=B then ∃N:St->Hp->Prop,(∀d f,N d f->∃a,a<m/\W a d f)/\g { D with nx:=N,ct:=N,bk:=D.nx } J e else D.nx J e
def wF{X:Cx}(x:PassesOwn (GM X.prog X.w) X.A X.env X.xe)(U:PT X c t)(hb:Hq X d u):PS X (.While c d [] pos) (BN t u):=by
 intro a s J H D I h;obtain⟨W,⟨S,M⟩,turn⟩:=h;refine wpAny_While (codeAny_whileLoop (λn R=>∃y F,Inv X a y F R/\W n y F) ?_ S ⟨J,H,I,M⟩);rintro n Q ⟨l,E,I1,G⟩;refine Y9 x (thn (U a Q l E _ I1 (turn n l E G)) λb P h_=>?_);obtain⟨C,z,j⟩:=h_;cases b with
 |true =>
  obtain⟨N,hN,j⟩:=j;rw[Zp Y];refine Y9 x (thn (hb a P l C _ z j) λf s3 i=>?_);cases f with
  |next =>
   obtain⟨e,g,r,o⟩:=i;obtain⟨p,q,m⟩:=hN e g o;exact⟨p,q,e,g,r,m⟩
  |cont =>
   obtain⟨e,g,r,o⟩:=i;obtain⟨p,q,m⟩:=hN e g o;exact⟨p,q,e,g,r,m⟩
  |brk=>exact i
  |ret v=>exact i
 |false =>
  rw[Zn Zc];exact Wr ⟨l,C,z,j⟩
end
structure It where
 go:Nat->Hp->Prop
 Ny:Nat->Hp->V->Hp->Prop
 stop:Nat->Hp->Prop
def n5(X:Cx)(a:Xl)(H:Hp)(b:KB):Prop :=
 H b=L/\b≠X.env.locals/\b∉X.fs/\(b∈X.ex\/X.s₀.heap.objs.size<=b)/\(∀x c,X.env.cells.lookup x=Z c->c≠b)/\∀p∈X.pn++a,p.1≠b
def Inv.JP(I:Inv X a J H s)(d:s.heap.objs.size<=b)(h:f b=L):n5 X a f b:=by
 refine⟨h,Xi (ZS I.lt d),I.OC d,.inr (ZY I.sz d),λx c e z=>?_,λp g z=>?_⟩
 ·obtain⟨v,q⟩:=I.cell x c e;exact absurd (ZS q.lt (by rw[z];exact d)) (YZ _)
 ·exact absurd (ZS (ZW (I.pin p g).1) (by rw[z];exact d)) (YZ _)
structure Turn(P:Pv)(w:SL)(K:W0)(tg:Expr)(Jq:It)(fp:W4)(it:KB)(tn:Nat->SC->Prop):Prop where
 mem:it∈fp
 obj:∀i h,tn i h->∀b∈fp,∃o,h.get? b=some o/\∀v,o.data ≠ .cell v
 keep:∀i h h',tn i h->(∀b∈fp,∀o,h.get? b=some o->h'.get? b=some o)->tn i h'
 item:∀(X:Cx),X.prog=P->X.w=w->X.K=K->X.calm=true->∀(i:Nat)(pins:Xl)(s:FS)(J:St)(H:Hp)(E:Xz),Inv X pins J H s->(∀b∈fp,n5 X pins H b)->tn i s.heap->Jq.go i H →
  KM (GM P w) X.A (pyNext (.ref it)) (λr s1=>∃u,r=some u ∧
   KM (GM P w) X.A (letOwnedTupleGo tg (.ref it) u) (λ_ s2=>∃x H',Inv X pins J H' s2/\RelV x u/\Jq.Ny i H x H'/\tn (i+1) s2.heap/\∀b∈fp,H' b=none) E s1) E s
 done:∀(X:Cx),X.prog=P->X.w=w->X.K=K->X.calm=true->∀(i:Nat)(pins:Xl)(s:FS)(J:St)(H:Hp)(E:Xz),Inv X pins J H s->(∀b∈fp,n5 X pins H b)->tn i s.heap->Jq.stop i H →
  KM (GM P w) X.A (pyNext (.ref it)) (λr s1=>r=none/\Inv X pins J H s1) E s
 self:∀(A:P3)(i:Nat)(s:FS)(Q:Xz)(E:Xz),tn i s.heap->Q (.ref it) s->KM (GM P w) A (pyIter (.ref it)) Q E s
abbrev TI:=St->Hp->(It->Hp->Prop)->Prop
def RZ(X:Cx)(a:Xl)(J:St)(h:Expr)(R:It->Hp->Prop)(i:KF)(f:FS):Prop :=
 ∃(it:KB)(fp:W4)(e:Nat->SC->Prop)(g:It)(d:Hp),i=.ref it/\Inv X a J d f/\Turn X.prog X.w X.K h g fp it e/\e 0 f.heap/\(∀b∈fp,n5 X a d b)/\R g d
def PI(X:Cx)(e b:Expr)(d:TI):Prop :=
 ∀(a:Xl)(s:FS)(J:St)(H:Hp)(R:It->Hp->Prop),Inv X a J H s->d J H R →
  KM (GM X.prog X.w) X.A (eval b X.env) (λv f=>KM (GM X.prog X.w) X.A (pyIter v) (RZ X a J e R) X.xe f) X.xe s
def qW{s:FS}(g:s.heap.get? e=Z o)(l:o.cls=.type n)(j:o.data=.fields b)(i:["enumerate", "zip", "dict_itemiterator", "dict_reverseitemiterator", "odict_iterator", "itertools.zip_longest", "itertools.pairwise"].contains n=O)(a:Q () s):KM f A (letOwnedTupleGo d (.ref e) u) Q E s:=by
 cases d<;>first
  |exact Zl a
  | (cases u<;>first
    |exact Zl a
    | (refine Zv (wpAny_load g ?_)
       rw[l,j];show KM f A (if (["enumerate", "zip", "dict_itemiterator", "dict_reverseitemiterator", "odict_iterator", "itertools.zip_longest", "itertools.pairwise"].contains n&&b[0]? == Z (rawInt _))=B then _ else _) Q E s;rw[Zn (by intro h;rw[i,Bool.false_and]at h;cases h)];exact Zl a))
def P2(K:W0)(a:KB):It :=
 ⟨λi H=>∃b x,FT K H a b/\b[i]?=Z x,λi H x d=>d=H/\∀b,FT K H a b->b[i]?=Z x,λi H=>∃b,FT K H a b/\b.length<=i⟩
def P1(K:W0)(a:KB):It :=
 ⟨λi H=>∃b x,GU K H a b/\b[i]?=Z x,λi H x d=>d=H/\∀b,GU K H a b->b[i]?=Z x,λi H=>∃b,GU K H a b/\b.length<=i⟩
noncomputable def N9(a:Int)(n:Nat):It:=⟨λi _=>i<n,λi H x b=>b=H/\x=.int (a+i),λi _=>n<=i⟩
def u4{P:Pv}{w:SL}{K:W0}{N:Expr}(a f:KB):Turn P w K N (P2 K a) [f] f (λi h=>h.IsListIter f a i) where
 mem:=by simp
 obj:=λi h st b hb=>by
  have e:b=f:=by simpa using hb
  subst e;obtain⟨o,e,c,d⟩:=st;exact⟨o,e,λv z=>by rw[d]at z;cases z⟩
 keep:=λi h F st k=>st.at λo e=>k f (by simp) o e
 item:=by
  intro X r hw t D i g s J H E I l st hg;refine L2.ar λP_ n=>?_;subst r hw t;obtain⟨M,x,j,q⟩:=hg;obtain⟨cv,m,p,S⟩:=I.list j;obtain⟨u,Y,R⟩:=m.get q;obtain⟨C,f1,f2,f3,A,y⟩:=l f (by simp);refine n ?_;refine wpAny_pyNext_list_item st p.isList (x:=u) (by simpa using Y) λF G Q=>?_;obtain⟨o,e,c,d⟩:=id G;exact⟨u,rfl,qW e c d (by decide) ⟨x,H,(I.turned (t':=s.toks) (λb o hb e=>(Q.2 b hb).trans e) C f1 f3 A y),R,⟨rfl,λys U=>by rw[I.Ig U j];exact q⟩,G,λb hb=>(l b hb).1⟩⟩
 done:=by
  intro X r hw t D i g s J H E I l st hg;refine L2.ar λP_ n=>?_;subst r hw t;obtain⟨M,j,q⟩:=hg;obtain⟨cv,m,p,S⟩:=I.list j;obtain⟨C,f1,f2,f3,A,y⟩:=l f (by simp);refine n ?_;have hl:=m.length;exact wpAny_pyNext_list_end (I.ok.hd D) st p.isList (by simp;lia) λF eb=>⟨rfl,I.turned (λb o hb e=>eb b o hb e) C f1 f3 A y⟩
 self:=λ_ _ _ _ _ st h=>wpAny_pyIter_listiter st h
def sH{P:Pv}{w:SL}{K:W0}{N:Expr}(a f:KB):Turn P w K N (P1 K a) [f] f (λi h=>h.IsTupleIter f a i) where
 mem:=by simp
 obj:=λi h st b hb=>by
  have e:b=f:=by simpa using hb
  subst e;obtain⟨o,e,c,d⟩:=st;exact⟨o,e,λv z=>by rw[d]at z;cases z⟩
 keep:=λi h F st k=>st.at λo e=>k f (by simp) o e
 item:=by
  intro X r hw t D i g s J H E I l st hg;refine L2.ar λP_ n=>?_;subst r hw t;obtain⟨M,x,j,q⟩:=hg;obtain⟨cv,m,p,S⟩:=I.tuple j;obtain⟨u,Y,R⟩:=m.get q;obtain⟨C,f1,f2,f3,A,y⟩:=l f (by simp);refine n ?_;refine wpAny_pyNext_tuple_item st (p) (x:=u) (by simpa using Y) λF G Q=>?_;obtain⟨o,e,c,d⟩:=id G;exact⟨u,rfl,qW e c d (by decide) ⟨x,H,(I.turned (t':=s.toks) (λb o hb e=>(Q.2 b hb).trans e) C f1 f3 A y),R,⟨rfl,λys U=>by rw[I.IZ U j];exact q⟩,G,λb hb=>(l b hb).1⟩⟩
 done:=by
  intro X r hw t D i g s J H E I l st hg;refine L2.ar λP_ n=>?_;subst r hw t;obtain⟨M,j,q⟩:=hg;obtain⟨cv,m,p,S⟩:=I.tuple j;obtain⟨C,f1,f2,f3,A,y⟩:=l f (by simp);refine n ?_;have hl:=m.length;exact wpAny_pyNext_tuple_end (I.ok.hd D) st (p) (by simp;lia) λF eb=>⟨rfl,I.turned (λb o hb e=>eb b o hb e) C f1 f3 A y⟩
 self:=λ_ _ _ _ _ st h=>wpAny_pyIter_tupleiter st h
def tH{P:Pv}{w:SL}{K:W0}{y:Expr}(a:KB)(f:Int)(n:Nat):Turn P w K y (N9 f n) [a] a (λi h=>IsRangeIter h a (f+(i:Nat)*1) ((n:Int)-(i:Nat)) 1) where
 mem:=by simp
 obj:=λi h st b hb=>by
  have e:b=a:=by simpa using hb
  subst e;exact⟨_,st,λv z=>by
   cases z⟩
 keep:=λi h u st k=>k a (by simp) _ st
 item:=by
  intro X l hw m j i d s J H E I g st hg;subst l hw m;obtain⟨r,f1,f2,f3,q,p⟩:=g a (by simp);refine(Walks.range (prog:=X.prog) (w:=X.w) (I.ok.hd j) a f 1 n).item i s _ _ hg st λv u F C x A=>?_;obtain⟨t,rfl⟩:=C;refine⟨_,rfl,qW x Y Y (by decide) ⟨.int (f+i),H,(I.turned (λb o hb e=>A b o (by simpa using hb) e) r f1 f3 q p),⟨t,?_⟩,⟨rfl,rfl⟩,x,λb hb=>(g b hb).1⟩⟩;rw[Int.mul_one]
 done:=by
  intro X l hw m j i d s J H E I g st hg;subst l hw m;obtain⟨r,f1,f2,f3,q,p⟩:=g a (by simp);exact wpAny_pyNext_range_end (I.ok.hd j) st (by have:n<=i:=hg;lia) λu D=>⟨rfl,I.turned (λb o hb e=>D b o hb e) r f1 f3 q p⟩
 self:=λ_ _ _ _ _ st h=>wpAny_pyIter_rangeiter st h
section
def wV{a f:Int}(I:Inv X d J H s)(m:-(2 ^ 62)<=a)(l:a<2 ^ 62)(j:-(2 ^ 62)<=f)(i:f<2 ^ 62)(q:R (N9 a (f-a).toNat) H):KM (GM X.prog X.w) X.A (pyIter (.ref s.heap.objs.size)) (RZ X d J tg R) E { s with heap:=s.heap.push { cls:=.type "range",data:=.fields #[.int a t,.int f u,.int 1 v] },toks:=g }:=by
 refine wpAny_pyIter_range (IsRange.new ..) (small_one m l j i) ?_;have h:Inv X d J H { s with heap:=s.heap.push { cls:=.type "range",data:=.fields #[.int a t,.int f u,.int 1 v] },toks:=g }:=I.kept λb o e=>Zo _ e;refine⟨(s.heap.push { cls:=.type "range",data:=.fields #[.int a t,.int f u,.int 1 v] }).objs.size,[(s.heap.push { cls:=.type "range",data:=.fields #[.int a t,.int f u,.int 1 v] }).objs.size],_,_,H,rfl,
  h.kept (t':=g) λb o e=>Zo _ e,tH _ a (f-a).toNat,?_,λb hb=>?_,q⟩
 ·have e1:a+((0:Nat):Int)*1=a:=by simp
  have e2:(((f-a).toNat:Nat):Int)-((0:Nat):Int)=Builtin.Range.rangeSize a f 1:=by rw[rangeSize_one];split<;>lia
  rw[e1,e2];exact Ze _ Y
 ·have e:b=(s.heap.push { cls:=.type "range",data:=.fields #[.int a t,.int f u,.int 1 v] }).objs.size:=by simpa using hb
  subst e;exact h.JP (Zm _) (h.oe.fresh (Zm _))
def DT(ta:TA):TI:=λJ H R=>ta J H λa b=>∃j:Int,a=[.int j]/\-(2 ^ 62)<=j/\j<2 ^ 62/\R (N9 0 j.toNat) b
def vd(o:Gl X "range")(n:X.mg "range" = L)(u:PA X [a] g)(m:{`q2,PP [a] X.env=[(O,eval a X.env)]}):PI X tg (.Call (.Name "range" p) [a] [] b) (DT g):=by
 intro d s J H R I h;refine Call_ (mw I o n boot_range (XM (thn (u b d s J H _ I h) λy z v=>?_) m Y));obtain⟨x,A,w,r1,f⟩:=v;obtain⟨j,e,f,l,q⟩:=f;subst e;cases r1 with
 |cons r i =>
  cases i;obtain⟨t,rfl⟩:=r;exact call_range_1 (wV w (by lia) (by lia) f l (by simpa using q))
def Eg(f:TI)(g:TG)(h:TS):TS:=λD J H=>f J H λb n=>∃W:Nat->Nat->St->Hp->Prop,(∃m,W 0 m J n)/\∀i m J H,W i m J H →
 (b.stop i H/\D.nx J H)\/(b.go i H/\∃N:St->Hp->Prop,(∀e a,N e a->∃d,d<m/\W (i+1) d e a)/\∀x a,b.Ny i H x a->g x J a λj l=>h { D with nx:=N,ct:=N,bk:=D.nx } j l)
noncomputable def nz(a:W4)(h:SC):Xl:=a.filterMap λb=>(h.get? b).map λo=>(b,o)
def ik{h:SC}(d:b∈a)(e:h.get? b=Z o):(b,o)∈nz a h:=List.mem_filterMap.mpr ⟨b,d,by rw[e];rfl⟩
def vh(d:p∈nz a h):p.1∈a/\h.get? p.1=Z p.2:=by
 obtain⟨b,hb,e⟩:=List.mem_filterMap.mp d;cases q:h.get? b with
 |none=>rw[q]at e;cases e
 |some o =>
  rw[q]at e;have f:=Zh e;subst f;exact⟨hb,q⟩
def Inv.pinned(I:Inv X a J H s)(j:∀b∈f,n5 X a H b)(i:∀b∈f,∃o,s.heap.get? b=Z o/\∀v,o.data ≠ .cell v):Inv X (a++nz f s.heap) J H s :=
 I.IP λp h=>(Zd.mp h).elim (λz=>I.pin p (ZM _ z)) λz=>by
  obtain⟨hb,e⟩:=vh z;obtain⟨l,f1,f2,_⟩:=j p.1 hb;obtain⟨o,g,d⟩:=i p.1 hb;rw[e]at g;cases g;exact⟨e,l,f1,f2,d⟩
def Inv.GW(I:Inv X (a++b) J H s):Inv X a J H s:=I.IP λp d=>I.pin p (ZM _ (Yv _ d))
def Dw{X:Cx}(G:PassesOwn (GM X.prog X.w) X.A X.env X.xe)(hc:X.calm=B)(hi:PI X tg j wi)(hg:PG X tg g)(l:Hq X C tb)(hs:{`q3,∀x,UF j X.env x=pure x}):PS X (.For tg j C [] S) (Eg wi g tb):=by
 intro a s J H D I h;refine wpAny_For (thn (hi a s J H _ I h) λv s1 h1=>thn h1 λOL s2 h2=>?_) hs;refine L2.ar λP_ k_=>?_;obtain⟨it,fp,tn,Jq,H2,e,I2,T,ND,f2,W,⟨m0,w0⟩,turn⟩:=h2;subst e;refine k_ ?_;have IB:∀{y:Hp},(∀b∈fp,y b=L)->∀b∈fp,n5 X a y b:=λhn b l=>⟨hn b l,(f2 b l).2⟩
 refine codeAny_forLoop_any (λn s'=>∃i P y,Inv X a P y s'/\tn i s'.heap/\(∀b∈fp,y b=L)/\W i n P y) ?_ m0 ⟨0,J,H2,I2,ND,λb l=>(f2 b l).1,w0⟩;rintro n s3 ⟨i,M,Q,I3,KJ,M6,w3⟩;rcases turn i n M Q w3 with⟨stop,qn⟩ | ⟨go,N,hN,step⟩
 ·refine Y9 G (thn (T.done X Y Y Y hc i a s3 M Q X.xe I3 (IB M6) KJ stop) λr s4 E=>?_);obtain⟨U,I4⟩:=E;subst U;exact Wr ⟨M,Q,I4,qn⟩
 ·refine Y9 G (thn (T.item X Y Y Y hc i a s3 M Q X.xe I3 (IB M6) KJ go) λr s4 E=>?_);obtain⟨u,U,h4⟩:=E;subst U;refine Y9 G (thn h4 λ_ s5 E=>?_);obtain⟨x,H5,I5,r5,y5,Ld,Pe⟩:=E;refine Y9 G (thn (hg _ s5 M H5 x u _ (I5.pinned (IB Pe) (T.obj _ _ Ld)) r5 (step x H5 y5)) λ_ s6 E=>?_);obtain⟨J6,H6,I6,q6⟩:=E;refine Y9 G (thn (l _ s6 J6 H6 _ I6 q6) λf R z=>?_);have again:∀{p:St}{t:Hp},Inv X (a++nz fp s5.heap) p t R->N p t->∃m,m<n/\∃i P y,Inv X a P y R/\tn i R.heap/\(∀b∈fp,y b=L)/\W i m P y:=λ{p t} q F=>by
   obtain⟨m',hm,w7⟩:=hN p t F;refine⟨m',hm,i+1,p,t,q.GW,T.keep _ _ _ Ld λb l o e=>(q.pin (b,o) (ZM _ (ZM _ (ik l e)))).1,λb l=>?_,w7⟩;obtain⟨o,e,d⟩:=T.obj _ _ Ld b l;exact(q.pin (b,o) (ZM _ (ZM _ (ik l e)))).2.1
  cases f with
  |next=>obtain⟨p,t,q,F⟩:=z;exact again q F
  |cont=>obtain⟨p,t,q,F⟩:=z;exact again q F
  |brk=>obtain⟨p,t,q,z⟩:=z;exact⟨p,t,q.GW,z⟩
  |ret v=>obtain⟨x7,p,t,q,r7,z⟩:=z;exact⟨x7,p,t,q.GW,r7,z⟩
end
abbrev R2:=V->V->Hp->VK->Prop
def OpR(X:Cx)(f:KF->KF->Sem KF)(r:R2):Prop :=
 ∀(a:Xl)(s:FS)(J:St)(H:Hp)(x y:V)(v u:KF)(Q:VK),Inv X a J H s->RelV x v->RelV y u->r x y H Q →
  KM (GM X.prog X.w) X.A (f v u) (EP X a J Q) X.xe s
def cB(X:Cx)(f:KF)(r:List V->Hp->VK->Prop):Prop :=
 ∀(a:Xl)(s:FS)(J:St)(H:Hp)(b:List V)(d:W5)(Q:VK),Inv X a J H s->aK b d->r b H Q →
  KM (GM X.prog X.w) X.A (call f d) (EP X a J Q) X.xe s
def FK(X:Cx)(r:V->Hp->(Bool->Hp->Prop)->Prop):Prop :=
 ∀(a:Xl)(s:FS)(J:St)(H:Hp)(x:V)(v:KF)(Q:Bool->Hp->Prop),Inv X a J H s->RelV x v->r x H Q →
  KM (GM X.prog X.w) X.A (truthy v) (TP X a J Q) X.xe s
noncomputable def Mv(r:R2)(ta a:TE):TE:=λJ H Q=>ta J H λx d=>a J d λy b=>r x y b Q
noncomputable def rI(C:Int->Int->Prop)(g:Int->Int->V):R2:=λx y H Q=>∃i j,x=.int i/\y=.int j/\C i j/\Q (g i j) H
noncomputable def IM(g:Int->Int->V):R2:=λx y H Q=>∃i j,x=.int i/\y=.int j/\Q (g i j) H
section
def BU{X:Cx}{a b:Expr}{ta tb:TE}(t:PE X a ta)(r:PE X b tb){d:Xl}{s:FS}{J:St}{H:Hp}{R:V->V->Hp->Prop}(I:Inv X d J H s)(h:ta J H λx j=>tb J j λy e=>R x y e){Q:Xz}{f:KF->KF->Sem KF}(q:∀v u g x y e,Inv X d J e g->RelV x v->RelV y u->R x y e->KM (GM X.prog X.w) X.A (f v u) Q X.xe g) :
  KM (GM X.prog X.w) X.A (eval a X.env) (λv m=>KM (GM X.prog X.w) X.A (eval b X.env) (λu l=>KM (GM X.prog X.w) X.A (f v u) Q X.xe l) X.xe m) X.xe s:=by
 refine thn (t d s J H _ I h) λv n i=>?_;obtain⟨x,j,C,r1,p⟩:=i;refine thn (r d n J j _ C p) λu g i=>?_;obtain⟨y,e,z,r2,o⟩:=i;exact q v u g x y e z r1 r2 o
def Es(j:OpR X (binaryOp e) r)(m:PE X a ta)(l:PE X b tb):PE X (.BinOp a e b pos) (Mv r ta tb):=by
 intro d s J H Q I h;exact wpAny_BinOp (BU m l I h λv u f x y o n i g q=>j d f J o x y v u Q n i g q)
def NL{X:Cx}{f:KF->KF->Sem KF}{C:Int->Int->Prop}{g:Int->Int->Int}(d:∀(i j:Int)(t u:Tok)(s:FS)(Q:Xz)(E:Xz),C i j->Q (.int (g i j) s.toks) { s with toks:=s.toks+1 }->KM (GM X.prog X.w) X.A (f (.int i t) (.int j u)) Q E s) :
  OpR X f (rI C λi j=>.int (g i j)):=by
 intro e s J H x y v u Q I n m h;obtain⟨i,j,rfl,rfl,o,q⟩:=h;obtain⟨t,rfl⟩:=n;obtain⟨l,rfl⟩:=m;exact d i j t l s _ _ o ⟨.int (g i j),H,I.tok _,⟨_,rfl⟩,q⟩
def DM{X:Cx}{f:KF->KF->Sem KF}{g:Int->Int->Int}(d:∀(i j:Int)(t u:Tok)(s:FS)(Q:Xz)(E:Xz),Q (.int (g i j) s.toks) { s with toks:=s.toks+1 }->KM (GM X.prog X.w) X.A (f (.int i t) (.int j u)) Q E s) :
  OpR X f (IM λi j=>.int (g i j)):=by
 intro e s J H x y v u Q I n m h;obtain⟨i,j,rfl,rfl,q⟩:=h;obtain⟨t,rfl⟩:=n;obtain⟨l,rfl⟩:=m;exact d i j t l s _ _ ⟨.int (g i j),H,I.tok _,⟨_,rfl⟩,q⟩
def AS{X:Cx}{f:KF->KF->Sem KF}{g:Int->Int->Bool}(d:∀(i j:Int)(t u:Tok)(s:FS)(Q:Xz)(E:Xz),Q (.bool (g i j)) s->KM (GM X.prog X.w) X.A (f (.int i t) (.int j u)) Q E s) :
  OpR X f (IM λi j=>.bl (g i j)):=by
 intro e s J H x y v u Q I n m h;obtain⟨i,j,rfl,rfl,q⟩:=h;obtain⟨t,rfl⟩:=n;obtain⟨l,rfl⟩:=m;exact d i j t l s _ _ ⟨.bl (g i j),H,I,rfl,q⟩
noncomputable def ER(i j:Int):Prop:=0<j/\j<1073741824
noncomputable def DW(i j:Int):Prop:=0<=j/\j<=1000000/\i.natAbs<2 ^ 64
noncomputable def zh(i j:Int):Prop:=(-(2 ^ 64)<i/\i<2 ^ 64)\/(-(2 ^ 64)<j/\j<2 ^ 64)
def zh.ok{i j:Int}(h:zh i j):IntMulOk i j:=by
 rcases h with⟨e,d⟩ | ⟨e,d⟩
 ·exact .of_left (intBits_le_64 e d)
 ·exact .of_right (intBits_le_64 e d)
def CQ:OpR X (binaryOp .Add) (IM λi j=>.int (i+j)):=DM λ_ _ _ _ _ _ _ q=>add_int q
def sO:OpR X (binaryOp .Sub) (IM λi j=>.int (i-j)):=DM λ_ _ _ _ _ _ _ q=>sub_int q
def k9:OpR X (binaryOp .Mult) (rI zh λi j=>.int (i*j)):=NL λ_ _ _ _ _ _ _ d q=>mul_int q d.ok
def AH:OpR X (binaryOp .FloorDiv) (rI ER λi j=>.int (i/j)):=NL λi j _ _ _ _ _ d q=>by
 have f:=d.1;have e:=d.2;exact floordiv_int (by lia) (by rw[Int.fdiv_eq_ediv_of_nonneg i (by lia)];exact q) (.inl (PyProof.noPylong_small (by omega)))
def Dv:OpR X (binaryOp .Mod) (rI (λ_ j=>0<j) λi j=>.int (i%j)):=NL λi j _ _ _ _ _ d q=>by
 exact mod_int' (by lia) (by rw[Int.fmod_eq_emod_of_nonneg i (by lia)];exact q)
def vS:OpR X (binaryOp .Pow) (rI DW λi j=>.int (i ^ j.toNat)):=NL λ_ _ _ _ _ _ _ d q=>pow_int_small d.1 d.2.1 d.2.2 q
end
section
def BY(I:Inv X d J H s)(q:Q (.bl k) H)(e:k=f):EP X d J Q (.bool f) s:=by
 subst e;exact⟨.bl k,H,I,rfl,q⟩
def EZ:OpR X (SB .Lt) (IM λi j=>.bl (decide (i<j))):=AS λ_ _ _ _ _ _ _ q=>lt_int q
def D2:OpR X (SB .LtE) (IM λi j=>.bl (decide (i<=j))):=AS λ_ _ _ _ _ _ _ q=>le_int q
def Br:OpR X (SB .Gt) (IM λi j=>.bl (decide (j<i))):=AS λ_ _ _ _ _ _ _ q=>gt_int q
def Bu:OpR X (SB .GtE) (IM λi j=>.bl (decide (j<=i))):=AS λ_ _ _ _ _ _ _ q=>ge_int q
def vb:OpR X (SB .Lt) (λx y H Q=>∃i j,x=.str i/\y=.str j/\Q (.bl (decide (i.cps.toList<j.cps.toList))) H):=by
 intro d s J H x y v u Q I f e h;obtain⟨i,j,rfl,rfl,q⟩:=h;obtain⟨t,rfl⟩:=f;obtain⟨g,rfl⟩:=e;exact lt_str (BY I q Y)
def OpR.or(h:OpR X f r)(j:OpR X f i):OpR X f (λx y H Q=>r x y H Q\/i x y H Q):=by
 intro d s J H x y v u Q I g e q;rcases q with q | q
 ·exact h d s J H x y v u Q I g e q
 ·exact j d s J H x y v u Q I g e q
def gQ(b:Expr)(h:{`q1,d ≠ .In})(e:{`q1,d ≠ .NotIn}):behindInMarks d b=O:=by
 have e1:(d==CmpOp.In)=O:=by cases d<;>first | rfl | exact absurd Y h
 have e2:(d==CmpOp.NotIn)=O:=by cases d<;>first | rfl | exact absurd Y e
 cases b<;>simp[behindInMarks,e1,e2]
def AA(j:OpR X (SB e) r)(n:PE X a ta)(m:PE X b tb)(l:behindInMarks e b=O):PE X (.Compare a [e] [b] pos) (Mv r ta tb):=by
 intro d s J H Q I h;exact wpAny_Compare1 (BU n m I h λv u f x y p o i g q=>j d f J p x y v u Q o i g q) l
noncomputable def vF(t:TE):TT:=λJ H Q=>t J H λx d=>∃k,x=.bl k/\Q k d
def zf(o:OpR X (SB f) r)(t:PE X a ta)(q:PE X b tb)(p:behindInMarks f b=O):PT X (.Compare a [f] [b] pos) (vF (Mv r ta tb)):=by
 intro d s J H Q I h;refine wpAny_isTrue_Compare1 (thn (t d s J H _ I h) λv i ⟨x,G,D,r1,n⟩=>thn (q d i J G _ D n) λu g ⟨y,F,C,r2,m⟩ =>
  thn (o d g J F x y v u _ C r1 r2 m) λc M w=>?_) p
 obtain⟨z,E,A,j,k,e,l⟩:=w;subst e;cases j;exact Yb ⟨E,A,l⟩
noncomputable def so(r h:R2)(ta g f:TE):TE:=λJ H Q=>ta J H λx l=>g J l λy j=>r x y j λz d=>∃k,z=.bl k ∧
 (if k=B then f J d λe i=>h y e i Q else Q (.bl O) d)
def vH(M:OpR X (SB g) r)(Y:OpR X (SB i) j)(S:PE X a ta)(R:PE X b tb)(P:PE X c tc)(N:{`q4,lastMarks [g,i] [b,c]=O}):PE X (.Compare a [g,i] [b,c] pos) (so r j ta tb tc):=by
 intro f s J H Q I h;refine Compare_chain (thn (S f s J H _ I h) λv A ⟨x,H1,I1,r1,G⟩=>chain_link (thn (R f A J H1 _ I1 G) λu w ⟨y,H2,I2,r2,F⟩ =>
  thn (M f w J H2 x y v u _ I2 r1 r2 F) λd t U=>?_)) N
 obtain⟨z,n,m,D,k,e,l⟩:=U;subst e;cases D;refine Yb ?_;cases k with
 |false=>exact ite_ff ⟨.bl O,n,m,rfl,l⟩
 |true=>exact ite_tt (chain_last (thn (P f t J n _ m l) λp q ⟨o,H4,I4,C,E⟩=>Y f q J H4 y o u p Q I4 r2 C E))
def qG(R:OpR X (SB g) r)(Ii:OpR X (SB i) j)(ha:PE X a ta)(Y:PE X b tb)(U:PE X c tc)(S:{`q4,lastMarks [g,i] [b,c]=O}):PT X (.Compare a [g,i] [b,c] pos) (vF (so r j ta tb tc)):=by
 intro f s J H Q I h;refine isTrue_chain (thn (ha f s J H _ I h) λv A ⟨x,H1,I1,r1,N⟩=>test_link (thn (Y f A J H1 _ I1 N) λu w ⟨y,H2,I2,r2,M⟩ =>
  thn (R f w J H2 x y v u _ I2 r1 r2 M) λd t h_=>?_)) S
 obtain⟨z,n,m,E,k,e,l⟩:=h_;subst e;cases E;refine Yb ?_;cases k with
 |false =>
  obtain⟨k',e',P⟩:=l;cases e';exact ite_ff ⟨n,m,P⟩
 |true =>
  refine ite_tt (test_last (thn (U f t J n _ m l) λp q ⟨o,H4,I4,D,G⟩=>thn (Ii f q J H4 y o u p _ I4 r2 D G) λd' s5 ⟨z2,H5,I5,C,k2,e2,F⟩=>?_));subst e2;cases C;exact Yb ⟨H5,I5,F⟩
def B9(K:W0)(x:V)(H:Hp)(k:Bool):Prop :=
 match x with
 |.non=>k=O
 |.bl b=>k=b
 |.int i=>k=(i != 0)
 |.str y=>y.length<=IR/\k=((y.length:Int) != 0)
 |.byt y=>y.size<=IR/\k=((y.size:Int) != 0)
 |.ref p=>(∃d,FT K H p d/\k=!d.isEmpty)\/(∃d,GU K H p d/\k=!d.isEmpty)\/∃e,H p=Z (.dK e)/\k=!e.isEmpty
 |_=>False
def sU{κ:Type}{e:List (κ×V)}{d:List (κ×KF)}(r:KV e d):(!d.isEmpty)=!e.isEmpty:=by
 cases r<;>rfl
def nj(r:aK d e):(!e.toArray.isEmpty)=!d.isEmpty:=by
 cases r<;>simp
def pI:(IR:Nat)<2 ^ 63:=by rw[YO];decide
def Ck:FK X (λx H Q=>∃k,B9 X.K x H k/\Q k H):=by
 intro l s J H x v Q I f h;obtain⟨k,e,q⟩:=h;have D:=YO;cases x with
 |non =>
  cases f;subst e;exact truthy_none ⟨H,I,q⟩
 |bl b =>
  cases f;subst e;exact Yb ⟨H,I,q⟩
 |int i =>
  obtain⟨t,rfl⟩:=f;subst e;exact PySem.P.truthy_int ⟨H,I,q⟩
 |str y =>
  obtain⟨t,rfl⟩:=f;obtain⟨z,d⟩:y.length<=IR/\k=((y.length:Int) != 0):=e;subst d;exact PySem.P.truthy_str (by lia) ⟨H,I.tok _,q⟩
 |byt y =>
  obtain⟨t,rfl⟩:=f;obtain⟨z,d⟩:y.size<=IR/\k=((y.size:Int) != 0):=e;subst d;exact PySem.W.truthy_bytes (by lia) ⟨H,I.tok _,q⟩
 |ref p =>
  cases f;have d:=e;rcases d with⟨u,g,d⟩ | ⟨u,g,d⟩ | ⟨o,g,d⟩
  ·subst d;obtain⟨C,r,pl,n⟩:=I.list g;have hlen:=r.length;exact wpAny_truthy_list pl.isList (by simp only[ZQ];lia) ⟨H,I.tok _,by rw[nj r];exact q⟩
  ·subst d;obtain⟨C,r,pl,n⟩:=I.tuple g;have hlen:=r.length;exact truthy_tuple pl (by simp only[ZQ];lia) ⟨H,I.tok _,by rw[nj r];exact q⟩
  ·subst d;obtain⟨n,A,j,r,m⟩:o.length<=IR/\(p==sysModules)=O/\∃j,KV o j/\s.heap.DictOf (bF X.prog X.w) p j:=I.oe p _ g;have hlen:=Xk r;exact wpAny_truthy_dict A m (by lia) ⟨H,I.tok _,by rw[sU r];exact q⟩
 |_=>exact(e).elim
def yu(i:PE X a ta)(he:∀whole,isTrue a X.env whole=(do let v ← whole;standAt a.pos;holding [v] (truthy v))) :
  PT X a (λJ H Q=>ta J H λx e=>∃k,B9 X.K x e k/\Q k e):=by
 intro d s J H Q I h;exact isTrue_plain (thn (i d s J H _ I h) λv f ⟨x,l,j,r1,g⟩=>Ck d f J l x v Q j r1 g) (he _)
def sW:OpR X (binaryOp .Add) (λx y H Q=>∃i j,x=.str i/\y=.str j/\i.length+j.length<=IR/\Q (.str (i++j)) H):=by
 intro d s J H x y v u Q I g f h;obtain⟨i,j,rfl,rfl,l,q⟩:=h;obtain⟨t,rfl⟩:=g;obtain⟨e,rfl⟩:=f;exact add_str (λe m=>⟨.str (i++j),H,I.tok _,⟨_,rfl⟩,q⟩) l
def vals1(r:aK [x] d):∃u,d=[u]/\RelV x u:=by
 cases r with
 |cons r1 r2=>cases r2;exact⟨_,rfl,r1⟩
def vals2(r:aK [x,y] e):∃u d,e=[u,d]/\RelV x u/\RelV y d:=by
 cases r with
 |cons r1 r2 =>
  cases r2 with
  |cons g f=>cases f;exact⟨_,_,rfl,r1,g⟩
def vg{X:Cx}(g:X.calm=B):cB X (.builtin "max") (λe H Q=>∃i j,e=[.int i,.int j]/\Q (.int (if j > i then j else i)) H):=by
 intro f s J H e m Q I r h;obtain⟨i,j,rfl,q⟩:=h;obtain⟨u,l,rfl,⟨t,rfl⟩,⟨o,rfl⟩⟩:=vals2 r;refine max_two_ints (I.ok.hd g) λp n k=>⟨_,H,I.kept k,?_,q⟩
 by_cases d:j > i
 ·rw[Zp d,Zp d];exact⟨_,rfl⟩
 ·rw[Zn d,Zn d];exact⟨_,rfl⟩
def vw{X:Cx}(g:X.calm=B):cB X (.builtin "min") (λe H Q=>∃i j,e=[.int i,.int j]/\Q (.int (if j<i then j else i)) H):=by
 intro f s J H e m Q I r h;obtain⟨i,j,rfl,q⟩:=h;obtain⟨u,l,rfl,⟨t,rfl⟩,⟨o,rfl⟩⟩:=vals2 r;refine min_two_ints (I.ok.hd g) λp n k=>⟨_,H,I.kept k,?_,q⟩
 by_cases d:j<i
 ·rw[Zp d,Zp d];exact⟨_,rfl⟩
 ·rw[Zn d,Zn d];exact⟨_,rfl⟩
def pA:cB X (.type "str") (λd H Q=>∃i,d=[.int i]/\i.natAbs.log2<1920/\Q (.str (toString i)) H):=by
 intro e s J H d g Q I r h;obtain⟨i,rfl,f,q⟩:=h;obtain⟨u,rfl,t,rfl⟩:=vals1 r;exact PySem.P.str_of_int f ⟨.str _,H,I.tok _,⟨_,rfl⟩,q⟩
def En(K:W0)(x:V)(H:Hp)(n:Nat):Prop :=
 match x with
 |.str y=>y.length<=IR/\n=y.length
 |.byt y=>y.size<=IR/\n=y.size
 |.ref p=>(∃d,FT K H p d/\n=d.length)\/∃d,GU K H p d/\n=d.length
 |_=>False
def xp:cB X (.builtin "len") (λf H Q=>∃x n,f=[x]/\En X.K x H n/\Q (.int n) H):=by
 intro l s J H f w Q I r h;obtain⟨x,n,rfl,e,q⟩:=h;obtain⟨u,rfl,g⟩:=vals1 r;have z:=YO;cases x with
 |str y =>
  obtain⟨t,rfl⟩:=g;obtain⟨o,d⟩:y.length<=IR/\n=y.length:=e;subst d;exact len_str (by lia) ⟨.int _,H,I.tok _,⟨_,rfl⟩,q⟩
 |byt y =>
  obtain⟨t,rfl⟩:=g;obtain⟨o,d⟩:y.size<=IR/\n=y.size:=e;subst d;exact PySem.W.len_bytes (by lia) ⟨.int _,H,I.tok _,⟨_,rfl⟩,q⟩
 |ref p =>
  cases g;have d:=e;rcases d with⟨f,j,d⟩ | ⟨f,j,d⟩
  ·subst d;obtain⟨v,i,pl,m⟩:=I.list j;have hlen:=i.length;exact Calls.call_len_list pl.isList (by simp only[ZQ];lia) ⟨.int f.length,H,I.tok _,⟨_,by simp only[ZQ];rw[hlen]⟩,q⟩
  ·subst d;obtain⟨v,i,pl,m⟩:=I.tuple j;have hlen:=i.length;exact len_tuple pl (by simp only[ZQ];lia) ⟨.int f.length,H,I.tok _,⟨_,by simp only[ZQ];rw[hlen]⟩,q⟩
 |_=>exact(e).elim
end
structure IJ(h:SC)(x dx C:KB)(mA:W3):Prop where
 obj:h.get? x=some (PySem.W.instObj C dx)
 ns:h.Ns1 dx mA
 ne:dx≠x
def vq{h:SC}(n:h.Ns1 f d):∃b,h.get? f=Z b/\∀name,PySem.W.lookIn name b=Z (d name):=by
 obtain⟨o,m,r,i,hd,l,_,j⟩:=n;refine⟨o,i,λname=>?_⟩;have e:=j name;unfold nsFind findBy at e;rw[← Array.find?_toList]at e;unfold PySem.W.lookIn;rw[hd];dsimp only;split
 ·rename_i y q;rw[q]at e;exact congrArg Z e
 ·rename_i q;rw[q]at e;have a:m.toList.any (·.refKey)=O:=by
   rw[List.any_eq_false];intro y g;obtain⟨z,t,p⟩:=l y (Array.mem_toList_iff.mp g);simp[DictEntry.refKey,p]
  rw[Zn (by rw[a];exact Zc)];exact congrArg Z e
def IJ.look(I:IJ h x d C b):∃a,PySem.W.InstAt h x (PySem.W.instObj C d) C (Z a)/\∀name,PySem.W.lookIn name a=Z (b name) :=
 let ⟨a,e,f⟩:=vq I.ns
 ⟨a,⟨I.obj,rfl,rfl,e⟩,f⟩
section
variable{K:W0}
def get_map{s:FS}(X:K.In s.heap)(I:IJ s.heap x dx C mA)(g:PySem.W.plainGet K C name=B)(e:PySem.W.hasDictIn K C=B)(i:PySem.W.findIn K (.ref C) name=Z L)(b:mA name=Z v)(j:PySem.W.handedIn v=B)(h:Q v { s with toks:=s.toks+1 }) :
  KM (GM prog w) A (getAttr (.ref x) name a) Q E s:=by
 obtain⟨m,l,d⟩:=I.look;exact PySem.W.get_value X l (Wv g).1 (PySem.W.findObj_own e i Y (by rw[d,b])) j h
def wo{s:FS}(X:K.In s.heap)(I:IJ s.heap x dx C mA)(a:PySem.W.plainGet K C name=B)(j:PySem.W.findIn K (.ref C) name=Z (Z (.ref f)))(g:PySem.W.isFn K (.ref f)=B)(e:mA name=L)(h:Q (.ref f,[.ref x]) s) :
  KM (GM prog w) A (getMethod (.ref x) name b) Q E s:=by
 obtain⟨d,l,i⟩:=I.look;exact PySem.W.method_fn X l (Wv a).1 (Wv a).2 j (beq_iff_eq.mp g) (by show (PySem.W.lookIn name d).map (·.isSome)=Z O;rw[i,e];rfl) h
def AC{s:FS}{e:List Str}(X:K.In s.heap)(I:IJ s.heap x dx C mA)(n:PySem.W.findIn K (.ref C) "__setattr__" = Z (Z (.builtin "object.__setattr__")))(o:PySem.W.plainOver K C=B)(m:PySem.W.takerIn K C name=Z L)(p:PySem.W.hasDictIn K C=B)(hw:PySem.Within mA e)(d:e.length<=IR)(h:∀a,IJ a x dx C (λy=>if y=name then Z v else mA y)->Heap.SameBut dx s.heap a->Q () { s with heap:=a,toks:=s.toks+2 }) :
  KM (GM prog w) A (setAttr (.ref x) name v) Q E s:=by
 obtain⟨D,i,G⟩:=I.look;refine PySem.W.set_plain X i n (PySem.W.osa_open X i o m λb=>?_);obtain⟨cd,q,z⟩:=PySem.W.any_some p;refine Zv (Zl (Zv (Zv (wpAny_loadPart I.obj (Zv (PySem.W.Looks.here (PySem.W.looks_clsIn X q) ?_))))));rw[z];refine Zl (Zv (Zl (Zv ?_)));refine wpAny_nsSet1 I.ns λa g j=>?_;refine L2.ar λM l=>?_;obtain⟨F,J,H,r,u,t⟩:=g.count (PySem.Within.cons name v hw);refine l ?_;refine Zv (wpAny_lookBehind r (by rw[u];exact pastItsLine_dict (ZY t (by rw[Zf];exact Yl d))) ?_);exact Zl (h _ ⟨(j.2 _ (Ya I.ne)).trans I.obj,g,I.ne⟩ j)
def vL{A:P3}{s:FS}(X:K.In s.heap)(e:PySem.W.makesIn K C=B)(i:PySem.W.findIn K (.ref C) "__init__" = Z (Z (.ref f)))(j:PySem.W.typeIn K (.ref f)=Z (.type "function"))(h:codeAny (GM prog w) (A.under (.builtin "type.__call__" ⟨.ref C :: a,b⟩)) (.call (.ref f) ⟨.ref (s.heap.objs.size+1) :: a,b⟩) (PySem.W.InitBack (s.heap.objs.size+1) R)
   { s with heap:=(s.heap.push PySem.W.emptyDict).push (PySem.W.instObj C s.heap.objs.size) }) :
  codeAny (GM prog w) A (.call (.ref C) ⟨a,b⟩) R s:=by
 obtain⟨l,g,d,t,os⟩:=s;exact PySem.W.make_core (PySem.W.makes_of X e) (PySem.W.looks_findIn X i) (λself=>PySem.W.bind_fn X self j) (.inl Y) h
end
noncomputable def iV(f:Str)(v:V):List (Str×V)->List (Str×V)
 |[]=>[(f,v)]
 | (g,x) :: r=>if g=f then (g,v) :: r else (g,x) :: iV f v r
theorem lC(f g:Str)(v:V):∀fs:List (Str×V),(iV f v fs).lookup g=if g=f then Z v else fs.lookup g
 |[]=>by
  show List.lookup g [(f,v)]=_;by_cases h:g=f
  ·simp only[List.lookup,(beq_iff_eq.mpr h),Zp h]
  ·simp only[List.lookup,(ZO.mpr h),Zn h]
 | (k,x) :: r=>by
  rw[show iV f v ((k,x) :: r)=(if k=f then (k,v) :: r else (k,x) :: iV f v r) from rfl];by_cases a:k=f
  ·rw[Zp a];by_cases h:g=k
   ·simp only[List.lookup,(beq_iff_eq.mpr h),Zp (h.trans a)]
   ·simp only[List.lookup,(ZO.mpr h),Zn (λe:g=f=>h (e.trans a.symm))]
  ·rw[Zn a];by_cases h:g=k
   ·simp only[List.lookup,(beq_iff_eq.mpr h),Zn (λe:g=f=>a (h.symm.trans e))]
   ·simp only[List.lookup,(ZO.mpr h)];exact(lC f g v r)
theorem kX(f:Str)(v:V):∀fs:List (Str×V),f∈(iV f v fs).map (·.1)/\∀g,g∈fs.map (·.1)->g∈(iV f v fs).map (·.1)
 |[]=>⟨by simp[iV],λg h=>by simp at h⟩
 | (k,x) :: r=>by
  obtain⟨d,b⟩:=kX f v r;rw[show iV f v ((k,x) :: r)=(if k=f then (k,v) :: r else (k,x) :: iV f v r) from rfl];by_cases a:k=f
  ·rw[Zp a];subst a;exact⟨by simp,λg h=>by simpa using h⟩
  ·rw[Zn a];refine⟨?_,λg h=>?_⟩
   ·rw[Zi];exact Zx _ d
   ·rw[Zi]at h ⊢;rcases Zk.mp h with e | e
    ·exact Zk.mpr (.inl e)
    ·exact Zx _ (b g e)
theorem lI(f:Str)(v:V):∀fs:List (Str×V),(iV f v fs).length<=fs.length+1
 |[]=>by simp[iV]
 | (k,x) :: r=>by
  rw[show iV f v ((k,x) :: r)=(if k=f then (k,v) :: r else (k,x) :: iV f v r) from rfl];by_cases a:k=f
  ·rw[Zp a,Zf,Zf];exact YS _ _
  ·rw[Zn a,Zf,Zf];exact Yl (lI f v r)
def i3.some_of{v:V}(r:i3 (Z v) o):∃u,o=Z u/\RelV v u:=by
 cases o with
 |none=>exact(r).elim
 |some u=>exact⟨u,rfl,r⟩
def i3.none_of(r:i3 L o):o=L:=by
 cases o with
 |none=>rfl
 |some u=>exact(r).elim
def uY(r:RelV v u):PySem.W.handedIn u=B:=by
 cases v with
 |non=>cases (r);rfl
 |bl b=>cases (r);rfl
 |int i=>obtain⟨t,e⟩:=(r);cases e;rfl
 |str x=>obtain⟨t,e⟩:=(r);cases e;rfl
 |byt b=>obtain⟨t,e⟩:=(r);cases e;rfl
 |flt b=>obtain⟨t,e⟩:=(r);cases e;rfl
 |ref a=>cases (r);rfl
 |ty n=>cases (r);rfl
section
def lW(g:GV P w H h)(e:H a=Z (.ins C dx fs)):∃b,IJ h a dx C b/\(∀f,i3 (fs.lookup f) (b f))/\PySem.Within b (fs.map (·.1))/\fs.length<=1000/\H dx=Z (.own a):=by
 obtain⟨d,z,ne,i,b,n,r,q⟩:=(g a _ e)
 exact⟨b,⟨i,n,ne⟩,r,q,z,d⟩
end
structure G6(K:W0)(C:KB):Prop where
 pg:PySem.W.plainGet K C Str.empty=true
 hd:PySem.W.hasDictIn K C=true
 po:PySem.W.plainOver K C=true
 sa:PySem.W.findIn K (.ref C) "__setattr__" = some (some (.builtin "object.__setattr__"))
def G6.get{K:W0}(c:G6 K C)(f:Str):PySem.W.plainGet K C f=B:=c.pg
def aS(K:W0)(C:KB)(f:Str):Prop:=PySem.W.findIn K (.ref C) f=Z L
def aS.Mu{K:W0}(n:aS K C f):PySem.W.takerIn K C f=Z L:=by
 unfold PySem.W.takerIn;rw[n];rfl
structure Meth(K:W0)(C:KB)(m:Str)(f:KB):Prop where
 at_:PySem.W.findIn K (.ref C) m=some (some (.ref f))
 fn:PySem.W.isFn K (.ref f)=true
 kp:PySem.W.keepIn K (.ref f)=true
section
def tq(I:Inv X pins J H s)(e:H a=Z (.ins C dx fs))(c:G6 X.K C)(n:aS X.K C f)(l:fs.lookup f=Z v)(h:∀u d,Inv X pins J H d->RelV v u->Q u d):KM (GM X.prog X.w) A (getAttr (.ref a) f b) Q E s:=by
 obtain⟨j,O,r,_,_,_⟩:=lW I.oe e;obtain⟨u,i,g⟩:=i3.some_of (v:=v) (by rw[← l];exact r f);exact get_map I.GP O (c.get f) c.hd n i (uY g) (h u _ (I.tok _) g)
def mn(I:Inv X pins J H s)(e:H a=Z (.ins C dx fs))(c:G6 X.K C)(k:Meth X.K C m g)(l:fs.lookup m=L)(h:Q (.ref g,[.ref a]) s):KM (GM X.prog X.w) A (getMethod (.ref a) m b) Q E s:=by
 obtain⟨d,O,r,_,_,_⟩:=lW I.oe e;exact wo I.GP O (c.get m) k.at_ k.fn (i3.none_of (by rw[← l];exact r m)) h
def tj(I:Inv X pins J H s)(e:H a=Z (.ins C dx fs))(c:G6 X.K C)(n:aS X.K C f)(F:fs.length<1000)(p:RelV y u)(h:∀j,Inv X pins J (upd H a (.ins C dx (iV f y fs))) j->Q () j):KM (GM X.prog X.w) A (setAttr (.ref a) f u) Q E s:=by
 obtain⟨t,O,r,i,_,l⟩:=lW I.oe e;refine AC I.GP O c.sa c.po n.Mu c.hd i (by rw[Zy,YO];lia) λG d m=>h _ ?_;refine I.write (x:=a) (e:=dx) (by rw[e];exact True.intro) (.inr l) (λb q hb z=>(m.2 b hb).trans z) (let ⟨o,_,_,D,_⟩:=d.ns;⟨o,D⟩) ?_;refine⟨by rw[aA O.ne];exact l,?_,O.ne,d.obj,_,d.ns,λg=>?_,λg hg=>?_⟩
 ·have:=lI f y fs;lia
 ·rw[lC];by_cases q:g=f
  ·rw[Zp q,Zp q];exact p
  ·rw[Zn q,Zn q];exact r g
 ·by_cases q:g=f
  ·rw[q];exact(kX f y fs).1
  ·refine(kX f y fs).2 g (i g λz=>hg ?_);show (if g=f then Z u else t g)=L;rw[Zn q];exact z
def Inv.made(I:Inv X pins J H s):Inv X pins J (upd (upd H s.heap.objs.size (.own (s.heap.objs.size+1))) (s.heap.objs.size+1) (.ins C s.heap.objs.size []))
  { s with heap:=(s.heap.push PySem.W.emptyDict).push (PySem.W.instObj C s.heap.objs.size) }:=by
 have e1:(s.heap.push PySem.W.emptyDict).get? s.heap.objs.size=Z PySem.W.emptyDict:=Ze s.heap Y;have g:=I.laid (o:=.own (s.heap.objs.size+1)) (t':=s.toks) (λb u q=>Zo _ q) (Zm _) ⟨_,e1⟩;refine g.laid (λb u q=>Zo _ q) (Xu (Yj _ _)) ?_;have ne:s.heap.objs.size≠s.heap.objs.size+1:=Zg (Z6 _);refine⟨by rw[aA ne,aw],Yw _,ne,(by
  have:=Ze (s.heap.push PySem.W.emptyDict) (o:=PySem.W.instObj C s.heap.objs.size) Y
  rwa [Yj]at this),λ_=>L,(Heap.Ns1.of_empty (⟨PySem.W.emptyDict,#[],_,e1,rfl,(λe he=>absurd he (by simp)),λ_=>rfl⟩)).at λo q=>Zo _ q,λ_=>True.intro,λy d=>absurd Y d⟩
def AL{f:Str}{s:FS}(j:SZ e f d (eval e d)=eval e d)(h:KM (GM b w) A (eval e d) (λo i=>KM (GM b w) A (getAttr o f B) Q E i) E s):KM (GM b w) A (eval (.Attribute e f g) d) Q E s :=
 Attribute_any_ h (by rw[arm_eval_Attribute,j])
end
def Fd(K:W0)(ta:TE)(f:Str):TE:=λJ H Q=>ta J H λx b=>∃a C d fs v,x=.ref a/\b a=Z (.ins C d fs)/\G6 K C/\aS K C f/\fs.lookup f=Z v/\Q v b
def FC(K:W0)(ta e:TE)(f:Str):TS:=λD J H=>e J H λy g=>ta J g λx d=>∃a C b fs,x=.ref a/\d a=Z (.ins C b fs)/\G6 K C/\aS K C f/\fs.length<1000 ∧
 D.nx J (upd d a (.ins C b (iV f y fs)))
section
def we(he:PE X e ta)(i:SZ e f X.env (eval e X.env)=eval e X.env):PE X (.Attribute e f pos) (Fd X.K ta f):=by
 intro b s J H Q I h;refine AL i (thn (he b s J H _ I h) λu z j=>?_);obtain⟨x,t,r,d,a,C,A,fs,v,ex,m,c,n,l,q⟩:=j;subst ex;obtain rfl:u=Value.ref a:=d;exact tq r m c n l λw y p g=>⟨v,t,p,g,q⟩
def Cy{pos:Pos}(t:PE X o ta)(p:PE X value tv)(r:swapsWith value (Z (.Attribute o f pos')) pos.line X.env=pure O):PS X (.Assign [.Attribute o f pos'] value pos) (FC X.K ta tv f):=by
 intro b s J H D I h;refine plainObj_wpAny_Assign_Attribute (thn (p b s J H _ I h) λu d ⟨y,F,E,g,q⟩=>thn (t b d J F _ E q) λm M v=>?_) r;obtain⟨x,P,A,i,a,C,N,fs,ex,w,c,n,l,j⟩:=v;subst ex;obtain rfl:m=Value.ref a:=i;exact tj A w c n l g λG z=>⟨J,_,z,j⟩
end
section
inductive GL(K:W0)(H:Hp):V->KF->Prop where
 |non:GL K H .non (.type "NoneType")
 |bl (x:Bool):GL K H (.bl x) (.type "bool")
 |int (i:Int):GL K H (.int i) (.type "int")
 |str (x:Str):GL K H (.str x) (.type "str")
 |flt (x:UInt64):GL K H (.flt x) (.type "float")
 |lst {a:KB} {xs:List V} (e:H a=some (.lst xs)):GL K H (.ref a) (.type "list")
 |frz {a:KB} {o:Obj} {xs:List V} (e:H a=some (.frz o (.lst xs))):GL K H (.ref a) (.type "list")
 |tup {a:KB} {xs:List V} (e:H a=some (.tup xs)):GL K H (.ref a) (.type "tuple")
 |dK {a:KB} {cg:List (Key×V)} (e:H a=some (.dK cg)):GL K H (.ref a) (.type "dict")
 |dT {a:KB} {cg:List (List Key×V)} (e:H a=some (.dT cg)):GL K H (.ref a) (.type "dict")
 |ins {a C dx:KB} {fs:List (Str×V)} (e:H a=some (.ins C dx fs)) (cl:G6 K C) (ha:PySem.W.findIn K (.ref C) "__class__" = some (some (.builtin "object.__class__")))
   (hn:PySem.W.specialIn K (.builtin "object.__class__") "__get__" = some (some (.builtin "getset_descriptor.__get__"))) (QR:PySem.W.takesIn K (.builtin "object.__class__")=some true)
   (hm:PySem.W.mroIn K C (.type "object")=some true):GL K H (.ref a) (.ref C)
def uS(I:Inv X pins J H s)(d:RelV x u)(m:GL X.K H x t)(e:PySem.W.kitOne X.K t c=Z b)(h:∀r,Q (.bool b) { s with toks:=r }) :
  KM (GM X.prog X.w) A (call (.builtin "isinstance") [u,c]) Q E s:=by
 cases m with
 |non=>cases (d);exact Yg PySem.W.kitx_none I.GP True.intro e (λz=>nomatch z) h
 |bl y=>cases (d);exact Yg PySem.W.kitx_bool I.GP True.intro e (λz=>nomatch z) h
 |int i=>obtain⟨t,q⟩:=(d);cases q;exact Yg PySem.W.kitx_int I.GP True.intro e (λz=>nomatch z) h
 |str y=>obtain⟨t,q⟩:=(d);cases q;exact Yg PySem.W.kitx_str I.GP True.intro e (λz=>nomatch z) h
 |flt y=>obtain⟨t,q⟩:=(d);cases q;exact Yg PySem.W.kitx_float I.GP True.intro e (λz=>nomatch z) h
 |@lst a l f =>
  cases (d);obtain⟨_,_,n,_,g⟩:=(I.oe a _ f)
  exact Yg XF I.GP ⟨_,g,rfl⟩ e (λz=>nomatch z) h
 |@frz a Y l f =>
  cases (d);obtain⟨_,_,_,n,_,g⟩:=(I.oe a _ f)
  exact Yg XF I.GP ⟨_,g,rfl⟩ e (λz=>nomatch z) h
 |@tup a l f =>
  cases (d);obtain⟨_,_,_,_,p⟩:=(I.oe a _ f)
  obtain⟨o,g,j,_⟩:=p;exact Yg PySem.W.kitx_tuple I.GP ⟨o,g,j⟩ e (λz=>nomatch z) h
 |@dK a N f =>
  cases (d);obtain⟨_,_,S,_,p⟩:=(I.oe a _ f)
  obtain⟨o,G,M,g,j,_⟩:=p;exact Yg PySem.W.kitx_dict I.GP ⟨o,g,j.1⟩ e (λz=>nomatch z) h
 |@dT a N f =>
  cases (d);obtain⟨_,_,l,_,o,G,M,g,j,_⟩:=(I.oe a _ f)
  exact Yg PySem.W.kitx_dict I.GP ⟨o,g,j.1⟩ e (λz=>nomatch z) h
 |@ins a C dx fs f cl F v P D =>
  cases (d);obtain⟨mA,O,_⟩:=lW I.oe f;obtain⟨U,R,_⟩:=O.look;exact Yg (PySem.W.kitx_own (cl.get _) cl.hd F v P D) I.GP R e (λz=>nomatch z) h
end
structure jj(k:Nat)(A:P3):Prop where
 hd:A.handled=none
 dp:A.depth+3*k+5<recursionLimit
 un:A.units+16*k+200<cLine
def jj.mono{k:Nat}(r:jj k A)(h:j<=k):jj j A:=⟨r.hd,by have:=r.dp;lia,by have:=r.un;lia⟩
theorem jj.deeper(r:jj (k+1) A)(a:Env):jj k (A.deeper a) :=
 ⟨r.hd,by have:=r.dp;show A.depth+1+3*k+5<_;lia,by have:=r.un;show A.units+3+16*k+200<_;lia⟩
def tJ{A:P3}:(A.under (.builtin "type.__call__" ⟨.ref C :: a,b⟩)).depth=A.depth+1:=by
 first | rfl | simp[Around.under,Code.weight,Code.isCreation,Code.isGuard,Code.isCaller,Code.frames,Code.isFrame,guardIds]
def sT{A:P3}:(A.under (.builtin "type.__call__" ⟨.ref C :: a,b⟩)).units=A.units+1:=by
 first | rfl | simp[Around.under,Code.cUnits,Code.frames,Code.isFrame]
def jj.make(r:jj (k+1) A)(C:KB)(a:W5)(b:List (Str×KF)):jj k (A.under (.builtin "type.__call__" ⟨.ref C :: a,b⟩)) :=
 ⟨r.hd,by have:=r.dp;rw[tJ];lia,by have:=r.un;rw[sT];lia⟩
theorem jj.depth(r:jj k A):A.depth<recursionLimit:=by have:=r.dp;lia
theorem jj.units(r:jj k A):A.units+64<cLine:=by have:=r.un;lia
noncomputable def Cw:TA:=λ_ H Q=>Q [] H
noncomputable def Ej(ta:TE)(b:TA):TA:=λJ H Q=>ta J H λx e=>b J e λa d=>Q (x :: a) d
section
def iR:PA X [] Cw:=λ_ _ _ _ H Q I h=>Calls.spliced_nil ⟨[],H,I,.nil,h⟩
def dz(m:PE X e te)(l:PA X es t)(j:{`q2,K1 e es X}):PA X (e :: es) (Ej te t):=by
 intro pos a s J H Q I h;rw[j];refine Calls.spliced_cons (thn (m a s J H _ I h) λu f b=>?_);obtain⟨x,q,o,r1,i⟩:=b;refine thn (l pos a f J q _ o i) λr v b=>?_;obtain⟨d,p,n,r2,g⟩:=b;exact⟨x :: d,p,n,.cons r1 r2,g⟩
def Ff(t:TA):TE:=λJ H Q=>t J H λa b=>a.length<=IR/\∀p,b p=L->Q (.ref p) (upd b p (.tup a))
def FG(t:TA):TE:=λJ H Q=>t J H λa b=>a.length<=IR/\∀p,b p=L->Q (.ref p) (upd b p (.lst a))
def wj{x1}(h:PA X es t):PE X (.Tuple es x1 pos) (Ff t):=by
 intro a s J H Q I j;refine wpAny_Tuple_spliced (thn (h pos a s J H _ I j) λi d ⟨g,l,f,r,z,q⟩=>⟨by rw[← r.length];exact z,?_⟩);refine⟨.ref d.heap.objs.size,upd l d.heap.objs.size (.tup g),f.laid (λb u e=>Zo _ e) (Zm _) ?_,rfl,q _ (f.oe.fresh (Zm _))⟩;exact⟨z,i,r,KD.of (Ze _ Y) Y,⟨_,Ze _ Y,rfl,_,rfl⟩⟩
def Da(h:PA X es t):PE X (.List es pos) (FG t):=by
 intro a s J H Q I j;refine wpAny_List_spliced (thn (h pos a s J H _ I j) λi d ⟨g,l,f,r,z,q⟩=>⟨by rw[← r.length];exact z,?_⟩);refine⟨.ref d.heap.objs.size,upd l d.heap.objs.size (.lst g),f.laid (λb u e=>Zo _ e) (Zm _) ?_,rfl,q _ (f.oe.fresh (Zm _))⟩;exact⟨z,i,0,r,Ze _ Y⟩
end
abbrev Sp:=List V->Hp->VK->XK->Prop
abbrev Jr:=List Env->Hp->FS->XK->Xz
structure Env0(P:Pv)(w:SL)(K:W0)(mg:W3)(base:SC)(A:P3)(outer:List Env)(s:FS)(H:Hp):Prop where
 frames:A.frames=some outer
 mod:Mod K mg base
 tb:∀b q,Tb base b q->H b=some (.tbl q)
 bs:∀b o,base.get? b=some o->s.heap.get? b=some o/\H b=none
 KA:base.objs.size<=s.heap.objs.size
 Hc:s.heap.FunFrames base outer
 LI:∀b∈G2 outer,H b=none
 oe:GV P w H s.heap
 bare:AllBare s.gens
def CE(a:List Env)(P:Pv)(w:SL)(H:Hp)(s:FS)(Q:VK)(u:KF)(b:FS):Prop :=
 ∃v d,b.os=s.os/\AllBare b.gens/\Un (G2 a) [] H d s.heap b.heap/\GV P w d b.heap/\RelV v u/\Q v d
def CR(d:Jr)(a:List Env)(P:Pv)(w:SL)(H:Hp)(s:FS)(Q:VK)(E:XK)(r:Result)(b:FS):Prop :=
 match r with
 |.ok (.ret u)=>CE a P w H s Q u b
 |.ok _=>False
 |.error e=>d a H s E e b
structure FnOk(P:Pv)(w:SL)(K:W0)(mg:W3)(base:SC)(CX:Jr)(k:Nat)(f:KB)(fd:Pi)(ps:List Str)(sp:Sp):Prop where
 len:∀vs H Q E,sp vs H Q E->vs.length=ps.length
 run:∀(A:P3)(outer:List Env)(s:FS)(H:Hp)(args:Args)(us:W5)(vs:List V)(Q:VK)(E:XK),jj k A->Env0 P w K mg base A outer s H->BindsTo s fd args (ps.zip us)->aK vs us->sp vs H Q E →
  codeAny (GM P w) A (.call (.ref f) args) (CR CX outer P w H s Q E) s
def FnOk.imp{K:W0}(F:FnOk P w K g a l k f i e d)(h:∀b H Q E,j b H Q E->d b H Q E):FnOk P w K g a l k f i e j :=
 ⟨λb H Q E q=>F.len b H Q E (h _ _ _ _ q),λA outer s H args m b Q E p he hb n o=>F.run A outer s H args m b Q E p he hb n (h _ _ _ _ o)⟩
def Env0.make{K:W0}(e:Env0 P w K d b A a s H)(C:KB)(f:W5)(g:List (Str×KF)) :
  Env0 P w K d b (A.under (.builtin "type.__call__" ⟨.ref C :: f,g⟩)) a s H:=⟨by first | exact e.frames | (simpa[Around.under,Code.envs,Code.isFrame,pushEnvs] using e.frames),e.mod,e.tb,e.bs,e.KA,e.Hc,e.LI,e.oe,e.bare⟩
section
def Inv.M9(I:Inv X pins J H s):Env0 X.prog X.w X.K X.mg X.base X.A X.stack s H :=
 ⟨I.ok.frames,I.ok.mod,I.tb,I.bs,ZY I.ok.KA I.sz,I.stack,I.IL,I.oe,I.bare⟩
def Inv.after(I:Inv X pins J H s)(h:CE X.stack X.prog X.w H s Q u s'):EP X pins J Q u s':=by
 obtain⟨v,f,os,bare,un,oe,r,q⟩:=h;obtain⟨a,g,d,t,e⟩:=s';obtain rfl:e=s.os:=os;exact⟨v,f,I.call (h':=a) (g':=g) (d':=d) (t':=t) (ch:=[]) un oe bare (λb z=>absurd z (by simp)),r,q⟩
end
noncomputable def Be(b:Sp)(d:List V)(E:XK)(t:TA):TE:=λJ H Q=>t J H λa e=>b (a++d) e Q E
def uv(C:KB)(m:Str)(e:Sp)(g:List V)(E:XK)(ta:TE)(t:TA):TE:=λJ H Q=>ta J H λx b=>∃a f fs,x=.ref a/\b a=Z (.ins C f fs)/\fs.lookup m=L ∧
 t J b λd h=>e (x :: (d++g)) h Q E
def yi(C:KB)(e:Sp)(f:List V)(E:XK)(t:TA):TE:=λJ H Q=>t J H λd b=>∀x a,b x=L->b a=L->a≠x →
 e (.ref x :: (d++f)) (upd (upd b a (.own x)) x (.ins C a [])) (λv g=>v=.non/\Q (.ref x) g) E
noncomputable def Binds(K:W0)(d:Pi)(b:List Str)(ds:W5):Prop :=
 ∀(s:FS)(a:W5),K.In s.heap->(a++ds).length=b.length->BindsTo s d ⟨a,[]⟩ (b.zip (a++ds))
def Binds.all{K:W0}{b:List Str}(h:∀a:W5,a.length=b.length->bindArgs e ⟨a,[]⟩=pure (b.zip a)):Binds K e b []:=λs a _ d=>by
 rw[ZJ]at d ⊢;exact .of_eq (h a d)
def iY(d:Jr)(X:Cx)(E:XK):Prop:=∀(a:Xl)(J:St)(H:Hp)(s:FS)(e:KF)(b:FS),Inv X a J H s->d X.stack H s E e b->X.xe e b
section
def tu{X:Cx}{vs:List V}(F:FnOk X.prog X.w X.K X.mg X.base CX k f fd ps sp)(j:jj k X.A)(n:Binds X.K fd ps ds)(l:aK Ho ds)(i:iY CX X E)(I:Inv X a J H s)(r:aK vs b)(h:sp (vs++Ho) H Q E):KM (GM X.prog X.w) X.A (call (.ref f) b) (EP X a J Q) X.xe s:=by
 have r2:=r.append l;refine wpAny_call (XU (F.run X.A X.stack s H ⟨b,[]⟩ (b++ds) (vs++Ho) Q E j I.M9 (n s b I.GP (by rw[← r2.length];exact F.len _ _ _ _ h)) r2 h) λr g d=>?_);cases r with
 |error e=>exact i a J H s e g I d
 |ok q =>
  cases q with
  |ret u=>exact I.after d
  |next=>exact False.elim d
  |brk=>exact False.elim d
  |cont=>exact False.elim d
def zg{X:Cx}(F:FnOk X.prog X.w X.K X.mg X.base CX k f fd ps sp)(i:jj k X.A)(n:Gl X x)(j:X.mg x=Z (.ref f))(l:PySem.W.keepIn X.K (.ref f)=B)(v:Binds X.K fd ps ds)(u:aK Ho ds)(g:iY CX X E)(y:PA X (e :: es) t)(z:{`q1,K3 x})(he:{`q2,K1 e es X})(b:{`q2,K2 pos es X}) :
  PE X (.Call (.Name x p) (e :: es) [] pos) (Be sp Ho E t):=by
 intro a s J H Q I h;refine Xc (l7 I n j ?_ z);refine Wq I.ok.mod.MM l (thn (y pos a s J H _ I h) λG M ⟨D,N,d,r,q⟩=>⟨d.GP,?_⟩) he b;exact tu F i v u g d r q
def qi(he:PE X o ta)(c:G6 X.K C)(i:Meth X.K C m f)(F:FnOk X.prog X.w X.K X.mg X.base CX k f fd ps sp)(M:jj k X.A)(P:Binds X.K fd ps ds)(N:aK Ho ds)(D:iY CX X E)(R:PA X (e :: es) t)(HS:{`q2,K1 e es X})(d:{`q2,K2 pos es X})(G:{`q2,eval (.Call (.Attribute o m apos) (e :: es) [] pos) X.env=(do
   let g ← eval o X.env
   standAt apos.atName
   let (f,first) ← holding [g] (getMethod g m pl)
   callWith pos f first (backTo pos (PP (e :: es) X.env)) (backToKw pos (Re [] X.env)))}) :
  PE X (.Call (.Attribute o m apos) (e :: es) [] pos) (uv C m sp Ho E ta t):=by
 intro b s J H Q I h;refine PySem.W.methodCall_KW (pl:=pl) (thn (he b s J H _ I h) λu v S=>?_) G;obtain⟨x,H1,n,y,a,dx,fs,ex,U,l,q⟩:=S;subst ex;obtain rfl:u=Value.ref a:=y;refine mn n U c i l ?_;refine Wq I.ok.mod.MM i.kp (thn (R pos b v J H1 _ n q) λus s2 ⟨vs,H2,j,r,z⟩=>⟨j.GP,?_⟩) HS d;exact tu (vs:=.ref a :: vs) F M P N D j (.cons Y r) z
def qA(he:PE X o ta)(c:G6 X.K C)(i:Meth X.K C m f)(F:FnOk X.prog X.w X.K X.mg X.base CX k f fd ps sp)(v:jj k X.A)(z:Binds X.K fd ps ds)(y:aK Ho ds)(n:iY CX X E)(r:{`q2,eval (.Call (.Attribute o m apos) [] [] pos) X.env=(do
   let g ← eval o X.env
   standAt apos.atName
   let (f,first) ← holding [g] (getMethod g m pl)
   callWith pos f first (backTo pos (PP [] X.env)) (backToKw pos (Re [] X.env)))}) :
  PE X (.Call (.Attribute o m apos) [] [] pos) (uv C m sp Ho E ta Cw):=by
 intro b s J H Q I h;refine PySem.W.methodCall_KW (pl:=pl) (thn (he b s J H _ I h) λu M D=>?_) r;obtain⟨x,P,d,j,a,N,fs,ex,G,l,q⟩:=D;subst ex;obtain rfl:u=Value.ref a:=j;refine mn d G c i l ?_;exact PySem.W.callWith_K0 d.GP i.kp (tu (vs:=[.ref a]) F v z y n d (.cons Y .nil) q)
structure Mk(K:W0)(C f:KB):Prop where
 makes:PySem.W.makesIn K C=true
 init:PySem.W.findIn K (.ref C) "__init__" = some (some (.ref f))
 fn:PySem.W.isFn K (.ref f)=true
 kp:PySem.W.keepIn K (.ref C)=true
def qJ{X:Cx}{us:W5}(j:Mk X.K C f)(F:FnOk X.prog X.w X.K X.mg X.base CX k f fd ps sp)(D:jj (k+1) X.A)(M:Binds X.K fd ps ds)(G:aK Ho ds)(z:iY CX X E)(I:Inv X a J H s)(r:aK i us)(h:∀x d,H x=L->H d=L->d≠x->sp (.ref x :: (i++Ho)) (upd (upd H d (.own x)) x (.ins C d [])) (λv R=>v=.non/\Q (.ref x) R) E) :
  KM (GM X.prog X.w) X.A (call (.ref C) us) (EP X a J Q) X.xe s:=by
 have l:=h (s.heap.objs.size+1) s.heap.objs.size (I.oe.fresh (Xm _)) (I.oe.fresh (Zm _)) (Zg (Z6 _));have g:=Inv.made (C:=C) I;have r2:aK (V.ref (s.heap.objs.size+1) :: (i++Ho)) (Value.ref (s.heap.objs.size+1) :: (us++ds)):=.cons Y (r.append G);refine wpAny_call (vL (f:=f) I.GP j.makes j.init (beq_iff_eq.mp j.fn) (XU (F.run _ X.stack _ _ ⟨Value.ref (s.heap.objs.size+1) :: us,[]⟩ (Value.ref (s.heap.objs.size+1) :: (us++ds)) _ _ E (D.make C us [])
  (g.M9.make C us []) (M _ (Value.ref (s.heap.objs.size+1) :: us) g.GP (by
  have e:=r2.length;rw[F.len _ _ _ _ l]at e;exact e.symm)) r2 l) λr n b=>?_))
 cases r with
 |error e=>exact z a J _ _ e n g b
 |ok N =>
  cases N with
  |ret u =>
   obtain⟨v,S,P,q,ev,y⟩:=g.after b;subst ev;exact⟨q,⟨V.ref (s.heap.objs.size+1),S,P,rfl,y⟩⟩
  |next=>exact False.elim b
  |brk=>exact False.elim b
  |cont=>exact False.elim b
def AW{X:Cx}(d:Mk X.K C f)(F:FnOk X.prog X.w X.K X.mg X.base CX k f fd ps sp)(j:jj (k+1) X.A)(n:Gl X x)(l:X.mg x=Z (.ref C))(v:Binds X.K fd ps ds)(u:aK Ho ds)(i:iY CX X E)(y:PA X (e :: es) t)(z:{`q1,K3 x})(he:{`q2,K1 e es X})(b:{`q2,K2 pos es X}) :
  PE X (.Call (.Name x p) (e :: es) [] pos) (yi C sp Ho E t):=by
 intro a s J H Q I h;refine Xc (l7 I n l ?_ z);refine Wq I.ok.mod.MM d.kp (thn (y pos a s J H _ I h) λG M ⟨D,N,g,r,q⟩=>⟨g.GP,?_⟩) he b;exact qJ d F j v u i g r q
def xY{X:Cx}(b:Mk X.K C f)(F:FnOk X.prog X.w X.K X.mg X.base CX k f fd ps sp)(g:jj (k+1) X.A)(j:Gl X x)(i:X.mg x=Z (.ref C))(n:Binds X.K fd ps ds)(l:aK Ho ds)(d:iY CX X E)(q:{`q1,K3 x}):PE X (.Call (.Name x p) [] [] pos) (yi C sp Ho E Cw):=by
 intro a s J H Q I h;refine Xc (l7 I j i ?_ q);exact PySem.W.callWith_K0 I.GP b.kp (qJ (us:=[]) b F g n l d I .nil h)
end
structure bt(N P:List Str)(sc:Scope):Prop where
 kind:sc.kind=.function
 co:sc.isCoroutine=false
 gen:sc.isGenerator=false
 nd:N.Nodup
 pre:N.take P.length=P
 par:∀x∈P,sc.names.lookup x=some .local\/sc.names.lookup x=some .cell
 Lg:∀y∈sc.names,y.2 ≠ .free
theorem ou:∀{binds:List (Str×KF)}{m:W3},(∀v,(x,v)∉binds)->bindL a binds m x=m x
 |[],_,_=>rfl
 | (n,v) :: r,m,h=>by
  unfold bindL;rw[ou λw hw=>h w (Zx _ hw)];split
  ·have:x≠n:=by rintro rfl;exact h v Zw
   simp[this]
  ·rfl
theorem oP:∀{binds:List (Str×KF)}{m:W3},(∀v,(x,v)∉binds)->bindC a binds m x=m x
 |[],_,_=>rfl
 | (n,v) :: r,m,h=>by
  unfold bindC;rw[oP λw hw=>h w (Zx _ hw)];split
  ·rfl
  ·have:x≠n:=by rintro rfl;exact h v Zw
   simp[this]
theorem oM:∀{P:List Str}{b:W5}{i:Nat}{m:W3},P.Nodup->P[i]?=Z x->b[i]?=Z v->a x=Z .local →
  bindL a (P.zip b) m x=Z v
 |[],_,_,_,_,h,_,_=>by simp at h
 |_ :: _,[],_,_,_,_,h,_=>by simp at h
 |p :: P,w :: b,0,m,nd,e,d,f=>by
  simp at e d;subst e;subst d;show bindL a ((p,w) :: P.zip b) m p=_;unfold bindL;rw[ou λv g=>(ZX.mp nd).1 (List.of_mem_zip g).1,Zp f];simp
 |p :: P,w :: b,i+1,m,nd,e,d,f=>by
  unfold bindL;exact oM (i:=i) (ZX.mp nd).2 (by simpa using e) (by simpa using d) f
theorem oy:∀{P:List Str}{b:W5}{i:Nat}{m:W3},P.Nodup->P[i]?=Z x->b[i]?=Z v->a x≠Z .local →
  bindC a (P.zip b) m x=Z v
 |[],_,_,_,_,h,_,_=>by simp at h
 |_ :: _,[],_,_,_,_,h,_=>by simp at h
 |p :: P,w :: b,0,m,nd,e,d,f=>by
  simp at e d;subst e;subst d;show bindC a ((p,w) :: P.zip b) m p=_;unfold bindC;rw[oP λv g=>(ZX.mp nd).1 (List.of_mem_zip g).1,Zn f];simp
 |p :: P,w :: b,i+1,m,nd,e,d,f=>by
  unfold bindC;exact oy (i:=i) (ZX.mp nd).2 (by simpa using e) (by simpa using d) f
noncomputable def start(N:List Str)(a:List V):St:=a.map Z++List.replicate (N.length-a.length) L
def jI(j:Jr)(P:Pv)(w:SL)(K:W0)(m:W3)(h:SC)(N:List Str)(d:Str)(a:Scope)(f:KB)(g:KF)(A:P3)(b:List Env)(s:FS)(H:Hp)(E:XK):Cx where
 prog:=P
 w:=w
 K:=K
 mg:=m
 base:=h
 A:=A.deeper (envOfC d a s.heap.objs.size f g)
 N:=N
 s₀:=s
 H₀:=H
 env:=envOfC d a s.heap.objs.size f g
 outer:=b
 stack:=envOfC d a s.heap.objs.size f g :: b
 ex:=[]
 calm:=B
 fn:=λ_=>B
 pn:=[]
 xe:=λe l=>KM (GM P w) (A.deeper (envOfC d a s.heap.objs.size f g)) (leaving (envOfC d a s.heap.objs.size f g) e) (λ_ i=>j b H s E e i) (λn i=>j b H s E n i) l
def rS{a:Scope}(h:a.names.lookup x=Z .cell):∃c,(cellsFrom n a.names []).lookup x=Z c:=by
 exact YH.mp (PySem.W.cellsFrom_some a.names n [] (.inl h))
def uW{K:W0}{A:P3}{C:List V}(S:bt N o d)(hd:A.handled=L)(m:Env0 P w K M n A g s H)(hl:C.length=o.length)(r:aK C J)(x:InCallC s s.heap.objs.size (bindL (envOfC j d s.heap.objs.size f G).kindOf (o.zip J) λ_=>L) (cellsFrom (s.heap.objs.size+1) d.names []) (bindC (envOfC j d s.heap.objs.size f G).kindOf (o.zip J) λ_=>L) R) :
  Inv (jI CX P w K M n N j d f G A g s H E) [] (start N C) H R:=by
 have hpl:o.length<=N.length:=by have:=congrArg List.length S.pre;rw[Wa]at this;lia
 obtain⟨F,tk,rfl,X⟩:=x.done;have Q:∀b:KB,b∉(jI CX P w K M n N j d f G A g s H E).ex:=λb z=>absurd (show b∈([]) from z) (by simp);refine⟨⟨m.mod,S.kind,rfl,rfl,Zm _,λy z c F l=>?_,λy t=>?_,λy c _ h=>?_,λ_=>hd,Around.frames_deeper m.frames,.inr ⟨rfl,rfl⟩,λb z=>absurd z (Q b),m.tb,m.bs,m.KA,λb _ _=>Q b,λb z=>absurd z (Q b),m.Hc,m.LI⟩,
  rfl,m.bare,Un.kept X,⟨_,x.toInCall.ns,λi y v F l h3=>?_⟩,λy c h=>⟨_,x.cell y c h⟩,m.oe.fresh (Zm _),λy c h=>?_,λp D=>absurd (show p∈([]) from D) (by simp),m.oe.kept X,?_⟩
 ·exact name_of_addr x.apart (Xs F) (Xs l)
 ·have t:=t;rcases t with t | t
  ·exact rS t
  ·exact absurd Y (S.Lg _ (Xs t))
 ·exact Xv (x.above y c (Xs h))
 ·have hi:i<C.length:=by
   unfold start at l;by_cases hi:i<C.length
   ·exact hi
   ·rw[Yy (by simpa using hi)]at l;rw[YW]at l;split at l<;>cases l
  obtain⟨u,U,rv⟩:=r.get (by
   unfold start at l;rw[Z5 (by simpa using hi),ZU]at l;cases e:C[i]? with
   |none=>rw[e]at l;cases l
   |some a=>rw[e]at l;cases l;rfl)
  have D:o[i]?=Z y:=by
   rw[← S.pre,List.getElem?_take_of_lt (by lia)];exact F
  have QJ:o.Nodup:=by rw[← S.pre];exact S.nd.sublist (List.take_sublist _ _)
  refine⟨u,rv,?_⟩;rcases S.par y (Yf D) with k | k
  ·exact .inl ⟨k,oM QJ D U k⟩
  ·obtain⟨c,e⟩:=rS k;refine .inr ⟨.inl k,c,e,?_⟩;have q:=x.cell y c e;rw[oy QJ D U (by show d.names.lookup y≠_;rw[k];decide)]at q;exact q
 ·exact m.oe.fresh (Xv (x.above y c (Xs h)))
 ·unfold start;show _=N.length;rw[Zt,Zy,Y6];lia
def A7{CX:Jr}{P:Pv}{w:SL}{K:W0}{X:W3}{i:SC}{k:Nat}{f:KB}{l d:Str}{g:Arguments}{h:List Stmt}{a:Scope}{dV kV F pm y ct oc:KF}{an od:Option KB}{Je:Array (W6)}{N U:List Str}{J:Sp}(lk:K.lookup f=Z ⟨oc,od,.func (PySem.W.fnOf l d g h a dV kV F pm an y ct),Je⟩)(hcd:PySem.W.codeIn K y d=B)(S:bt N U a)(C:∀j H Q E,J j H Q E->j.length=U.length)(Ij:∀(A:P3)(outer:List Env)(s:FS)(H:Hp)(j:List V)(Q:VK)(E:XK),jj k (A.deeper (envOfC d a s.heap.objs.size f y))->J j H Q E →
   ∃t,Hq (jI CX P w K X i N d a f y A outer s H E) h t/\t { nx:=λ_ p=>Q .non p,rt:=Q } (start N j) H) :
  FnOk P w K X i CX (k+1) f (PySem.W.fnOf l d g h a dV kV F pm an y ct) U J:=by
 refine⟨C,λA outer s H args us j Q E hr D hb r JY=>?_⟩;have hl:=C _ _ _ _ JY;have KX:=D.mod.MM.keeps λb o e=>(D.bs b o e).1;refine codeAny_call_function hr.depth (KX _ _ lk) Y S.co S.gen Y (PySem.W.codeRec_of KX hcd) (hb _ _ _ _ ?_);refine wpAny_newFunctionEnv_cells S.kind (λ⟨n,v⟩ hy=>by
  rcases S.par n (List.of_mem_zip hy).1 with q | q
  ·exact .inl q
  ·exact .inr ⟨q,PySem.W.cellsFrom_some _ _ _ (.inl q)⟩) λenv he s1 x=>?_
 subst he;refine⟨(D.mod.nolimit.keeps λb o e=>(D.bs b o e).1).keeps x.toInCall.keep,codeAny_func ?_⟩;obtain⟨t,ht,hq⟩:=Ij A outer s H j Q E (hr.deeper _) JY;refine YU (ht [] s1 (start N j) H _ (uW S hr.hd D hl r x) hq) (λfl M z=>?_) λe M z=>z;have fin:∀{G:St}{p:Hp}{v:V}{u:KF},Inv (jI CX P w K X i N d a f y A outer s H E) [] G p M->RelV v u->Q v p->CE outer P w H s Q u M :=
  λ{G p v u} m R q=>⟨v,p,m.os,m.bare,m.base,m.oe,R,q⟩
 cases fl with
 |ret u =>
  obtain⟨v,G,p,m,R,q⟩:=z;exact fin m R q
 |next =>
  obtain⟨G,p,m,q⟩:=z;exact fin (v:=V.non) m Y q
 |brk =>
  obtain⟨_,_,_,q⟩:=z;exact False.elim q
 |cont =>
  obtain⟨_,_,_,q⟩:=z;exact False.elim q
section
noncomputable def P8(r:List V->Hp->VK->Prop)(t:TA):TE:=λJ H Q=>t J H λa b=>r a b Q
def kG{X:Cx}{x:Str}{p pos:Pos}{es:List Expr}{t:TA}{id:String}{r:List V->Hp->VK->Prop}(o:cB X (.builtin id) r)(n:Gl X x)(m:X.mg x=L)(j:bootBuiltins x=Z (.builtin id))(q:PA X (e :: es) t)(l:{`q1,x ≠ "__name__"})(w:{`q1,K3 x})(he:{`q2,K1 e es X})(b:{`q2,K2 pos es X}):PE X (.Call (.Name x p) (e :: es) [] pos) (P8 r t):=by
 intro a s J H Q I h;refine Xc (mw I n m j ?_ l w);exact PyProof.Rows.callWith_builtin1 (thn (q pos a s J H _ I h) λf g ⟨d,v,u,r1,i⟩=>o a g J v d f Q u r1 i) he b
def om(o:cB X (.type T) r)(n:Gl X x)(m:X.mg x=L)(j:bootBuiltins x=Z (.type T))(q:PA X (e :: es) t)(l:{`q1,x ≠ "__name__"})(w:{`q1,K3 x})(he:{`q2,K1 e es X})(b:{`q2,K2 pos es X}):PE X (.Call (.Name x p) (e :: es) [] pos) (P8 r t):=by
 intro a s J H Q I h;refine Xc (mw I n m j ?_ l w);exact XM (thn (q pos a s J H _ I h) λf g ⟨d,v,u,r1,i⟩=>o a g J v d f Q u r1 i) he b
end
end L2
namespace HT
open PySem PyProof.Rows
section
noncomputable def GC(n d:Nat):Option Int->Nat
 |none=>d
 |some v=>if v<0 then (v+(n:Int)).toNat else min v.toNat n
end
end HT
namespace L2
open PySem PySem.Spec PyProof.Rows
abbrev TO:=St->Hp->(Option Int->Hp->Prop)->Prop
def PO(X:Cx)(e:Option Expr)(t:TO):Prop :=
 ∀(a:Xl)(s:FS)(J:St)(H:Hp)(Q:Option Int->Hp->Prop),Inv X a J H s->t J H Q →
  KM (GM X.prog X.w) X.A (evalPart e X.env) (λu d=>∃o b,Inv X a J b d/\IsPart u o/\Q o b) X.xe s
noncomputable def zR:TO:=λ_ H Q=>Q L H
noncomputable def Ek(t:TE):TO:=λJ H Q=>t J H λx a=>∃i,x=.int i/\Q (Z i) a
section
variable{lo:Option Expr}
def Ad:PO X L zR:=by
 intro a s J H Q I h;rw[evalPart_none];exact Zl ⟨L,H,I,.none,h⟩
def Aq(h:PE X e te):PO X (Z e) (Ek te):=by
 intro a s J H Q I hw;rw[evalPart_some];refine thn (h a s J H _ I hw) λu j d=>?_;obtain⟨x,g,f,r1,b⟩:=d;obtain⟨i,rfl,q⟩:=b;obtain⟨t,rfl⟩:=r1;exact⟨Z i,g,f,.int i t,q⟩
def K6(X:Cx)(r:V->Option Int->Option Int->Hp->VK->Prop):Prop :=
 ∀(a:Xl)(s:FS)(J:St)(H:Hp)(x:V)(v d b:KF)(lo hi:Option Int)(f:KB)(Q:VK),Inv X a J H s->RelV x v->s.heap.IsSliceOf f d b .none->IsPart d lo->IsPart b hi->r x lo hi H Q →
  ∃T id,typeLookup (.type T) "__getitem__" = pure (Z (.builtin id))/\s.TypeIs v T/\KM (GM X.prog X.w) X.A (getItem v (.ref f)) (EP X a J Q) X.xe s
def K6.or(h:K6 X r)(l:K6 X i):K6 X (λx lo hi H Q=>r x lo hi H Q\/i x lo hi H Q):=by
 intro a s J H x v d b lo hi f Q I g j pl pu q;rcases q with q | q
 ·exact h a s J H x v d b lo hi f Q I g j pl pu q
 ·exact l a s J H x v d b lo hi f Q I g j pl pu q
noncomputable def Sl(r:V->Option Int->Option Int->Hp->VK->Prop)(d:TE)(a b:TO):TE:=λJ H Q=>d J H λx h=>a J h λl g=>b J g λu f=>r x l u f Q
def xu(y:K6 X r)(he:PE X e te)(z:PO X lo tl)(t:PO X hi th):PE X (.Subscript e (.Slice lo hi L p2) pos) (Sl r te tl th):=by
 intro a s J H Q I h;refine Subscript_ (thn (he a s J H _ I h) λv m f=>?_);obtain⟨x,M,E,r1,p⟩:=f;refine wpAny_Slice (thn (z a m J M _ E p) λi j ⟨l,G,D,pl,o⟩=>thn (t a j J G _ D o) λg d f=>?_);obtain⟨u,F,C,pu,n⟩:=f;rw[evalPart_none];refine Zl ?_;obtain⟨T,id,A,w,hg⟩:=y a { d with heap:=d.heap.push { cls:=.type "slice",data:=.fields #[i,g,.none] } } J F x v i g l u d.heap.objs.size Q (C.kept (t':=d.toks) λb N q=>Zo _ q) r1 (Heap.IsSliceOf.new ..) pl pu n;exact tail_any w A hg (by with_unfolding_all rfl)
def vW(a:List V)(b d:Option Int):List V:=(a.drop (HT.GC a.length 0 b)).take (HT.GC a.length a.length d-HT.GC a.length 0 b)
def rz(a:List V)(b d:Option Int):(vW a b d).length<=a.length:=by
 unfold vW;rw[Wa,YC];lia
end
noncomputable def Lk(n:Nat)(i:Int):Option Nat:=if 0<=i then (if i<n then Z i.toNat else L) else if -(n:Int)<=i then Z (i+n).toNat else L
def LR{α:Type}(a:List α)(i:Int):Option α:=(Lk a.length i).bind λj=>a[j]?
def uz{i:Int}(h:Lk n i=Z j):seqIndex? i n=Z j/\j<n/\-(n:Int)<=i/\i<n:=by
 unfold Lk at h;by_cases b:0<=i
 ·rw[Zp b]at h;by_cases a:i<n
  ·rw[Zp a]at h;exact⟨by rw[seqIndex_of b a,(Zh h)],by lia,by lia,a⟩
  ·rw[Zn a]at h;cases h
 ·rw[Zn b]at h;by_cases a:-(n:Int)<=i
  ·rw[Zp a]at h;exact⟨by rw[seqIndex_neg (by lia) a,(Zh h)],by lia,a,by lia⟩
  ·rw[Zn a]at h;cases h
def pf{α:Type}{a:List α}{i:Int}{v:α}(h:LR a i=Z v):∃j,seqIndex? i a.length=Z j/\a[j]?=Z v/\j<a.length/\-(a.length:Int)<=i/\i<a.length:=by
 unfold LR at h;cases e:Lk a.length i with
 |none=>rw[e]at h;cases h
 |some j =>
  rw[e]at h;obtain⟨g,f,d,b⟩:=uz e;exact⟨j,g,h,f,d,b⟩
noncomputable def jX(b:Expr):Prop:=∀o i,subscripted b O o i=operate [o,i] (getItem o i)
def Ji(X:Cx)(r:R2):Prop :=
 ∀(value slice:Expr)(a:Xl)(s:FS)(J:St)(H:Hp)(x y:V)(v u:KF)(Q:VK),Inv X a J H s->RelV x v->RelV y u->r x y H Q →
  subscripted slice O v u=operate [v,u] (getItem v u)->KM (GM X.prog X.w) X.A (subscriptTail value slice v u) (EP X a J Q) X.xe s
def LV(X:Cx)(e:String)(r:V->List V->Hp->VK->Prop):Prop :=
 ∀(a:Xl)(s:FS)(J:St)(H:Hp)(x:V)(b:List V)(v:KF)(d:W5)(Q:VK),Inv X a J H s->RelV x v->aK b d->r x b H Q →
  KM (GM X.prog X.w) X.A (call (.builtin e) (v :: d)) (EP X a J Q) X.xe s
section
def Ji.or(h:Ji X r)(j:Ji X g):Ji X (λx y H Q=>r x y H Q\/g x y H Q):=by
 intro value slice d s J H x y v u Q I f e q i;rcases q with q | q
 ·exact h value slice d s J H x y v u Q I f e q i
 ·exact j value slice d s J H x y v u Q I f e q i
def uH(j:Ji X r)(m:PE X a ta)(l:PE X b tb)(i:jX b):PE X (.Subscript a b pos) (Mv r ta tb):=by
 intro d s J H Q I h;exact Subscript_ (BU m l I h λv u e x y o n g f q=>j a b d e J o x y v u Q n g f q (i _ _))
def EY(K:W0):R2:=λx y H Q=>∃p d i v,x=.ref p/\y=.int i/\FT K H p d/\LR d i=Z v/\Q v H
def E2(K:W0):R2:=λx y H Q=>∃p d i v,x=.ref p/\y=.int i/\GU K H p d/\LR d i=Z v/\Q v H
def EK:R2:=λx y H Q=>∃z i c,x=.str z/\y=.int i/\z.length<=IR/\LR z.cps.toList i=Z c/\Q (.str ⟨#[c]⟩) H
def Aa:Ji X (EY X.K):=by
 intro value slice d s J H x y v u Q I o n h g;refine L2.ar λY A=>?_;obtain⟨p,P,i,z,rfl,rfl,C,he,q⟩:=h;cases o;obtain⟨t,rfl⟩:=n;obtain⟨M,r,pl,R⟩:=I.list C;obtain⟨j,e,G,U,F,E⟩:=pf he;obtain⟨w,m,N⟩:=r.get G;refine A ?_;have D:=r.length;have S:=pI;have fin:EP X d J Q w s:=⟨z,H,I,N,q⟩
 by_cases l:0<=i
 ·have f:i.toNat=j:=by
   rw[seqIndex_of l E]at e;exact Zh e
  exact item_listR pl.isList l (by lia) (by rw[f];simpa using m) fin g
 ·have f:(i+(M.toArray.size:Int)).toNat=j:=by
   rw[seqIndex_neg (by lia) F]at e;rw[ZQ,← D];exact Zh e
  exact subscriptTail_builtinR (x:=w) pl.isList.typeIs slot_list_getitem.lookup
   (wpAny_getItem_list_neg pl.isList (by lia) (by rw[ZQ]<;>lia) (by lia) (by rw[f];simpa using m) ⟨rfl,fin⟩) g
def Cr:Ji X (E2 X.K):=by
 intro value slice d s J H x y v u Q I f e h l;refine L2.ar λR g=>?_;obtain⟨p,D,i,z,rfl,rfl,m,he,q⟩:=h;cases f;obtain⟨t,rfl⟩:=e;obtain⟨P,r,pl,E⟩:=I.tuple m;obtain⟨j,o,n,N,M,G⟩:=pf he;obtain⟨w,A,C⟩:=r.get n;refine g ?_;have F:=pI;exact subscriptTail_builtinR (x:=w) pl.typeIs slot_tuple_getitem.lookup
  (getItem_tuple (j:=j) pl (by lia) (by lia) (by rw[ZQ,← r.length];exact o) (by simpa using A) ⟨rfl,(⟨z,H,I,C,q⟩)⟩) l
def BW:Ji X EK:=by
 intro value slice d s J H x y v u Q I g f h l;obtain⟨z,i,c,rfl,rfl,w,he,q⟩:=h;obtain⟨t,rfl⟩:=g;obtain⟨r,rfl⟩:=f;obtain⟨j,e,p,C,o,n⟩:=pf he;have m:z.cps.toList.length=z.length:=by simp[Str.length]
 rw[m]at e o n;have A:=pI;exact tail_any (Ww s z t) slot_str_getitem.lookup (getItem_str (c:=c) (by
  rw[(ZK (by lia)),(ZK (by lia)),Bool.or_false]) (by rw[e];simpa using p) ⟨.str ⟨#[c]⟩,H,I.tok _,⟨_,rfl⟩,q⟩) l
def Os(K:W0):R2:=λx y H Q=>EY K x y H Q\/E2 K x y H Q\/EK x y H Q
def pL:Ji X (Os X.K):=Aa.or (Cr.or BW)
def sV(d:W5)(n j:Nat)(u:KF):Obj.mapSeq (·.setIfInBounds j u) { cls:=.type "list",data:=.seq d.toArray n }={ cls:=.type "list",data:=.seq (d.set j u).toArray n }:=by
 simp[Obj.mapSeq]
theorem Inv.lst{d:Xl}{H:Hp}(I:Inv X d J H s)(h:H p=Z (.lst g)) :
  ∃(f:W5)(n:Nat),aK g f/\s.heap.get? p=Z { cls:=.type "list",data:=.seq f.toArray n }/\g.length<=sizeLine:=by
 obtain⟨z,f,n,r,e⟩:=I.oe p _ h;exact⟨f,n,r,e,z⟩
def Inv.Lj{m g:W5}(I:Inv X d J H s)(h:H p=Z (.lst o))(w:s.heap.get? p=Z { cls:=.type "list",data:=.seq m.toArray n })(l:f { cls:=.type "list",data:=.seq m.toArray n }={ cls:=.type "list",data:=.seq g.toArray j })(r:aK i g)(v:i.length<=IR)(t:Nat) :
  Inv X d J (upd H p (.lst i)) { s with heap:=s.heap.update p f,toks:=t }:=by
 have e:(s.heap.update p f).get? p=Z { cls:=.type "list",data:=.seq g.toArray j }:=by
  rw[Yx f w (by rw[l]<;>rfl),l]
 refine I.write (x:=p) (e:=p) (by rw[h];trivial) (.inl Y) (λb u hb q=>(Yh _ _ (Ya hb)).trans q) ⟨_,e⟩ ?_;exact⟨v,g,j,r,e⟩
def Bl:V->V->V->Hp->(Hp->Prop)->Prop:=λo i v H Q=>∃p d k j,o=.ref p/\i=.int k/\H p=Z (.lst d)/\Lk d.length k=Z j/\Q (upd H p (.lst (d.set j v)))
def set_list:B3 X Bl:=by
 intro l s J H o i v N iv u Q I ro D C h;refine L2.ar λS E=>?_;obtain⟨p,M,k,j,rfl,rfl,m,G,q⟩:=h;cases ro;obtain⟨t,rfl⟩:=D;obtain⟨z,n,r,e,F⟩:=I.lst m;obtain⟨d,R,x,w⟩:=uz G;refine E ?_;have f:=r.length;have P:=pI;have A :=
  I.Lj m e (sV z n j u) (r.set C j) (by rw[Yt];exact F) s.toks
 by_cases y:0<=k
 ·have g:k.toNat=j:=by
   rw[seqIndex_of y w]at d;exact Zh d
  exact PySem.W.ki_setAt e y (by lia) (by rw[ZQ,← f];exact w) (by rw[g];exact⟨_,A,q⟩)
 ·have g:(k+(z.toArray.size:Int)).toNat=j:=by
   rw[seqIndex_neg (by lia) x]at d;rw[ZQ,← f];exact Zh d
  exact PySem.W.ki_setBack e (by lia) (by rw[ZQ,← f];exact x) (by lia) (by rw[g];exact⟨_,A,q⟩)
def JD(a:Int)(n:Nat):max 0 (min a (n:Int))=((min a.toNat n:Nat):Int):=by
 cases a with
 |ofNat k =>
  show max 0 (min (k:Int) (n:Int))=((min k n:Nat):Int);rcases Nat.le_total k n with h | h
  ·rw[Int.min_eq_left (Int.ofNat_le.mpr h),Yd h];exact Int.max_eq_right (Xo _)
  ·rw[Int.min_eq_right (Int.ofNat_le.mpr h),X0 h];exact Int.max_eq_right (Xo _)
 |negSucc k =>
  rw[Int.min_eq_left (Int.le_trans (Int.le_of_lt (Int.negSucc_lt_zero k)) (Xo n)),Int.max_eq_left (Int.le_of_lt (Int.negSucc_lt_zero k))];show (0:Int)=((min 0 n:Nat):Int);rw[Nat.zero_min];rfl
def p9(d e:Option Int)(n:Nat):(sliceBounds d e L n).1=((HT.GC n 0 d:Nat):Int)/\(sliceBounds d e L n).2.1=((HT.GC n n e:Nat):Int)/\(sliceBounds d e L n).2.2=1:=by
 refine⟨?_,?_,rfl⟩
 ·cases d with
  |none=>simp[sliceBounds,HT.GC]
  |some i =>
   simp only[sliceBounds,HT.GC,Option.getD_none,show (1:Int) > 0 by decide,if_true];by_cases h:i<0
   ·simp only[h,if_true];rw[JD,Yd (by omega)]
   ·simp only[h,if_false];exact JD i n
 ·cases e with
  |none=>simp[sliceBounds,HT.GC]
  |some i =>
   simp only[sliceBounds,HT.GC,Option.getD_none,show (1:Int) > 0 by decide,if_true];by_cases h:i<0
   ·simp only[h,if_true];rw[JD,Yd (by omega)]
   ·simp only[h,if_false];exact JD i n
def n4(d:W5)(e f:Option Int):slicePick d.toArray e f L=((d.drop (HT.GC d.length 0 e)).take (HT.GC d.length d.length f-HT.GC d.length 0 e)).toArray:=by
 obtain⟨i,h,g⟩:=p9 e f d.toArray.size;unfold slicePick;rw[i,h,g];simp only[sliceRange_one,pick_run,ZQ]<;>rfl
def DO(K:W0):V->Option Int->Option Int->Hp->VK->Prop:=λx lo hi H Q=>∃a d,x=.ref a/\FT K H a d/\∀p,H p=L->Q (.ref p) (upd H p (.lst (vW d lo hi)))
def z9:K6 X (DO X.K):=by
 intro e s J H x v n m lo hi o Q I g l pl pu h;obtain⟨a,d,rfl,j,q⟩:=h;cases g;obtain⟨t,r,f,i⟩:=I.list j;have hlen:=r.length;refine⟨"list",_,slot_list_getitem.lookup,f.isList.typeIs,?_⟩;refine wpAny_getItem_list_slice f.isList l pl pu .none (by simp) ?_ (by rw[ZQ]<;>lia);rw[n4,← hlen];refine⟨.ref s.heap.objs.size,_,I.laid (λb p q=>Zo _ q) (Zm _) ?_,rfl,q _ (I.oe.fresh (Zm _))⟩;exact⟨ZY (rz d lo hi) i,_,0,(r.drop (HT.GC d.length 0 lo)).take (HT.GC d.length d.length hi-HT.GC d.length 0 lo),Ze _ Y⟩
noncomputable def gC:V->Bool
 |.non=>B
 |.bl _=>B
 |.int _=>B
 |.str _=>B
 |_=>O
noncomputable def Kb:V->V->Bool
 |.non,.non=>B
 |.bl a,.bl b=>a==b
 |.bl a,.int b=>(if a then 1 else 0)==b
 |.int a,.bl b=>a==(if b then 1 else 0)
 |.int a,.int b=>a==b
 |.str a,.str b=>a==b
 |_,_=>O
def BI(f:RelV y u)(d:RelV x v)(h:gC y=B)(g:gC x=B):SeqAt.EqAt A s u v (Kb y x):=by
 cases y with
 |non =>
  cases f;cases x with
  |non=>cases d;exact SeqAt.EqAt.same _
  |bl b=>cases d;exact SeqAt.EqAt.none_bool b
  |int b=>obtain⟨t,rfl⟩:=d;exact SeqAt.EqAt.none_int b t
  |str b=>obtain⟨t,rfl⟩:=d;exact SeqAt.EqAt.none_str b t
  |_=>exact absurd (g) Zc
 |bl a =>
  cases f;cases x with
  |non=>cases d;exact SeqAt.EqAt.bool_none a
  |bl b=>cases d;exact SeqAt.EqAt.bool_bool a b
  |int b=>obtain⟨t,rfl⟩:=d;exact SeqAt.EqAt.bool_int a b t
  |str b=>obtain⟨t,rfl⟩:=d;exact SeqAt.EqAt.bool_str a b t
  |_=>exact absurd (g) Zc
 |int a =>
  obtain⟨e,rfl⟩:=f;cases x with
  |non=>cases d;exact SeqAt.EqAt.int_none a e
  |bl b=>cases d;exact SeqAt.EqAt.int_bool a e b
  |int b=>obtain⟨t,rfl⟩:=d;exact SeqAt.EqAt.int_int a e b t
  |str b=>obtain⟨t,rfl⟩:=d;exact SeqAt.EqAt.int_str a e b t
  |_=>exact absurd (g) Zc
 |str a =>
  obtain⟨e,rfl⟩:=f;cases x with
  |non=>cases d;exact SeqAt.EqAt.str_none a e
  |bl b=>cases d;exact SeqAt.EqAt.str_bool a e b
  |int b=>obtain⟨t,rfl⟩:=d;exact SeqAt.EqAt.str_int a e b t
  |str b=>obtain⟨t,rfl⟩:=d;exact SeqAt.EqAt.str_str a e b t
  |_=>exact absurd (g) Zc
 |_=>exact absurd (h) Zc
def IH(x:V)(u:KF):Bool:=match u with
 |.none=>Kb .non x
 |.bool b=>Kb (.bl b) x
 |.int i _=>Kb (.int i) x
 |.str z _=>Kb (.str z) x
 |_=>O
def x9(r:RelV y u)(f:gC y=B):IH x u=Kb y x:=by
 cases y with
 |non=>cases r;rfl
 |bl b=>cases r;rfl
 |int i=>obtain⟨t,rfl⟩:=r;rfl
 |str z=>obtain⟨t,rfl⟩:=r;rfl
 |_=>exact absurd (f) Zc
theorem jZ:∀{d:List V}{e:W5},aK d e->d.all gC=B->e.any (IH x)=d.any λy=>Kb y x
 |_,_,.nil,_=>rfl
 |y :: d,u :: e,.cons r t,f=>by
  rw[XB,Ye]at f;rw[YV,YV,x9 r f.1,jZ t f.2]
theorem i7(h:RelV x v)(i:gC x=B):∀{e:List V}{g:W5},aK e g->e.all gC=B->∀u∈g,SeqAt.EqAt A s u v (IH x u)
 |_,_,.nil,_=>λu d=>by cases d
 |y :: e,u :: g,.cons r t,f=>λj d=>by
  rw[XB,Ye]at f;rcases Zk.mp d with rfl | d
  ·rw[x9 r f.1];exact BI r h f.1 i
  ·exact i7 h i t f.2 j d
def MR(x:V)(d:List V):Bool:=d.any λy=>Kb y x
def NG(K:W0)(e:Bool):R2:=λx y H Q=>∃p d,y=.ref p/\(FT K H p d\/GU K H p d)/\gC x=B/\d.all gC=B/\Q (.bl (if e then !MR x d else MR x d)) H
def vt:OpR X (SB .In) (NG X.K O):=by
 intro g s J H x y v u Q I f j h;obtain⟨p,m,rfl,d,i,fs,q⟩:=h;cases j;rcases d with d | d
 ·obtain⟨e,r,pl,l⟩:=I.list d;refine SeqAt.in_listAt (IH x) pl.isList (λw hw=>i7 f i r fs w (by simpa using hw)) ⟨.bl _,H,I,rfl,?_⟩;rw[show e.toArray.any (IH x)=e.any (IH x) by simp,jZ r fs];exact q
 ·obtain⟨e,r,pl,l⟩:=I.tuple d;refine SeqAt.in_tupleAt (IH x) pl (λw hw=>i7 f i r fs w (by simpa using hw)) ⟨.bl _,H,I,rfl,?_⟩;rw[show e.toArray.any (IH x)=e.any (IH x) by simp,jZ r fs];exact q
def pJ:OpR X (SB .NotIn) (NG X.K B):=by
 intro g s J H x y v u Q I f j h;obtain⟨p,m,rfl,d,i,fs,q⟩:=h;cases j;rcases d with d | d
 ·obtain⟨e,r,pl,l⟩:=I.list d;refine SeqAt.notIn_listAt (IH x) pl.isList (λw hw=>i7 f i r fs w (by simpa using hw)) ⟨.bl _,H,I,rfl,?_⟩;rw[show e.toArray.any (IH x)=e.any (IH x) by simp,jZ r fs];exact q
 ·obtain⟨e,r,pl,l⟩:=I.tuple d;refine SeqAt.notIn_tupleAt (IH x) pl (λw hw=>i7 f i r fs w (by simpa using hw)) ⟨.bl _,H,I,rfl,?_⟩;rw[show e.toArray.any (IH x)=e.any (IH x) by simp,jZ r fs];exact q
def cB.or(h:cB X f r)(j:cB X f i):cB X f (λe H Q=>r e H Q\/i e H Q):=by
 intro d s J H e g Q I rs q;rcases q with q | q
 ·exact h d s J H e g Q I rs q
 ·exact j d s J H e g Q I rs q
def pC:cB X (.type "list") (λz H Q=>∃p g,z=[.ref p]/\(FT X.K H p g\/GU X.K H p g)/\∀l,H l=L->Q (.ref l) (upd H l (.lst g))):=by
 intro m s J H z D Q I r h;obtain⟨p,g,rfl,v,q⟩:=h;obtain⟨u,rfl,C⟩:=vals1 r;cases C;have fin:∀(f:W5),aK g f->g.length<=IR->∀(d:SC)(j:Nat),(∀b A,s.heap.get? b=Z A->d.get? b=Z A) →
   d.get? s.heap.objs.size=Z { cls:=.type "list",dict:=L,data:=.seq f.toArray j,slots:=#[] }->EP X m J Q (.ref s.heap.objs.size) { s with heap:=d }:=λf i t d j kp e =>
  ⟨.ref s.heap.objs.size,_,I.laid kp (Zm _) (show c9 X.prog X.w _ d _ (.lst g) from⟨t,f,j,i,e⟩),rfl,q _ (I.oe.fresh (Zm _))⟩
 rcases v with v | v
 ·obtain⟨f,i,pl,t⟩:=I.list v;have hlen:=i.length;obtain⟨o,x,y,n,hd⟩:=pl.isList;exact call_list_seq p (.inl Y) x y hd (λd j kp e=>fin f i t d j kp e) (by simp only[ZQ]<;>lia)
 ·obtain⟨f,i,pl,t⟩:=I.tuple v;have hlen:=i.length;obtain⟨o,x,y,n,hd⟩:=pl;exact call_list_seq p (.inr Y) x y hd (λd j kp e=>fin f i t d j kp e) (by simp only[ZQ]<;>lia)
def nX:cB X (.type "tuple") (λi H Q=>∃p d,i=[.ref p]/\((FT X.K H p d/\∀l,H l=L->Q (.ref l) (upd H l (.tup d)))\/(GU X.K H p d/\Q (.ref p) H))):=by
 intro j s J H i y Q I r h;obtain⟨p,d,rfl,h⟩:=h;obtain⟨u,rfl,v⟩:=vals1 r;cases v;rcases h with⟨g,q⟩ | ⟨g,q⟩
 ·obtain⟨n,f,pl,m⟩:=I.list g;have hlen:=f.length;refine call_tuple_list pl.isList (λx kp=>?_) (by simp only[ZQ]<;>lia);have t:=I.kept (t':=s.toks) kp;exact⟨.ref x.objs.size,_,(t.laid (t':=s.toks) (λb o e=>Zo _ e) (Zm _) (show c9 X.prog X.w _ _ _ (.tup d) from⟨m,n,f,KD.new _ _,IsTup.new _ _⟩)),rfl,q _ (t.oe.fresh (Zm _))⟩
 ·obtain⟨n,f,pl,m⟩:=I.tuple g;exact call_tuple_same pl ⟨.ref p,H,I,rfl,q⟩
def Ki(K:W0)(T:String)(x:V)(H:Hp):Prop:=match x with
 |.str _=>T = "str"
 |.int _=>T = "int"
 |.ref p=>(T = "list" ∧ ∃e,FT K H p e)\/(T = "tuple" ∧ ∃o,K.lookup p=Z o/\o.cls=.type "tuple" ∧ o.dict=L) ∨
   (T = "dict" ∧ ((∃d,H p=Z (.dK d))\/∃d,H p=Z (.dT d)))\/(T = "set" ∧ ∃S n,H p=Z (.set S n))
 |_=>False
def w6(I:Inv X f J H s)(r:RelV x v)(g:Ki X.K T x H) :
  s.TypeIs v T/\∀a,v=.ref a->∃h,s.heap.get? a=Z h/\h.dict=L:=by
 cases x with
 |str z =>
  obtain⟨t,rfl⟩:=r;cases (g);exact⟨Ww s z t,λ_ e=>nomatch e⟩
 |int i =>
  obtain⟨t,rfl⟩:=r;cases (g);exact⟨typeIs_int s i t,λ_ e=>nomatch e⟩
 |ref p =>
  cases r;rcases g with⟨rfl,q,j⟩ | ⟨rfl,o,d,l,hd⟩ | ⟨rfl,d⟩ | ⟨rfl,S,n,d⟩
  ·obtain⟨u,_,pl,_⟩:=I.list j;refine⟨pl.isList.typeIs,λa e=>?_⟩;cases e;obtain⟨o,n,e,c,hd,_⟩:=pl;exact⟨o,e,hd⟩
  ·refine⟨⟨o,I.GP p o d,l⟩,λa e=>?_⟩;cases e;exact⟨o,I.GP _ o d,hd⟩
  ·have z:∃o,s.heap.get? p=Z o/\o.ExactDict:=by
    rcases d with⟨m,d⟩ | ⟨m,d⟩
    ·obtain⟨_,_,_,_,o,_,_,e,ex,_⟩:=I.oe p _ d;exact⟨o,e,ex⟩
    ·obtain⟨_,_,_,_,o,_,_,e,ex,_⟩:=I.oe p _ d;exact⟨o,e,ex⟩
   obtain⟨o,e,ex⟩:=z;refine⟨⟨o,e,ex.1⟩,λa e2=>?_⟩;cases e2;exact⟨o,e,ex.2.1⟩
  ·obtain⟨o,_,_,_,e,ex,_⟩:=I.oe p _ d;refine⟨⟨o,e,ex.1⟩,λa e2=>?_⟩;cases e2;exact⟨o,e,ex.2.1⟩
 |_=>exact False.elim g
def FB(K:W0)(T:String)(r:V->List V->Hp->VK->Prop)(e:TE):TE:=λJ H Q=>e J H λx d=>Ki K T x d/\r x [] d Q
def Sr(K:W0)(T:String)(r:V->List V->Hp->VK->Prop)(f:TE)(t:TA):TE:=λJ H Q=>f J H λx d=>Ki K T x d/\t J d λe g=>r x e g Q
def CL{X:Cx}{o:Expr}{to:TE}{name:Str}{apos cp:Pos}{T id:String}{r:V->List V->Hp->VK->Prop}(m:PlainAttrs T)(f:Slot T name id)(y:typeOf (.builtin id)=pure (.type "method_descriptor"))(p:LV X id r)(n:PE X o to)(A:{`q2,SZ o name X.env (eval o X.env)=eval o X.env})(i:{`q2,(apos.endLine==cp.line)=B}):PE X (.Call (.Attribute o name apos) [] [] cp) (FB X.K T r to):=by
 intro d s J H Q I h;refine wpAny_Call_method0_late A i (thn (n d s J H _ I h) λv j q=>?_);obtain⟨x,z,g,r1,ty,l⟩:=q;obtain⟨w,u⟩:=w6 g r1 ty;exact⟨T,id,m,f,y,w,u,Ws Y (PySem.evalArgs_none (p d j J z x [] v [] Q g r1 .nil l))⟩
def uI{X:Cx}{o:Expr}{es:List Expr}{to:TE}{t:TA}{name:Str}{apos cp:Pos}{T id:String}{r:V->List V->Hp->VK->Prop}(y:PlainAttrs T)(f:Slot T name id)(G:typeOf (.builtin id)=pure (.type "method_descriptor"))(C:LV X id r)(A:PE X o to)(D:PA X (e :: es) t)(U:{`q2,SZ o name X.env (eval o X.env)=eval o X.env})(R:{`q2,((backTo cp (PP (e :: es) X.env)).all (λx=>!x.1)&&(backToKw cp (Re [] X.env)).all (λx=>x.1.isSome)
   && decide ((e :: es).length+([]:List Keyword).length+(if ([]:List Keyword).isEmpty then 0 else 1)<30))=B})(l:{`q2,(apos.endLine==cp.line)=B})(z:{`q2,K1 e es X})(S:{`q2,K2 cp es X}) :
  PE X (.Call (.Attribute o name apos) (e :: es) [] cp) (Sr X.K T r to t):=by
 intro d s J H Q I h;refine wpAny_Call_method_late U R l Y (thn (A d s J H _ I h) λv q g=>?_);obtain⟨x,P,j,r1,ty,w⟩:=g;obtain⟨F,E⟩:=w6 j r1 ty;refine⟨T,id,y,f,G,F,E,?_⟩;have i:=D cp d q J P _ j w;rw[z]at i ⊢;refine Ws (by show (O||(backTo cp (PP es X.env)).any (·.1))=O;rw[S]<;>rfl) (Calls.evalArgs_plain ?_);refine thn i λn p g=>?_;obtain⟨m,N,M,r2,u⟩:=g;exact C d p J N x m v n Q M r1 r2 u
end
def R0(X:Cx)(e:String)(r:V->List V->Hp->VK->Prop):Prop :=
 ∀(a:Xl)(s:FS)(J:St)(H:Hp)(x:V)(b:List V)(v:KF)(d:W5)(Q:VK),Inv X a J H s->RelV x v->aK b d->r x b H Q →
  KM (GM X.prog X.w) X.A (call (.builtin e) (v :: d)) (EP X a J Q) X.xe s
def aK.nil_inv(h:aK [] a):a=[]:=by
 cases h;rfl
def aK.cons_inv(h:aK (x :: a) d):∃u b,d=u :: b/\RelV x u/\aK a b:=by
 cases h with
 |cons r t=>exact⟨_,_,rfl,r,t⟩
def aK.one(h:aK [x] a):∃u,a=[u]/\RelV x u:=by
 obtain⟨u,b,rfl,r,t⟩:=h.cons_inv;rw[t.nil_inv];exact⟨_,rfl,r⟩
theorem aK.zero:∀{a:W5},aK [] a->a=[]
 |_,.nil=>rfl
section
def Inv.MK{d a:W5}(I:Inv X pins J H s)(o:H l=Z (.lst xs))(e:s.heap.get? l=Z { cls:=.type "list",data:=.seq d.toArray n })(m:f d.toArray=a.toArray)(i:aK ys a)(h:ys.length<=IR) :
  Inv X pins J (upd H l (.lst ys)) { s with heap:=s.heap.update l (Obj.mapSeq f),toks:=g }:=by
 have q:=PySem.IsL.update e f;rw[m]at q;refine I.write (x:=l) (e:=l) (by rw[o];exact trivial) (.inl Y) (λp u hb j=>(Yh s.heap (Obj.mapSeq f) (Ya hb)).trans j) ⟨_,q⟩ ?_;exact⟨h,a,_,i,q⟩
def Inv.OJ(I:Inv X pins J H s)(f:aK ys a)(e:ys.length<=IR) :
  Inv X pins J (upd H s.heap.objs.size (.lst ys)) { s with heap:=s.heap.push { cls:=.type "list",data:=.seq a.toArray },toks:=d } :=
 I.laid (λ_ _ q=>Zo _ q) (Zm _) ⟨e,a,0,f,Ze _ Y⟩
theorem Inv.fresh(I:Inv X pins J H s):H s.heap.objs.size=L:=I.oe.fresh (Zm _)
def Inv.Kq(I:Inv X pins J H s)(d:H l=Z (.lst xs)):xs.length<=IR/\∃(a:W5)(n:Nat),aK xs a/\xs.length=a.length/\s.heap.get? l=Z { cls:=.type "list",data:=.seq a.toArray n }:=by
 obtain⟨z,a,n,r,e⟩:=I.oe l _ d;exact⟨z,a,n,r,r.length,e⟩
end
section
def tR:V->List V->Hp->VK->Prop:=λx b H Q=>∃l a y,x=.ref l/\b=[y]/\H l=Z (.lst a)/\a.length<IR/\Q .non (upd H l (.lst (a++[y])))
def jd:R0 X "list.append" tR:=by
 intro a s J H x p v t Q I d f h;refine L2.ar λA i=>?_;obtain⟨l,o,y,rfl,rfl,b,j,q⟩:=h;cases d;obtain⟨u,rfl,g⟩:=f.one;obtain⟨z,m,n,r,w,e⟩:=I.Kq b;refine i ?_;refine call_meets F.slot_list_append ⟨_,e,rfl⟩ F.entry_list_append (F.args_list_append_2 _ _) (PySem.list_append l m.toArray n u (by rw[ZQ];lia)) ⟨e,?_⟩;refine⟨.non,_,I.MK b e (by simp) (r.append (.cons g .nil)) ?_,rfl,q⟩;rw[Zt,Za];exact Nat.succ_le_of_lt j
def BR:V->List V->Hp->VK->Prop:=λx b H Q=>∃l a,x=.ref l/\b=[]/\H l=Z (.lst a)/\Q .non (upd H l (.lst []))
def yo:R0 X "list.clear" BR:=by
 intro a s J H x m v o Q I d f h;obtain⟨l,j,rfl,rfl,b,q⟩:=h;cases d;have i:=f.zero;subst i;obtain⟨z,g,n,r,p,e⟩:=I.Kq b;refine call_meets F.slot_list_clear ⟨_,e,rfl⟩ F.entry_list_clear (F.args_list_clear_1 _) (AutoSeq1.list_clear_list_0 l g.toArray n (by rw[ZQ];lia)) ⟨e,?_⟩;exact⟨.non,_,I.MK (ys:=[]) b e Y .nil (Yw _),rfl,q⟩
def Er:R2:=λx y H Q=>∃l b d a,x=.ref l/\y=.ref b/\H l=Z (.lst d)/\H b=Z (.lst a)/\d.length+a.length<=IR/\∀p,H p=L->Q (.ref p) (upd H p (.lst (d++a)))
def CB:OpR X (binaryOp .Add) Er:=by
 intro a s J H x y v u Q I i g h;refine L2.ar λF j=>?_;obtain⟨l,b,A,t,rfl,rfl,m,o,D,q⟩:=h;cases i;cases g;obtain⟨z,d,n,r,E,e⟩:=I.Kq m;obtain⟨w,f,C,r2,G,e2⟩:=I.Kq o;refine j ?_;refine PySem.P.add_list e e2 ?_ (by rw[ZQ,ZQ];lia);have p:d.toArray++f.toArray=(d++f).toArray:=by simp
 rw[p];exact⟨.ref _,_,I.OJ (r.append r2) (by rw[Zt];omega),rfl,q _ I.fresh⟩
end
section
set_option maxRecDepth 100000 in
end
section
variable{κ:Type}[DecidableEq κ]
noncomputable def gu(b:List (κ×V))(k:κ):Option V:=(b.find? λa=>decide (a.1=k)).map (·.2)
noncomputable def putK(b:List (κ×V))(k:κ)(v:V):List (κ×V) :=
 if (b.any λa=>decide (a.1=k))=B then b.map (λa=>if a.1=k then (a.1,v) else a) else b++[(k,v)]
def iK{p:κ×V}(e:p.1=k):gu (p :: r) k=Z p.2:=by simp[gu,Ys,e]
def mO{p:κ×V}(e:¬p.1=k):gu (p :: r) k=gu r k:=by simp[gu,Ys,e]
theorem rN(k:κ):∀a:List (κ×V),(a.any λb=>decide (b.1=k))=(gu a k).isSome
 |[]=>rfl
 |p :: r=>by
  rw[YV];by_cases e:p.1=k
  ·simp only[iK e,decide_eq_true e,Bool.true_or,Option.isSome_some]
  ·rw[mO e,ZK e,Bool.false_or];exact rN k r
def iP(a:List (κ×V))(k:κ)(v:V):(putK a k v).length<=a.length+1:=by
 unfold putK;split
 ·rw[Zy];exact YS _ _
 ·rw[Zt,Zf,List.length_nil];exact Zm _
def i3.Gr(r:i3 o u):o.isSome=u.isSome:=by
 cases o with
 |none=>cases u with
  |none=>rfl
  |some _=>exact(r).elim
 |some _=>cases u with
  |none=>exact(r).elim
  |some _=>rfl
theorem i3.getD{o:Option V}{d:V}(r:i3 o u)(b:RelV d a):RelV (o.getD d) (u.getD a):=by
 cases o with
 |none=>cases u with
  |none=>exact b
  |some _=>exact(r).elim
 |some _=>cases u with
  |none=>exact(r).elim
  |some _=>exact r
def KV.val(r:KV g d)(k:κ):i3 (gu g k) (valueAt d k):=by
 induction r with
 |nil=>exact True.intro
 |@cons p q m a h t i =>
  obtain⟨f,j⟩:=h;by_cases e:p.1=k
  ·have b:valueAt (q :: a) k=Z q.2:=by simp[valueAt,Ys,(f.symm.trans e)]
   rw[iK e,b];exact j
  ·have l:¬q.1=k:=λz=>e (f.trans z);have b:valueAt (q :: a) k=valueAt a k:=by simp[valueAt,Ys,l]
   rw[mO e,b];exact i
theorem KV.any(r:KV d b)(k:κ):(d.any λa=>decide (a.1=k))=b.any λa=>decide (a.1=k):=by
 induction r with
 |nil=>rfl
 |cons h t e=>rw[YV,YV,e,h.1]
def KV.Le(r:KV f d)(k:κ)(g:RelV y u) :
  KV (f.map λa=>if a.1=k then (a.1,y) else a) (d.map λa=>if a.1=k then (a.1,u) else a):=by
 induction r with
 |nil=>exact .nil
 |@cons p q m l h t i =>
  rw[Zi,Zi];refine .cons ?_ i;obtain⟨b,j⟩:=h;by_cases e:p.1=k
  ·rw[Zp e,Zp (b.symm.trans e)];exact⟨b,g⟩
  ·rw[Zn e,Zn (λz=>e (b.trans z))];exact⟨b,j⟩
def KV.put(r:KV d a)(k:κ)(b:RelV y u):KV (putK d k y) (stored a k u):=by
 unfold putK stored;rw[r.any k];by_cases e:(a.any λf=>decide (f.1=k))=B
 ·rw[Zp e,Zp e];exact r.Le k b
 ·rw[Zn e,Zn e];exact Paired.snoc r ⟨rfl,b⟩
def KV.keys{b:List (κ×V)}{a:List (κ×KF)}(r:KV b a):b.map (·.1)=a.map (·.1):=by
 induction r with
 |nil=>rfl
 |cons h t d=>rw[Zi,Zi,d,h.1]
theorem KV.length{b:List (κ×V)}(r:KV b a):b.length=a.length:=Xk r
end
def nt(r:RelV (kV k) u):(bF P w).is k u=B:=by
 cases k with
 |inl i=>obtain⟨t,e⟩:=(r);subst e;exact rV P w i t
 |inr x=>obtain⟨t,e⟩:=(r);subst e;exact rB P w x t
theorem ot:∀{a:List Key}{b:W5},aK (a.map kV) b->ItemsAre (bF P w) a b
 |[],_,r=>by rw[Xg]at r;cases r;exact .nil
 |k :: a,_,r=>by
  rw[Zi]at r;cases r with
  |cons h t=>exact .cons (nt h) (ot t)
abbrev KT(H:Hp):List (List Key×V)->List (List Key×KB×KF)->Prop:=Paired λp q=>p.1=q.1/\H q.2.1=Z (.tup (p.1.map kV))/\RelV p.2 q.2.2
def KT.val(r:KT H g d)(k:List Key):i3 (gu g k) ((atKey d k).map (·.2)):=by
 induction r with
 |nil=>exact True.intro
 |@cons p q m a h t i =>
  obtain⟨f,_,j⟩:=h;by_cases e:p.1=k
  ·have b:atKey (q :: a) k=Z q.2:=by simp[atKey,Ys,(f.symm.trans e)]
   rw[iK e,b];exact j
  ·have l:¬q.1=k:=λz=>e (f.trans z);have b:atKey (q :: a) k=atKey a k:=by simp[atKey,Ys,l]
   rw[mO e,b];exact i
def KT.Le(r:KT H g d)(k:List Key)(i:RelV y u) :
  KT H (g.map λb=>if b.1=k then (b.1,y) else b) (d.map (putAt k u)):=by
 induction r with
 |nil=>exact .nil
 |@cons p q n m h t j =>
  rw[Zi,Zi];refine .cons ?_ j;obtain⟨a,f,l⟩:=h;unfold putAt;by_cases e:p.1=k
  ·rw[Zp e,Zp (a.symm.trans e)];exact⟨a,f,i⟩
  ·rw[Zn e,Zn (λz=>e (a.trans z))];exact⟨a,f,l⟩
def KT.put(r:KT H d a)(k:List Key)(h:H b=Z (.tup (k.map kV)))(f:RelV y u) :
  KT H (putK d k y) (storedH a k b u):=by
 have e:(d.any λg=>decide (g.1=k))=(atKey a k).isSome:=by
  rw[rN,(r.val k).Gr,YJ]
 unfold putK storedH;rw[e];by_cases q:(atKey a k).isSome=B
 ·rw[Zp q,Zp q];exact r.Le k f
 ·rw[Zn q,Zn q];exact Paired.snoc r ⟨rfl,h,f⟩
def KT.keeps(r:KT H e d)(g:∀b a,H b=Z (.tup a)->f b=Z (.tup a)):KT f e d :=
 Paired.Kp r λ_ _ z=>⟨z.1,g _ _ z.2.1,z.2.2⟩
section
def Bv(b:GV P w H h)(e:Rd H a u):c9 P w H h a u:=e.ok b
def lJ(f:GV P w H h)(e:Rd H a (.dK b)):b.length<=IR/\(a==sysModules)=O/\∃d,KV b d/\h.DictOf (bF P w) a d :=
 Bv f e
def rC(f:GV P w H h)(e:H a=Z (.dK b)):b.length<=IR/\(a==sysModules)=O/\∃d,KV b d/\h.DictOf (bF P w) a d:=lJ f (.inl e)
def d5{b:List Key}(d:GV P w H h)(e:H a=Z (.tup (b.map kV))):(tupleKind (bF P w)).is h b a:=by
 obtain⟨_,j,r,_,o,i,g,n,f⟩:=(d a _ e)
 exact⟨o,j.toArray,n,i,g,f,by simpa using ot r⟩
def nU(g:GV P w H h)(e:Rd H a (.dT f)):f.length<=IR/\(a==sysModules)=O ∧
  ∃d,KT H f d/\h.DictOfH (tupleKind (bF P w)) a d:=by
 refine L2.ar λJ j=>?_;obtain⟨z,y,d,r,o,D,E,C,A,v,u,s⟩:=(Bv g e)
 refine j ?_;refine⟨z,y,d,r,o,D,E,C,A,v,u,λx b=>?_,s⟩;have all:∀{l:List (List Key×V)}{m:List (List Key×KB×KF)},KT H l m->∀x∈m,(tupleKind (bF P w)).is h x.1 x.2.1:=by
  intro l m q
  induction q with
  |nil=>intro x b;exact nomatch b
  |@cons p q G F i t n =>
   intro x b;rcases Zk.mp b with e | b
   ·subst e;exact d5 g (by rw[← i.1];exact i.2.1)
   ·exact n x b
 exact all r x b
def Ey(f:GV P w H h)(e:H a=Z (.dT b)):b.length<=IR/\(a==sysModules)=O ∧
  ∃d,KT H b d/\h.DictOfH (tupleKind (bF P w)) a d:=nU f (.inl e)
end
def hJ(H:Hp)(a:KB)(y:V)(r:Option V):Prop :=
 (∃d k,Rd H a (.dK d)/\y=kV k/\r=gu d k)\/∃d k b,Rd H a (.dT d)/\y=.ref b/\H b=Z (.tup (k.map kV))/\r=gu d k
def sA(H:Hp)(a:KB)(y v:V)(e:Hp):Prop :=
 (∃d k,H a=Z (.dK d)/\y=kV k/\d.length<IR/\e=upd H a (.dK (putK d k v))) ∨
 ∃d k b,H a=Z (.dT d)/\y=.ref b/\H b=Z (.tup (k.map kV))/\d.length<IR/\e=upd H a (.dT (putK d k v))
theorem hJ.k{H:Hp}{a:KB}{b:List (Key×V)}{k:Key}(e:H a=Z (.dK b)):hJ H a (kV k) (gu b k):=.inl ⟨b,k,.inl e,rfl,rfl⟩
theorem sA.k{H:Hp}{a:KB}{b:List (Key×V)}{k:Key}{v:V}(e:H a=Z (.dK b))(d:b.length<IR):sA H a (kV k) v (upd H a (.dK (putK b k v))):=.inl ⟨b,k,e,rfl,d,rfl⟩
section
def Inv.big(I:Inv X pins J H s):sysModules<s.heap.objs.size:=by
 exact Wk (by decide) ((I.mod.glob.keeps I.bk).lt)
def u9{A:P3}(q:A.units+1<cLine)(I:Inv X pins J H s)(g:hJ H a y (Z v))(n:RelV y u)(h:∀d m,Inv X pins J H m->RelV v d->Q d m) :
  KM (GM X.prog X.w) A (getItem (.ref a) u) Q E s:=by
 rcases g with⟨C,k,e,f,l⟩ | ⟨C,k,b,e,f,x,l⟩
 ·subst f;obtain⟨z,hd,G,rel,i⟩:=lJ I.oe e;obtain⟨d,hw,j⟩:=i3.some_of (v:=v) (by rw[l];exact rel.val k);exact wpAny_getItem_of (nt n) i.mapOf hw (h d _ (I.tok _) j)
 ·subst f;cases (n);obtain⟨z,hd,F,rel,i⟩:=nU I.oe e;obtain⟨d,hw,j⟩:=i3.some_of (v:=v) (by rw[l];exact rel.val k);obtain⟨p,t,D⟩:=Zu.mp hw;refine wpAny_getItem_heap (Xb q) (d5 I.oe x) i t ?_;rw[D];exact h d _ (I.tok _) j
def FA{A:P3}(m:A.units+1<cLine)(I:Inv X pins J H s)(g:hJ H a y o)(j:RelV y u)(h:∀i,Inv X pins J H i->Q (.bool o.isSome) i) :
  KM (GM X.prog X.w) A (SB .In u (.ref a)) Q E s:=by
 rcases g with⟨p,k,e,d,l⟩ | ⟨p,k,b,e,d,n,l⟩
 ·subst d;obtain⟨z,hd,x,rel,f⟩:=lJ I.oe e;refine wpAny_in_of (nt j) hd f.mapOf ?_;rw[← (rel.val k).Gr,← l];exact h _ (I.tok _)
 ·subst d;cases (j);obtain⟨z,hd,t,rel,f⟩:=nU I.oe e;refine wpAny_in_heap (Xb m) (d5 I.oe n) hd f ?_;have q:=(rel.val k).Gr;rw[YJ]at q;rw[← q,← l];exact h _ (I.tok _)
def y0{A:P3}(m:A.units+1<cLine)(I:Inv X pins J H s)(g:hJ H a y o)(j:RelV y u)(h:∀i,Inv X pins J H i->Q (.bool (!o.isSome)) i) :
  KM (GM X.prog X.w) A (SB .NotIn u (.ref a)) Q E s:=by
 rcases g with⟨p,k,e,d,l⟩ | ⟨p,k,b,e,d,n,l⟩
 ·subst d;obtain⟨z,hd,x,rel,f⟩:=lJ I.oe e;refine wpAny_notIn_of (nt j) hd f.mapOf ?_;rw[← (rel.val k).Gr,← l];exact h _ (I.tok _)
 ·subst d;cases (j);obtain⟨z,hd,t,rel,f⟩:=nU I.oe e;refine wpAny_notIn_heap (Xb m) (d5 I.oe n) hd f ?_;have q:=(rel.val k).Gr;rw[YJ]at q;rw[← q,← l];exact h _ (I.tok _)
def l5(I:Inv X pins J H s)(i:FR (H a))(j:Heap.SameBut a s.heap d)(he:∃q,d.get? a=Z q)(g:c9 X.prog X.w (upd H a f) d a f) :
  Inv X pins J (upd H a f) { s with heap:=d,toks:=h } :=
 I.write (x:=a) (e:=a) i (.inl Y) (λb q hb z=>(j.2 b hb).trans z) he g
def sL{f:SC}{e:List (Key×V)}(z:e.length<=IR)(g:(a==sysModules)=O)(d:KV e b)(h:f.DictOf (bF P w) a b) :
  c9 P w i f a (.dK e):=⟨z,g,b,d,h⟩
def u0{A:P3}(N:A.units+1<cLine)(I:Inv X pins J H s)(g:sA H a y v G)(x:RelV y u)(C:RelV v r)(h:∀t,Inv X pins J G t->Q () t) :
  KM (GM X.prog X.w) A (setItem (.ref a) u r) Q E s:=by
 rcases g with⟨p,k,e,j,l,m⟩ | ⟨p,k,b,e,j,F,l,m⟩
 ·subst j m;obtain⟨z,hd,vs,rel,n⟩:=rC I.oe e;refine wpAny_setItem_pairs (hsz:=(by rw[← rel.length];exact z)) (nt x) n λY f i=>h _ ?_;exact l5 I (by rw[e];exact True.intro) i (let ⟨q,_,_,d,_⟩:=f;⟨q,d⟩) (sL (by have:=iP p k v;lia) hd (rel.put k C) f)
 ·subst j m;cases (x);obtain⟨z,hd,xs,rel,n⟩:=Ey I.oe e;refine wpAny_setItem_heap (hsz:=(by rw[← Xk rel];exact z)) (Xb N) (d5 I.oe F) n λY f i=>h _ ?_;refine L2.ar λP_ M=>?_;obtain⟨q,es,ep,d,U,S,R,_,P⟩:=f;refine M ?_;refine l5 I (by rw[e];exact True.intro) i ⟨q,d⟩ ⟨(by have:=iP p k v;lia),hd,_,(rel.put k F C).keeps λc ys D=>?_,q,es,ep,d,U,S,R,P⟩;rw[aA (DV D e (λz=>nomatch z))];exact D
end
section
def E6(I:Inv X pins J H s)(e:Rd H a (.dK cg))(h:∀t b,Inv X pins J H b->Q (.int cg.length t) b):KM (GM X.prog X.w) A (call (.builtin "len") [.ref a]) Q E s:=by
 obtain⟨z,hd,f,rel,d⟩:=lJ I.oe e;refine call_len_dict hd d (by rw[← rel.length];rw[YO]at z;lia) ?_;rw[← rel.length];exact h _ _ (I.tok _)
end
def rO(I:Inv X d J H s)(g:hJ H a y o):s.TypeIs (.ref a) "dict" := by
 rcases g with⟨h,k,e,_,_⟩ | ⟨h,k,b,e,_,_,_⟩
 ·obtain⟨_,_,j,_,f⟩:=lJ I.oe e;exact f.typeIs
 ·obtain⟨_,_,i,_,f⟩:=nU I.oe e;exact f.typeIs
def qo{w:SL}(h:SC)(a:sysModules<h.objs.size):c9 P w H (h.push { cls:=.type "dict",data:=.dict #[] }) h.objs.size (.dK []) :=
 ⟨Yw _,ZO.mpr (Ya (Zg a)),[],.nil,Heap.DictOf.new h⟩
def CH:TE:=λ_ H Q=>∀p,H p=L->Q (.ref p) (upd H p (.dK []))
section
def ye:PE X (.Dict [] [] pos) CH:=λa s J H Q I h =>
 wpAny_Dict_empty ⟨.ref s.heap.objs.size,_,I.laid (λ_ _ q=>Zo _ q) (Zm _) (qo s.heap I.big),rfl,h _ (I.oe.fresh (Zm _))⟩
end
noncomputable def tF:List (TE×TE)->St->Hp->(List (V×V)->Hp->Prop)->Prop
 |[],_,H,Q=>Q [] H
 | (b,a) :: r,J,H,Q=>b J H λx g=>a J g λy f=>tF r J f λd e=>Q ((x,y) :: d) e
abbrev VV:List (V×V)->List (KF×KF)->Prop:=Paired λp q=>RelV p.1 q.1/\RelV p.2 q.2
def PPs(X:Cx)(e:Pos)(d:List (Option Expr))(a:List Expr)(j:List (TE×TE)):Prop :=
 ∀(b:Xl)(s:FS)(J:St)(H:Hp)(Q:List (V×V)->Hp->Prop),Inv X b J H s->tF j J H Q →
  KM (GM X.prog X.w) X.A (evalPairs (pairTrees d a X.env e)) (λh i=>∃f g,Inv X b J g i/\VV f h/\Q f g) X.xe s
def AV:PPs X a [] [] []:=λb s J H Q I h=>pairTrees_nil_walk ⟨[],H,I,.nil,h⟩
def yc(z:PE X k f)(t:PE X v e)(w:PPs X b g d i) :
  PPs X b (Z k :: g) (v :: d) ((f,e) :: i):=λa s J H Q I h =>
 pairTrees_cons_walk (thn (z a s J H _ I h) λu l ⟨x,G,D,n,q⟩=>thn (t a l J G _ D q) λM j ⟨y,F,C,m,p⟩ =>
  thn (w a j J F _ C p) λws N ⟨r,E,A,rel,o⟩=>⟨(x,y) :: r,E,A,.cons ⟨n,m⟩ rel,o⟩)
def pz(d a:List (Key×V)):List (Key×V):=a.foldl (λacc b=>putK acc b.1 b.2) d
def KV.merge:∀{more:List (Key×V)}{rs:List (Key×KF)}{b:List (Key×V)}{a:List (Key×KF)},KV more rs->KV b a->KV (pz b more) (merged a rs):=by
 intro more rs b a r
 induction r generalizing b a with
 |nil=>intro q;exact q
 |@cons p q i g h t f =>
  intro d;have e:KV (putK b p.1 p.2) (stored a q.1 q.2):=by
   have:=d.put p.1 h.2;rw[← h.1];exact this
  exact f e
theorem jl:∀(more a:List (Key×V)),(pz a more).length<=a.length+more.length
 |[],a=>by exact YS _ _
 |p :: r,a=>by
  have d:=jl r (putK a p.1 p.2);have b:=iP a p.1 p.2;show (pz (putK a p.1 p.2) r).length<=_;rw[Zf];lia
theorem mV{P:Pv}{w:SL}:∀{d:List (Key×V)}{ws:List (KF×KF)},VV (d.map λe=>(kV e.1,e.2)) ws->∃rs,Carries (bF P w) ws rs/\KV d rs
 |[],_,r=>by rw[Xg]at r;cases r;exact⟨[],True.intro,.nil⟩
 |p :: d,_,r=>by
  rw[Zi]at r;cases r with
  |@cons a b i bs h t =>
   obtain⟨rs,c,q⟩:=mV (P:=P) (w:=w) t;obtain⟨g,f⟩:=b;exact⟨(p.1,f) :: rs,⟨nt h.1,rfl,c⟩,.cons ⟨rfl,h.2⟩ q⟩
def D6(f:List (TE×TE)):TE:=λJ H Q=>∀p,H p=L->tF f J (upd H p (.dK [])) λe d=>d p=Z (.dK [])/\∃a:List (Key×V),e=a.map (λb=>(kV b.1,b.2))/\a.length<=15/\Q (.ref p) (upd d p (.dK (pz [] a)))
def zI(h:PPs X d a b i)(F:a.all (·.isSome)=B)(t:a.length=b.length)(x:a≠[])(D:a.length<=15):PE X (.Dict a b d) (D6 i):=by
 intro f s J H Q I q;have E:=I.laid (t':=s.toks) (λ_ _ q=>Zo _ q) (Zm _) (qo s.heap I.big);refine wpAny_Dict_walk (knd:=bF X.prog X.w) F t x D (thn (h f _ J _ _ E (q _ (I.oe.fresh (Zm s.heap.objs.size)))) λws G u=>?_);obtain⟨M,S,j,rel,e,C,y,lk,n⟩:=u;refine L2.ar λR o=>?_;subst y;obtain⟨rs,c,l⟩:=mV (w:=X.w) rel;obtain⟨z,hd,P,m,A⟩:=rC j.oe e;cases m;refine o ?_;refine⟨rs,c,A,λN g p=>⟨.ref s.heap.objs.size,_,?_,rfl,n⟩⟩;exact l5 j (by rw[e];exact True.intro) p (let ⟨q,_,_,r,_⟩:=g;⟨q,r⟩) (sL (by
  have v:=jl C [];rw[List.length_nil]at v;rw[YO];lia) hd (l.merge .nil) g)
structure U6(X:Cx)(o:Expr)(m:Str)(apos:Pos)(e:Expr)(cp:Pos):Prop where
 base:SZ o m X.env (eval o X.env)=eval o X.env
 GB:((backTo cp (PP [e] X.env)).all (λx=>!x.1)&&(backToKw cp (Re [] X.env)).all (λx=>x.1.isSome)
  && decide (([e]:List Expr).length+([]:List Keyword).length+(if ([]:List Keyword).isEmpty then 0 else 1)<30))=true
 line:(apos.endLine==cp.line)=true
 trees:backTo cp (PP [e] X.env)=[(false,eval e X.env)]
def R4(H:Hp)(a:KB):Prop:=(∃b,Rd H a (.dK b))\/∃b,Rd H a (.dT b)
def Dh(I:Inv X g J H s)(d:R4 H a) :
  s.TypeIs (.ref a) "dict" ∧ (∀b,Value.ref a=.ref b->∃f,s.heap.get? b=Z f/\f.dict=L)/\(a==sysModules)=O:=by
 rcases d with⟨l,e⟩ | ⟨l,e⟩
 ·obtain⟨_,hd,n,_,h⟩:=lJ I.oe e;refine⟨h.typeIs,λb q=>?_,hd⟩;cases q;obtain⟨f,_,_,j,i,_⟩:=h;exact⟨f,j,i.2.1⟩
 ·obtain⟨_,hd,m,_,h⟩:=nU I.oe e;refine⟨h.typeIs,λb q=>?_,hd⟩;cases q;obtain⟨f,_,_,j,i,_⟩:=h;exact⟨f,j,i.2.1⟩
section
def Co{A:P3}(q:A.units+1<cLine)(I:Inv X pins J H s)(g:hJ H a y o)(n:RelV y u)(h:∀j m,Inv X pins J H m->RelV (o.getD .non) j->Q j m) :
  KM (GM X.prog X.w) A (call (.builtin "dict.get") [.ref a,u]) Q E s:=by
 rcases g with⟨v,k,e,i,l⟩ | ⟨v,k,b,e,i,t,l⟩
 ·subst i;obtain⟨z,hd,x,rel,f⟩:=lJ I.oe e;refine call_meetsIn X8 f.typeIs PySem.F.entry_dict_get (PySem.F.args_dict_get_2 _ _) (meets_dict_get (bF X.prog X.w) a (nt n) hd) ⟨_,f.mapOf,h _ _ (I.tok _) ?_⟩;rw[l];exact(rel.val k).getD Y
 ·subst i;cases (n);obtain⟨z,hd,p,rel,f⟩:=nU I.oe e;refine call_meetsIn X8 f.typeIs PySem.F.entry_dict_get (PySem.F.args_dict_get_2 _ _) (meetsH_dict_get (tupleKind (bF X.prog X.w)) a b hd) ⟨Xb q,k,p,d5 I.oe t,f,h _ _ (I.tok _) ?_⟩;rw[l];exact(rel.val k).getD Y
end
def De(f e:TE):TE:=λJ H Q=>f J H λx d=>∃a,x=.ref a/\R4 d a/\e J d λy b=>∃o,hJ b a y o/\Q (o.getD .non) b
section
def vN{X:Cx}(t:X.A.units+1<cLine)(v:PE X o td)(he:PE X e ty)(m:U6 X o "get" apos e cp):PE X (.Call (.Attribute o "get" apos) [e] [] cp) (De td ty):=by
 intro b s J H Q I h;refine wpAny_Call_method m.base m.GB m.line PySem.F.plainAttrs_dict X8 PySem.F.type_dict_get (thn (v b s J H _ I h) λu l w=>?_);obtain⟨x,G,i,p,a,ex,d,r⟩:=w;subst ex;obtain rfl:u=Value.ref a:=p;obtain⟨j,t2,_⟩:=Dh i d;refine⟨j,t2,?_⟩;rw[m.trees];refine Ws Y (Calls.evalArgs_plain (Calls.spliced_cons (thn (he b l J G _ i r) λiv P ⟨y,E,D,n,R,g,q⟩=>Calls.spliced_nil ?_)));exact Co t D g n λM N C z=>⟨_,E,C,z,q⟩
end
end L2
namespace R9
open PySem PySem.W PySem.Calls PyProof.Rows
def lN:∀(ns:W8)(d:W5),WellAll P h d (ns.map WData.int)->IntsAre d ns:=by
 intro ns
 induction ns with
 |nil =>
  intro d w;rw[Xg]at w;cases w;exact .nil
 |cons n ns e =>
  intro d w;rw[Zi]at w;cases w with
  |cons a b =>
   cases a;exact .cons _ _ (e _ b)
def vi{l:OpenLaw}(t:l.most=Z n)(f:l.row.toRowW.claim.pre b=B)(g:WellAll P h e b) :
  ∃a j ns,e=[Value.ref a]/\b=[WData.list (ns.map WData.int)]/\h.get? a=Z { cls:=.type "list",data:=.seq j.toArray }/\IntsAre j ns/\ns.length<=n:=by
 have u:l.pre.holds [] { args:=b }=B:=(pre_splitW f).2;obtain⟨d,r,rfl,x,w⟩:=hasAllW_cons ((pre_splitW f).1);obtain rfl:=hasAllW_nil w;obtain⟨z,rfl,v⟩:=hasW_list x;obtain⟨ns,rfl⟩:=items_int v;have hlen:ns.length<=n:=by
  have i:=condW_of (by
   have m:=(holds_andW u).1;rw[t]at m;exact m) (w_not (w_lt w_lit (w_len_list (w_arg Y))))
  rw[Zy]at i;refine ZP λq=>?_
  first
   | (rw[decide_eq_true (by omega)]at i;exact absurd i (by decide))
   | (omega)
 cases g with
 |cons p o =>
  cases o;cases p with
  |list s y=>exact⟨_,_,ns,rfl,rfl,s,lN ns _ y,hlen⟩
def uT(l:OpenLaw)(a:List WData):l.row.toRowW.claim.post a (.bool B) a=B :=
 postW_of
  (by first | rfl | decide | simp[WShape.has,WShape.arms,WShape.armsAll])
  (w_eq_bool (w_res Y) w_lit) Y
def qI{l:OpenLaw}{d:DefRec}(F:l.most=Z n)(R:d.params.defaults=[])(j:∀(w:SL)(p b:FS)(mg s:W3)(i:KB)(o:Obj)(pm cd doc:KF)(a:KB)(g:W5)(ns:W8),
   Ground q e [] A w p mg s b.heap->z w b.heap →
   b.heap.get? i=Z o->o.data=.func (docDef d.name d.params d.body d.scope pm cd doc)->b.heap.CodeRec cd d.name->mg d.name=Z (.ref i) →
   b.heap.get? a=Z { cls:=.type "list",data:=.seq g.toArray }->IntsAre g ns->ns.length<=n->b.gens=#[] →
   codeAny (GM l.prog w) callerA (.call (.ref i) ⟨[.ref a],[]⟩) (λr m=>r=.ok (.ret (.bool B))/\OldK b.heap m.heap/\m.os=b.os/\AllBare m.gens) b) :
  WalkO q e A z l.row.toRowW d [] (λf g=>PySem.call f g):=by
 intro w p b mg s G Y i o pm cd doc Q kV E hd v y u hg args vals U h x C t J;obtain rfl:Q=.none:=Dflts.none y R;obtain rfl:kV=.none:=Dflts.noKw y;obtain⟨a,g,ns,rfl,rfl,S,hints,hlen⟩:=vi F h t;refine enter_call (XU (j w p b mg s i o pm cd doc a g ns G Y E (fd_plain hd) v u S hints hlen hg) λr m D=>?_);obtain⟨rfl,P,N,M⟩:=D;exact⟨.inl ⟨.bool B,.bool B,[],rfl,λ_=>rfl,.bool B,uT l _,λ_=>⟨List.Pairwise.nil,λ_ H=>(nomatch H)⟩⟩,P,N,M⟩
end R9
namespace L2
open PySem PySem.Spec PyProof.Rows
theorem oB:∀{a:W5}{ns:W8},IntsAre a ns->aK (ns.map V.int) a
 |_,_,.nil=>.nil
 |_,_,.cons n t h=>.cons ⟨t,rfl⟩ (oB h)
noncomputable def xI(H:Hp):Prop:=∀b,H b=L\/∃o a,H b=Z (.frz o (.lst a))
def yT{K:W0}{f:FS}{j:W5}(KX:K.In f.heap)(NS:f.heap.Ns mainGlobals p)(g:f.heap.Ns builtinsNs D)(Rg:∀x:Str,x ≠ "__name__" → D x=bootBuiltins x)(OV:f.heap.NoLimit)(hg:f.gens=#[])(t:f.heap.get? a=Z { cls:=.type "list",data:=.seq j.toArray })(R:IntsAre j l)(Q:l.length<=IR)(hr:jj k callerA)(F:∀base:SC,K.In base->base.Ns mainGlobals p->FnOk P w K p base CX k G X [x] M)(MX:∀(s:FS)(u:KF),BindsTo s X ⟨[u],[]⟩ [(x,u)])(JY:∀H:Hp,xI H->FT K H a (l.map V.int)->M [.ref a] H (λv _=>v=.bl B) λ_ _ _=>False)(Pc:∀H e i,CX [] H f (λ_ _ _=>False) e i->False) :
  codeAny (GM P w) callerA (.call (.ref G) ⟨[.ref a],[]⟩) (λr i=>r=.ok (.ret (.bool B))/\OldK f.heap i.heap/\i.os=f.os/\AllBare i.gens) f:=by
 have N:=oB R;have core:∀H:Hp,xI H->FT K H a (l.map V.int)->GV P w H f.heap->(∀b,H b≠L->b=a)->(H a≠L->K.lookup a=L) →
   codeAny (GM P w) callerA (.call (.ref G) ⟨[.ref a],[]⟩) (λr i=>r=.ok (.ret (.bool B))/\OldK f.heap i.heap/\i.os=f.os/\AllBare i.gens) f:=by
  intro H S hS oe U hK;have IX:∀{b:KB}{o:Obj},f.heap.get? b=Z o->H b=L->(qT f.heap H).get? b=Z o:=λe n=>wR e n;have MG:∀{b:KB}{o:Obj}{y:Array DictEntry}{A:Nat},f.heap.get? b=Z o->o.data=.dict y A->H b=L:=λ{b o y A} e d=>by
   cases q:H b with
   |none=>rfl
   |some u =>
    have J:b=a:=U b (by rw[q];simp);subst J;rw[t]at e;cases e;cases d
  have C:∀{b:KB}{m:W3},f.heap.Ns b m->(qT f.heap H).Ns b m:=λ{b m} ⟨o,y,A,e,d,r⟩=>⟨o,y,A,IX e (MG e d),d,r⟩
  have Rj:=λb o e=>IX (KX b o e) (by
   cases q:H b with
   |none=>rfl
   |some u =>
    have J:b=a:=U b (by rw[q];simp);subst J;rw[hK (by rw[q];simp)]at e;cases e)
  have hM:Mod K p (qT f.heap H):=⟨Rj,C NS,⟨D,C g,Rg⟩,let ⟨mc,h1,h2⟩:=OV;⟨mc,C h1,h2⟩⟩
  refine XU ((F _ Rj (C NS)).run callerA [] f H ⟨[.ref a],[]⟩ [.ref a] [.ref a] _ _ hr (⟨rfl,hM,λb q e=>(yU.mp e).1,λb o e=>Ar e,Xu (uV _ _),trivial,λb g=>absurd (show b∈([]:W4) from g) (by simp),oe,.of_eq hg⟩) (MX f (.ref a)) (.cons Y .nil) (JY H S hS)) λr i h=>?_;cases r with
  |error e=>exact(Pc H e i h).elim
  |ok fl =>
   cases fl with
   |next=>exact False.elim h
   |brk=>exact False.elim h
   |cont=>exact False.elim h
   |ret u =>
    obtain⟨v,H',os,bare,un,OR,r',q⟩:=h;subst q;obtain rfl:u=Value.bool B:=r';refine⟨rfl,OldK.of_keep λb o e=>?_,os,bare⟩;cases q:H b with
    |none=>exact un.keep b o e q (by intro z;exact absurd (show b∈([]) from z) (by simp)) (by simp)
    |some u =>
     rcases S b with z | ⟨ob,xs,z⟩
     ·rw[q]at z;cases z
     ·obtain⟨e1,_⟩:=oe b _ z;obtain⟨e2,_⟩:=OR b _ (un.HL b ob _ z);rw[e]at e1;cases e1;exact e2
 cases E:K.lookup a with
 |some o =>
  have e:=KX a o E;rw[t]at e;cases e;refine core (λ_=>L) (λ_=>.inl Y) (.inr ⟨_,j.toArray,_,E,rfl,rfl,rfl,by rw[ZQ,R.length];exact Q,by simpa using N⟩) (λb u z=>by cases z) (λb z=>absurd Y z) λz=>absurd Y z
 |none =>
  refine core (λb=>if b=a then Z (.frz { cls:=.type "list",data:=.seq j.toArray } (.lst (l.map V.int))) else L) (λb=>?_) (.inl (.inr ⟨{ cls:=.type "list",data:=.seq j.toArray },Zp Y⟩)) (λb u z=>?_) (λb z=>?_) λ_=>E
  ·by_cases g:b=a
   ·exact .inr ⟨_,_,Zp g⟩
   ·exact .inl (Zn g)
  ·by_cases g:b=a
   ·cases ((Zp g).symm.trans z);subst g;exact⟨t,by rw[Zy];exact Q,j,_,N,t⟩
   ·cases ((Zn g).symm.trans z)
  ·by_cases g:b=a
   ·exact g
   ·exact absurd (Zn g) z
def jh{l:PySem.W.OpenLaw}{n k:Nat}{q:Pv}{i:List Str}{R:(W3)->SC->Prop}{y:SL->SC->Prop}{d:DefRec}{K:Params->W0}{A:SL->Jr}{t:SL->Sp}{x:Str}(E:l.most=Z n)(U:n<=IR)(X:d.params.defaults=[])(D:jj k callerA)(M:∀(w:SL)(h:SC),y w h->(K w.params).In h)(F:∀(w:SL)(mg:W3)(j:KB)(h:SC),(K w.params).In h->h.Ns mainGlobals mg->mg d.name=Z (.ref j) →
   ∃fd:Pi,(∀(s:FS)(u:KF),BindsTo s fd ⟨[u],[]⟩ [(x,u)]) ∧
    ∀base:SC,(K w.params).In base->base.Ns mainGlobals mg->FnOk l.prog w (K w.params) mg base (A w) k j fd [x] (t w))(JY:∀(w:SL)(H:Hp)(a:KB)(ns:W8),ns.length<=n->xI H->FT (K w.params) H a (ns.map V.int)->t w [.ref a] H (λv _=>v=.bl B) λ_ _ _=>False)(S:∀(w:SL)(H:Hp)(s:FS)(e:KF)(m:FS),A w [] H s (λ_ _ _=>False) e m->False) :
  PySem.W.WalkO q i R y l.row.toRowW d [] (λf r=>PySem.call f r):=by
 refine R9.qI E X λw s₀ C mg mb j o pm cd doc a r ns G Y ho hd J p Lu hints hlen hg=>?_;have z:=M w _ Y;obtain⟨fd,hb,Q⟩:=F w mg j _ z G.T.g p;exact yT z G.T.g G.T.b G.T.builtins G.T.nolimit hg Lu hints (ZY hlen U) D Q hb (λH P N=>JY w H a ns hlen P N) λH e m=>S w H C e m
noncomputable def inClass(s:Stmt)(j:Nat):Stmt:=match s with
 |.ClassDef _ _ _ body _ _ _ _ _ _ _=>body.getD j (.Pass ⟨0,0,0,0⟩)
 |_=>.Pass ⟨0,0,0,0⟩
noncomputable def cG(s:Stmt):Arguments:=match s with
 |.FunctionDef _ a _ _ _ _ _ _ _ _=>a
 |_=>{ posonlyargs:=[],args:=[],vararg:=L,kwonlyargs:=[],kw_defaults:=[],kwarg:=L,defaults:=[] }
noncomputable def aY(s:Stmt):List Stmt:=match s with
 |.FunctionDef _ _ b _ _ _ _ _ _ _=>b
 |_=>[]
noncomputable def ai(s:Stmt):Scope:=match s with
 |.FunctionDef _ _ _ _ _ _ sc _ _ _=>sc
 |_=>{ kind:=.function,names:=[],isGenerator:=O,isCoroutine:=O }
noncomputable abbrev GF:Jr:=λ_ _ _ _ _ _=>False
noncomputable abbrev E0:XK:=λ_ _ _=>False
def lD{X:Cx}:iY GF X E0:=λ_ _ _ _ _ _ _ h=>h.elim
structure xh(K:W0)(x qual:Str)(st:Stmt)(f:KB)(fd:Pi):Prop where
 ex:∃(oc:KF)(od:Option KB)(kV doc pm:KF)(an:Option KB)(xb ct:KF)(Je:Array (W6)),
  fd=PySem.W.fnOf x qual (cG st) (aY st) (ai st) .none kV doc pm an xb ct/\K.lookup f=some ⟨oc,od,.func fd,Je⟩/\PySem.W.codeIn K xb qual=true
 kp:PySem.W.keepIn K (.ref f)=true
section
variable{K:W0}
def xh.ok(F:xh K x a d f m)(S:bt N i (ai d))(j:∀b H Q E,g b H Q E->b.length=i.length)(p:∀(e:KF)(A:P3)(outer:List Env)(s:FS)(H:Hp)(b:List V)(Q:VK)(E:XK),jj k (A.deeper (envOfC a (ai d) s.heap.objs.size f e))->g b H Q E →
   ∃t,Hq (jI GF P w K mg base N a (ai d) f e A outer s H E).IC (aY d) t/\t { nx:=λ_ r=>Q .non r,rt:=Q } (start N b) H):FnOk P w K mg base GF (k+1) f m i g:=by
 obtain⟨oc,u,kV,doc,pm,an,e,ct,v,rfl,lk,l⟩:=F.ex;refine A7 lk l S j λA outer s H b Q E n o=>?_;obtain⟨t,h,q⟩:=p e A outer s H b Q E n o;exact⟨t,h.IC,q⟩
def xh.binds{g:List Str}(F:xh K x a b f i)(h:∀(kV doc pm:KF)(an:Option KB)(d ct:KF)(e:W5),e.length=g.length->bindArgs (PySem.W.fnOf x a (cG b) (aY b) (ai b) .none kV doc pm an d ct) ⟨e,[]⟩=pure (g.zip e)):Binds K i g []:=by
 obtain⟨oc,l,kV,doc,pm,an,d,ct,m,rfl,lk,j⟩:=F.ex;exact .all (h kV doc pm an d ct)
def xM{st:Stmt}(l:K.lookup f=Z ⟨m,j,.func (PySem.W.fnOf x a (cG st) (aY st) (ai st) .none g b e i d h),n⟩)(c:PySem.W.codeIn K d a=B)(k:PySem.W.keepIn K (.ref f)=B):xh K x a st f (PySem.W.fnOf x a (cG st) (aY st) (ai st) .none g b e i d h):=⟨⟨m,j,g,b,e,i,d,h,n,rfl,l,c⟩,k⟩
end
def kh(a:jj k A):A.units+1<cLine:=YA (Nat.add_le_add_left (by decide:1<=64) _) a.units
section
def pv{X:Cx}(i:Nat)(f:{`q2,X.N[i]?=Z x})(d:{`q5,Iw X.env.scope x})(e:{`q1,K3 x})(b:{`q1,K4 x}):PE X (.Name x a) (DL i):=fZ f d e b
end
def xq{A B:Prop}(h:B):if O=true then A else B:=by
 rw[Zn Zc];exact h
def xx{A B:Prop}(h:A):if true=true then A else B:=by
 rw[Zp Y];exact h
noncomputable def aJ(H a:Hp):Prop:=∀b o,H b=Z o->a b=Z o
def aJ.refl(H:Hp):aJ H H:=λ_ _ h=>h
def aJ.trans(a:aJ H e)(b:aJ e d):aJ H d:=λc o h=>b c o (a c o h)
def aJ.free(e:aJ H a)(h:a l=L):H l=L:=by
 cases q:H l with
 |none=>rfl
 |some o =>
  rw[e l o q]at h;cases h
end L2
end
section
namespace L2
open PySem PySem.Spec PyProof.Rows
abbrev nY:=List (List Key)
def hN(w:SL)(k:nY):Int:=reduceHash (Builtin.Tuple.tupleHashOf (k.map λx=>reduceHash (Builtin.Tuple.tupleHashOf (x.map (EU w)))))
def FI(w:SL)(x:nY×KB×KF):DictEntry:=⟨hN w x.1,.ref x.2.1,x.2.2⟩
abbrev KN:List (nY×KB×V)->List (nY×KB×KF)->Prop:=Paired λp q=>p.1=q.1/\p.2.1=q.2.1/\RelV p.2.2 q.2.2
def DN(a:KB)(e:List (nY×KB×V)):HO:=.ext λw h=>e.length<=IR/\(a==sysModules)=O/\∃b:List (nY×KB×KF),KN e b ∧
 ∃o d f,h.get? a=Z o/\o.ExactDict/\o.data=.dict d f/\d.toList=b.map (FI w)/\(b.map (·.1)).Nodup
def N8(H:Hp)(k:nY)(b:KB):Prop:=∃a:W4,H b=Z (.tup (a.map V.ref))/\Paired (λ(x:List Key) (c:KB)=>H c=Z (.tup (x.map kV))) k a
def N8.mono{k:nY}(x:N8 H k b)(t:∀a d,H a=Z (.tup d)->e a=Z (.tup d)):N8 e k b:=by
 obtain⟨f,h,r⟩:=x;exact⟨f,t _ _ h,Paired.Kp r λ_ _ z=>t _ _ z⟩
end L2
end
section
namespace VS
open PySem PySem.Spec PyProof.Rows L2
noncomputable def sx(s:Tx):Str:=⟨s.toArray⟩
def lz(s:Tx):Prop:=s.length<=dq/\∀c∈s,c<1114112
noncomputable abbrev Me:=Nat->Option V
structure Gx where
 K:W0
 ct:Nat->KB×(Nat->Str)
 me:Me:=λ_=>none
noncomputable def Gx.at(G:Gx)(m:Me):Gx:=⟨G.K,G.ct,m⟩
noncomputable def aT:Key->T
 |.inl i=>.int i
 |.inr x=>.str x.cps.toList
def SO(k:nY):T:=.tup (k.map λx=>T.tup (x.map aT))
def jS(K:W0)(H:Hp)(a:KB)(d:W8):Prop :=
 (∃o,H a=Z (.frz o (.lst (d.map V.int)))) ∨
  ∃(o:Obj)(b:Array KF)(n:Nat),K.lookup a=Z o/\o.cls=.type "list" ∧ o.dict=L/\o.data=.seq b n/\b.size<=IR/\aK (d.map V.int) b.toList
mutual
inductive Rp(G:Gx)(H:Hp):V->T->W4->Prop
 |non:Rp G H .non .non []
 |bl (b:Bool):Rp G H (.bl b) (.bl b) []
 |int (i:Int):Rp G H (.int i) (.int i) []
 |str (s:Tx):lz s->Rp G H (.str (sx s)) (.str s) []
 |scr {a:KB} {ns:W8}:jS G.K H a ns->Rp G H (.ref a) (.scr ns) []
 |tup {a:KB} {vs:List V} {ts:Vw} {Fs:Wm}:H a=some (.tup vs)->RpL G H vs ts Fs->Rp G H (.ref a) (.tup ts) Fs.flatten
 |lst {a:KB} {vs:List V} {ts:Vw} {Fs:Wm}:H a=some (.lst vs)->RpL G H vs ts Fs->Rp G H (.ref a) (.lst ts) (a :: Fs.flatten)
 |dct {a:KB} {ks:List Key} {vs:List V} {ts:Vw} {Fs:Wm}:H a=some (.dK (ks.zip vs))->ks.length=vs.length->RpL G H vs ts Fs->Rp G H (.ref a) (.dct 0 ((ks.map aT).zip ts)) (a :: Fs.flatten)
 |dctT {a:KB} {ks:List (List Key)} {vs:List V} {ts:Vw} {Fs:Wm}:H a=some (.dT (ks.zip vs))->ks.length=vs.length->RpL G H vs ts Fs->Rp G H (.ref a) (.dct 1 ((ks.map λk=>T.tup (k.map aT)).zip ts)) (a :: Fs.flatten)
 |dctN {a:KB} {ks:List (nY×KB)} {vs:List V} {ts:Vw} {Fs:Wm}:H a=some (DN a ((ks.zip vs).map λp=>(p.1.1,p.1.2,p.2)))->ks.length=vs.length->(∀p∈ks,N8 H p.1 p.2)->RpL G H vs ts Fs->Rp G H (.ref a) (.dct 2 ((ks.map λp=>SO p.1).zip ts)) (a :: Fs.flatten)
 |dctZ {a:KB} {o:Obj} {ks:List Key} {vs:List V} {ts:Vw} {Fs:Wm}:H a=some (.frz o (.dK (ks.zip vs)))->ks.length=vs.length->RpL G H vs ts Fs->Rp G H (.ref a) (.dct 3 ((ks.map aT).zip ts)) Fs.flatten
 |exc {c:Nat} {a:KB} {o:Obj}:H a=some (.frz o (.own a))->(o.cls=.ref (G.ct c).1/\o.dict=none/\∃vs,o.data=.fields vs)->Rp G H (.ref a) (.obj c []) []
 |ins {c:Nat} {a dx:KB} {b:Bool} {ks:W7} {vs:List V} {ts:Vw} {Fs:Wm}:H a=some (.ins (G.ct (c+1)).1 dx ((ks.map (G.ct (c+1)).2).zip vs))->ks.length=vs.length->(b=true->G.me 0=some (.ref a))->RpL G H vs ts Fs->Rp G H (.ref a) (.obj (c+1) ((0,.bl b) :: ks.zip ts)) (a :: Fs.flatten)
 |mk {m:Nat} {a:KB} {t:T} {F:W4}:G.me m=some (.ref a)->Rp G H (.ref a) t F->Rp G H (.ref a) (.obj 0 [(0,.bl true),(m,t)]) F
inductive RpL(G:Gx)(H:Hp):List V->Vw->Wm->Prop
 |nil:RpL G H [] [] []
 |cons {v:V} {t:T} {F:W4} {vs:List V} {ts:Vw} {Fs:Wm}:Rp G H v t F->RpL G H vs ts Fs->RpL G H (v :: vs) (t :: ts) (F :: Fs)
end
def RY(G:Gx)(H:Hp)(v:V)(F:W4):T->Prop
 |.non=>v=.non
 |.bl b=>v=.bl b
 |.int b=>v=.int b
 |.str b=>v=.str (sx b)/\lz b
 |.scr l=>∃a,v=.ref a/\F=[]/\jS G.K H a l
 |.tup l=>∃a e f,v=.ref a/\F=f.flatten/\H a=Z (.tup e)/\RpL G H e l f
 |.lst l=>∃a e f,v=.ref a/\F=a :: f.flatten/\H a=Z (.lst e)/\RpL G H e l f
 |.dct d l=>match d with
  |0=>∃(a:KB)(g:List Key)(e:List V)(h:Vw)(f:Wm),v=.ref a/\F=a :: f.flatten/\H a=Z (.dK (g.zip e))/\g.length=e.length/\l=(g.map aT).zip h/\RpL G H e h f
  |3=>∃(a:KB)(o:Obj)(g:List Key)(e:List V)(h:Vw)(f:Wm),v=.ref a/\F=f.flatten/\H a=Z (.frz o (.dK (g.zip e)))/\g.length=e.length/\l=(g.map aT).zip h/\RpL G H e h f
  |_=>True
 |.obj c fs=>match c,fs with
  |c+1,j :: fs=>∃(i:Nat)(a n:KB)(b:Bool)(g:W7)(e:List V)(h:Vw)(f:Wm),c+1=i+1/\v=.ref a/\j=(0,.bl b)/\fs=g.zip h/\F=a :: f.flatten/\H a=Z (.ins (G.ct (i+1)).1 n ((g.map (G.ct (i+1)).2).zip e))/\g.length=e.length/\(b=B->G.me 0=Z (.ref a))/\RpL G H e h f
  |0,fs=>∀m t,fs=[(0,.bl B),(m,t)]->∃a,v=.ref a/\G.me m=Z (.ref a)/\Rp G H (.ref a) t F
  |_,_=>True
def Rp.inv(r:Rp G H v t F):RY G H v F t:=by
 cases r with
 |str s h=>exact⟨rfl,h⟩
 |scr h=>exact⟨_,rfl,rfl,h⟩
 |tup h q=>exact⟨_,_,_,rfl,rfl,h,q⟩
 |lst h q=>exact⟨_,_,_,rfl,rfl,h,q⟩
 |dct h a q=>exact⟨_,_,_,_,_,rfl,rfl,h,a,rfl,q⟩
 |dctZ h a q=>exact⟨_,_,_,_,_,_,rfl,rfl,h,a,rfl,q⟩
 |@exc c=>exact Nat.casesOn (motive:=λc=>RY G H _ [] (.obj c [])) c (λ_ _ e=>nomatch e) λ_=>trivial
 |ins h l m q=>exact⟨_,_,_,_,_,_,_,_,rfl,rfl,rfl,rfl,rfl,h,l,m,q⟩
 |mk h q=>exact λ_ _ e=>by cases e;exact⟨_,rfl,h,q⟩
 |dctT _ _ _=>trivial
 |dctN _ _ _ _=>trivial
 |_=>rfl
structure Kept(H H':Hp):Prop where
 tup:∀a xs,H a=some (.tup xs)->H' a=some (.tup xs)
 frz:∀a o u,H a=some (.frz o u)->H' a=some (.frz o u)
def Kept.refl(H:Hp):Kept H H:=⟨λ_ _ h=>h,λ_ _ _ h=>h⟩
def Kept.trans(a:Kept H e)(b:Kept e d):Kept H d:=⟨λc x h=>b.tup c x (a.tup c x h),λc o u h=>b.frz c o u (a.frz c o u h)⟩
def Kept.of(e:aJ H b):Kept H b:=⟨λa _ h=>e a _ h,λa _ _ h=>e a _ h⟩
theorem Kept.upd{H:Hp}(d:FR (H a)\/H a=L):Kept H (upd H a o):=by
 have ne:∀b u,H b=Z u->¬FR (Z u)->b≠a:=λb u h nm e=>by
  subst e;rcases d with m | m
  ·rw[h]at m;exact nm m
  ·rw[h]at m;cases m
 exact⟨λb f h=>by rw[aA (ne b _ h λz=>z)];exact h,λb o u h=>by rw[aA (ne b _ h λz=>z)];exact h⟩
def jS.kept{K:W0}(h:jS K H a b)(k:Kept H d):jS K d a b:=by
 rcases h with⟨o,e⟩ | h
 ·exact .inl ⟨o,k.frz _ _ _ e⟩
 ·exact .inr h
def jS.seq{K:W0}(h:jS K H a b):FT K H a (b.map V.int):=by
 rcases h with⟨o,e⟩ | h
 ·exact .inl (.inr ⟨o,e⟩)
 ·exact .inr h
def rD{H d:Hp}{a:KB}{F:W4}(f:∀b∈a :: F,∀o,H b=Z o->d b=Z o):∀b∈F,∀o,H b=Z o->d b=Z o:=λb m=>f b (Zx _ m)
def uF{H a:Hp}{F:W4}{d:Wm}(f:∀b∈(F :: d).flatten,∀o,H b=Z o->a b=Z o):(∀b∈F,∀o,H b=Z o->a b=Z o)/\∀b∈d.flatten,∀o,H b=Z o->a b=Z o:=by
 rw[ZR]at f;exact⟨λb m=>f b (Yv _ m),λb m=>f b (ZM _ m)⟩
def Rp.keep(k:Kept H e)(r:Rp G H v t F):(∀a∈F,∀o,H a=Z o->e a=Z o)->Rp G e v t F :=
 Rp.rec (motive_2:=λj q g _=>(∀a∈g.flatten,∀o,H a=Z o->e a=Z o)->RpL G e j q g)
  (λ_=>.non) (λb _=>.bl b) (λi _=>.int i) (λs h _=>.str s h) (λh _=>.scr (h.kept k)) (λh _ d f=>.tup (k.tup _ _ h) (d f)) (λh _ d f=>.lst (f _ Zw _ h) (d (rD f))) (λh l _ d f=>.dct (f _ Zw _ h) l (d (rD f))) (λh l _ d f=>.dctT (f _ Zw _ h) l (d (rD f)))
  (λh l n _ d f=>.dctN (f _ Zw _ h) l (λp m=>(n p m).mono k.tup) (d (rD f))) (λh l _ d f=>.dctZ (k.frz _ _ _ h) l (d f)) (λh x _=>.exc (k.frz _ _ _ h) x) (λh l m _ d f=>.ins (f _ Zw _ h) l m (d (rD f))) (λh _ d f=>.mk h (d f)) (λ_=>.nil) (λ_ _ w u f=>.cons (w (uF f).1) (u (uF f).2)) r
theorem RpL.keep(k:Kept H g):∀{e:List V}{b:Vw}{d:Wm},RpL G H e b d->(∀a∈d.flatten,∀o,H a=Z o->g a=Z o)->RpL G g e b d:=by
 intro e b
 induction b generalizing e with
 |nil=>intro d r f;cases r;exact .nil
 |cons t b h =>
  intro d r f;cases r with
  |cons r q=>exact .cons (r.keep k (uF f).1) (h q (uF f).2)
def Rp.same{G:Gx}{H:Hp}(e:aJ H b)(r:Rp G H v t F):Rp G b v t F:=r.keep (Kept.of e) λa _ o h=>e a o h
def RpL.same{G:Gx}{H:Hp}(e:aJ H b)(r:RpL G H v t F):RpL G b v t F:=r.keep (Kept.of e) λa _ o h=>e a o h
def vU{H:Hp}{a:KB}{F:W4}(h:FR (H a))(d:∀b∈F,FR (H b)):∀b∈a :: F,FR (H b):=λb m=>(Zk.mp m).elim (λe=>e ▸ h) (d b)
def vR{H:Hp}{a:KB}{o:HO}(h:H a=Z o)(m:FR (Z o)):FR (H a):=by rw[h];exact m
def DI{H:Hp}{F:W4}{a:Wm}(e:∀b∈F,FR (H b))(d:∀b∈a.flatten,FR (H b)):∀b∈(F :: a).flatten,FR (H b):=λb m=>by
 rw[ZR]at m;exact(Zd.mp m).elim (e b) (d b)
def Rp.Ge(r:Rp G H v t F):∀a∈F,FR (H a) :=
 Rp.rec
  (λ_ m=>nomatch m) (λ_ _ m=>nomatch m) (λ_ _ m=>nomatch m) (λ_ _ _ m=>nomatch m) (λ_ _ m=>nomatch m) (λ_ _ b=>b) (λh _ b=>vU (vR h True.intro) b) (λh _ _ b=>vU (vR h True.intro) b) (λh _ _ b=>vU (vR h True.intro) b)
  (λh _ _ _ b=>vU (vR h True.intro) b) (λ_ _ _ b=>b) (λ_ _ _ m=>nomatch m) (λh _ _ _ b=>vU (vR h True.intro) b) (λ_ _ b=>b) (λ_ m=>nomatch m) (λ_ _ e d=>DI e d) r
theorem RpL.Ge:∀{e:List V}{b:Vw}{d:Wm},RpL G H e b d->∀a∈d.flatten,FR (H a):=by
 intro e b
 induction b generalizing e with
 |nil=>intro d r;cases r;exact λ_ m=>nomatch m
 |cons t b f =>
  intro d r;cases r with
  |cons r q=>exact DI r.Ge (f q)
def FR.lp(m:FR o):o≠L:=λe=>by subst e;exact m
def EH{b:Wm}(e:VS.FW t=B->F=[])(d:VS.ij a=B->b.flatten=[])(i:VS.ij (t :: a)=B):(F :: b).flatten=[]:=by
 have i:=Zb.mp i;rw[ZR,e i.1,d i.2];rfl
theorem Rp.FW(r:Rp G H v t F):VS.FW t=B->F=[] :=
 Rp.rec
  (λ_=>rfl) (λ_ _=>rfl) (λ_ _=>rfl) (λ_ _ _=>rfl) (λ_ _=>rfl) (λ_ _ a i=>a i) (λ_ _ _ i=>absurd (i) Zc) (λ_ _ _ _ i=>absurd (i) Zc) (λ_ _ _ _ i=>absurd (i) Zc)
  (λ_ _ _ _ _ i=>absurd (i) Zc) (λ_ _ _ _ i=>absurd (i) Zc) (λ_ _ _=>rfl) (λ_ _ _ _ _ i=>absurd (i) Zc) (λ_ _ _ i=>absurd (i) Zc) (λ_=>rfl) (λ_ _ d b i=>EH d b i) r
theorem RpL.FW:∀{d:List V}{a:Vw}{b:Wm},RpL G H d a b->VS.ij a=B->b.flatten=[]:=by
 intro d a
 induction a generalizing d with
 |nil=>intro b r i;cases r;exact rfl
 |cons t a e =>
  intro b r i;cases r with
  |cons r q=>exact EH r.FW (e q) i
def RpL.len:∀{b:List V}{a:Vw}{d:Wm},RpL G H b a d->b.length=a.length/\d.length=a.length:=by
 intro b a
 induction a generalizing b with
 |nil=>intro d r;cases r;exact⟨rfl,rfl⟩
 |cons t a e =>
  intro d r;cases r with
  |cons r q=>exact⟨congrArg (·+1) (e q).1,congrArg (·+1) (e q).2⟩
theorem RpL.get{G:Gx}:∀{a:List V}{b:Vw}{d:Wm}(i:Nat){t:T},RpL G H a b d->b[i]?=Z t->∃v F,a[i]?=Z v/\d[i]?=Z F/\Rp G H v t F
 |_,_,_,_,_,.nil,e=>by simp at e
 |_,_,_,0,_,.cons r _,e=>by
  simp at e;subst e;exact⟨_,_,rfl,rfl,r⟩
 |_,_,_,i+1,_,.cons _ q,e=>by
  obtain⟨v,F,h,g,f⟩:=RpL.get i q (by simpa using e);exact⟨v,F,by simpa using h,by simpa using g,f⟩
def RpL.append:∀{b:List V}{a:Vw}{e:Wm}{d:List V}{rs:Vw}{Gs:Wm},RpL G H b a e->RpL G H d rs Gs->RpL G H (b++d) (a++rs) (e++Gs):=by
 intro b a
 induction a generalizing b with
 |nil=>intro e d rs Gs r s;cases r;exact s
 |cons t a f =>
  intro e d rs Gs r s;cases r with
  |cons r q=>exact .cons r (f q s)
theorem RpL.take:∀{a:List V}{b:Vw}{d:Wm}(n:Nat),RpL G H a b d->RpL G H (a.take n) (b.take n) (d.take n)
 |_,_,_,0,_=>by simpa using RpL.nil
 |_,_,_,n+1,.nil=>.nil
 |_,_,_,n+1,.cons r q=>.cons r (RpL.take n q)
theorem RpL.drop:∀{a:List V}{b:Vw}{d:Wm}(n:Nat),RpL G H a b d->RpL G H (a.drop n) (b.drop n) (d.drop n)
 |_,_,_,0,q=>q
 |_,_,_,n+1,.nil=>.nil
 |_,_,_,n+1,.cons r q=>RpL.drop n q
noncomputable def lF:Cell->T
 |.pu t=>t
 |.ow t=>t
noncomputable abbrev FP:=Nat->W4
structure SR(G:Gx)(M:FP)(U:VS.Env)(J:L2.St)(H:Hp):Prop where
 len:U.length=J.length
 rp:∀i c,U[i]?=some (some c)->∃v,J[i]?=some (some v)/\Rp G H v (lF c) (M i)
 nd:∀i t,U[i]?=some (some (.ow t))->(M i).Nodup
 sep:∀i j t c,U[i]?=some (some (.ow t))->U[j]?=some (some c)->i≠j->∀a∈M i,a∉M j
noncomputable def eR(M:FP)(U:VS.Env)(a:KB):Prop:=∃j t,U[j]?=Z (Z (.pu t))/\a∈M j
noncomputable def cE(M:FP)(U:VS.Env)(a:KB):Prop:=∃j t,U[j]?=Z (Z (.ow t))/\a∈M j
def Fp(M:FP)(U:VS.Env)(H:Hp):Md->W4->Prop
 |.fr,F=>F.Nodup/\∀a∈F,H a=L
 |.pu,F=>∀a∈F,H a=L\/eR M U a
 |.bo,F=>∀a∈F,H a=L\/eR M U a\/cE M U a
theorem SR.same{G:Gx}{H:Hp}(s:SR G M U J H)(e:aJ H a):SR G M U J a :=
 ⟨s.len,λi c h=>let ⟨v,d,b⟩:=s.rp i c h;⟨v,d,b.same e⟩,s.nd,s.sep⟩
def SR.Jz(s:SR G M U J H)(h:eR M U a):FR (H a):=by
 obtain⟨j,t,d,b⟩:=h;obtain⟨v,_,r⟩:=s.rp j _ d;exact r.Ge a b
def SR.G3(s:SR G M U J H)(h:cE M U a):FR (H a):=by
 obtain⟨j,t,d,b⟩:=h;obtain⟨v,_,r⟩:=s.rp j _ d;exact r.Ge a b
def Fp.nil:Fp M U H m []:=by
 cases m
 ·exact⟨YY,λa h=>by simp at h⟩
 ·exact λa h=>by simp at h
 ·exact λa h=>by simp at h
theorem Fp.bo{U:VS.Env}{H:Hp}:∀{m:Md},Fp M U H m F->Fp M U H .bo F
 |.fr,h=>λa m=>.inl (h.2 a m)
 |.pu,h=>λa m=>(h a m).elim .inl λz=>.inr (.inl z)
 |.bo,h=>h
theorem Fp.pu{U:VS.Env}{H:Hp}:∀{m:Md},m ≠ .bo->Fp M U H m F->Fp M U H .pu F
 |.fr,_,h=>λa m=>.inl (h.2 a m)
 |.pu,_,h=>h
 |.bo,n,_=>absurd Y n
theorem Fp.back(e:aJ H b):∀{m:Md},Fp M U b m F->Fp M U H m F
 |.fr,h=>⟨h.1,λa m=>e.free (h.2 a m)⟩
 |.pu,h=>λa m=>(h a m).imp e.free id
 |.bo,h=>λa m=>(h a m).imp e.free id
theorem Fp.up{U:VS.Env}{m:Md}{v:V}{t:T}(f:Fp M U H m F)(r:Rp G a v t F):Fp M U H (VS.up m t).1 F:=by
 unfold VS.up;by_cases h:VS.FW t=B
 ·rw[r.FW h];exact Fp.nil
 ·simp only[h,if_false,Bool.false_eq_true];exact f
def tE(G:Gx)(c:Ex):TE:=λJ H Q=>∃M U m r,SR G M U J H/\c U=Z (m,r)/\∀v a F,aJ H a->Rp G a v r F->Fp M U H m F->Q v a
def PV(G:Gx)(X:Cx)(e:Expr)(c:Ex):Prop:=PE X e (tE G c)
def PE.weak{X:Cx}(h:PE X e t)(w:∀J H Q,b J H Q->t J H Q):PE X e b:=λa s J H Q I q=>h a s J H Q I (w J H Q q)
def PT.weak{X:Cx}(h:PT X e t)(w:∀J H Q,b J H Q->t J H Q):PT X e b:=λa s J H Q I q=>h a s J H Q I (w J H Q q)
def PA.weak{X:Cx}(h:PA X e t)(w:∀J H Q,b J H Q->t J H Q):PA X e b:=λpos a s J H Q I q=>h pos a s J H Q I (w J H Q q)
def tT(G:Gx)(c:Ex):TT:=λJ H Q=>∃M U m r b,SR G M U J H/\c U=Z (m,r)/\LX r=Z b/\∀a,aJ H a->Q b a
def HU(G:Gx)(X:Cx)(e:Expr)(c:Ex):Prop:=PT X e (tT G c)
noncomputable def G2(l:Vy)(a:Wm):W4:=match l,a with
 |v :: l,F :: a=>match v.1 with
  |.fr=>F++G2 l a
  |_=>G2 l a
 |_,_=>[]
structure KG(M:FP)(U:VS.Env)(H:Hp)(l:Vy)(Fs:Wm):Prop where
 each:∀(i:Nat) v F,l[i]?=some v->Fs[i]?=some F->Fp M U H v.1 F
 nd:(G2 l Fs).Nodup
def Oh(G:Gx)(c:Gf):TA:=λJ H Q=>∃M U l,SR G M U J H/\c U=Z l/\∀b a d,aJ H a->RpL G a b (trees l) d->KG M U H l d->Q b a
def GE(G:Gx)(X:Cx)(a:List Expr)(c:Gf):Prop:=PA X a (Oh G c)
section
def aj{i j pos}:PV G X (.Constant (.int i) j pos) (Q3 i):=PE.weak sg λJ H Q d=>by
 obtain⟨M,U,m,r,s,e,k⟩:=d;cases (e);exact k _ _ _ (aJ.refl _) (.int i) Fp.nil
def nB{i j pos}:PV G X (.Constant (.bool i) j pos) (eC (.bl i)):=PE.weak D4 λJ H Q d=>by
 obtain⟨M,U,m,r,s,e,k⟩:=d;cases (e);exact k _ _ _ (aJ.refl _) (.bl i) Fp.nil
def qb{j pos}:PV G X (.Constant .none j pos) (eC .non):=PE.weak Cp λJ H Q d=>by
 obtain⟨M,U,m,r,s,e,k⟩:=d;cases (e);exact k _ _ _ (aJ.refl _) .non Fp.nil
def bp{j pos}(h:x=sx t:=by decide +kernel)(f:{`q1,lz t}):PV G X (.Constant (.str x) j pos) (eC (.str t)):=PE.weak CW λJ H Q d=>by
 obtain⟨M,U,m,r,s,e,k⟩:=d;cases (e);subst h;exact k _ _ _ (aJ.refl _) (.str t f) Fp.nil
def bA{X:Cx}(i:Nat)(w:{`q2,X.N[i]?=Z x})(p:{`q5,Iw X.env.scope x})(u:{`q1,K3 x})(j:{`q1,K4 x}):PV G X (.Name x g) (ab i):=PE.weak (fZ w p u j) λJ H Q q=>by
 obtain⟨M,U,m,r,s,e,k⟩:=q;unfold ab at e;split at e
 ·rename_i t h;obtain⟨v,n,d⟩:=s.rp _ _ h;have o:=Zh e;have y:t=r:=congrArg Prod.snd o;have em:(VS.up .pu t).1=m:=congrArg Prod.fst o;rw[← y,← em]at k;refine⟨v,n,k v H (M i) (aJ.refl _) d ?_⟩;have f:Fp M U H .pu (M i):=λa l=>.inr ⟨i,_,h,l⟩;exact f.up d
 ·rename_i t h;obtain⟨v,n,d⟩:=s.rp _ _ h;cases e;exact⟨v,n,k v H (M i) (aJ.refl _) d λa l=>.inr (.inr ⟨i,_,h,l⟩)⟩
 ·cases e
def zt{v:V}(i:Gl X x)(h:X.mg x=Z u)(r:RelV v u)(f:∀H,Rp G H v t [])(j:{`q1,K3 x}):PV G X (.Name x d) (eC t) :=
 PE.weak (zD i h r j) λJ H Q g=>by
  obtain⟨M,U,m,l,s,e,k⟩:=g;cases (e);exact k _ _ _ (aJ.refl _) (f H) Fp.nil
structure Nt(G:Gx)(M:FP)(U:VS.Env)(H0 H:Hp)(x y:Val)(u w:V)(F1 F2:W4):Prop where
 same:aJ H0 H
 r1:Rp G H u x.2 F1
 r2:Rp G H w y.2 F2
 f1:Fp M U H0 x.1 F1
 f2:Fp M U H0 y.1 F2
 nd:x.1=.fr->y.1=.fr->(F1++F2).Nodup
def fU(G:Gx)(r:R2)(f:Val->Val->Vx):Prop:=∀(M:FP)(U:VS.Env)(e H:Hp)(x y:Val)(u w:V)(h g:W4)(m:Md)(t:T)(Q:VK),Nt G M U e H x y u w h g->f x y=Z (m,t) →
 (∀v d F,aJ H d->Rp G d v t F->Fp M U e m F->Q v d)->r u w H Q
def v9{G:Gx}{ca cb:Ex}{J:L2.St}{H:Hp}{Q:V->V->Hp->Prop}{M:FP}{U:VS.Env}{x y:Val}(s:SR G M U J H)(m:ca U=Z x)(l:cb U=Z y)(k:∀u w d f e,Nt G M U H d x y u w f e->Q u w d):tE G ca J H λu g=>tE G cb J g λw d=>Q u w d:=by
 refine⟨M,U,x.1,x.2,s,m,λu g f e1 r1 f1=>⟨M,U,y.1,y.2,s.same e1,l,λw d e e2 r2 f2=>k u w d f e ⟨e1.trans e2,r1.same e2,r2,f1,f2.back e1,λi h=>?_⟩⟩⟩;rw[i]at f1;rw[h]at f2;refine ZL.mpr ⟨f1.1,f2.1,λa j b hb z=>?_⟩;subst z;exact FR.lp (r1.Ge a j) (f2.2 a hb)
def kU(g:fU G r f)(h:tE G (e2 f ca cb) J H Q):Mv r (tE G ca) (tE G cb) J H Q:=by
 obtain⟨M,U,m,t,s,e,k⟩:=h;obtain⟨x,j,e⟩:=Zz.mp e;obtain⟨y,i,e⟩:=Zz.mp e;exact v9 s j i λu w l p o d=>g M U H l x y u w p o m t Q d e λv n F e1 r1 f1=>k v n F (d.same.trans e1) r1 f1
def gE(g:OpR X (binaryOp d) r)(e:fU G r f)(j:PV G X a ca)(i:PV G X b cb):PV G X (.BinOp a d b pos) (e2 f ca cb) :=
 PE.weak (Es g j i) λJ H Q h=>kU e h
def CV(g:OpR X (SB d) r)(e:fU G r f)(l:PV G X a ca)(j:PV G X b cb)(i:behindInMarks d b=O):PV G X (.Compare a [d] [b] pos) (e2 f ca cb) :=
 PE.weak (AA g l j i) λJ H Q h=>kU e h
noncomputable def Tells(f:Val->Val->Vx):Prop:=∀x y m t,f x y=Z (m,t)->∃b,t=.bl b
def Rp.GK{b:Bool}(r:Rp G H v (.bl b) F):v=.bl b:=r.inv
def Rp.int_inv{H:Hp}{b:Int}(r:Rp G H v (.int b) F):v=.int b:=r.inv
def Rp.str_inv{b:Tx}(r:Rp G H v (.str b) F):v=.str (sx b)/\lz b:=r.inv
def nV{c:Ex}(h:tT G c J H Q)(f:∀U m r,c U=Z (m,r)->∃b,r=.bl b)(w:∀Q,tE G c J H Q->t J H Q):vF t J H Q:=by
 obtain⟨M,U,m,r,b,s,e,d,k⟩:=h;refine w _ ⟨M,U,m,r,s,e,λv i F e1 r1 f1=>?_⟩;obtain⟨j,g⟩:=f U m r e;rw[g]at d r1;cases (d);exact⟨_,r1.GK,k i e1⟩
def dP(j:OpR X (SB d) r)(g:fU G r f)(i:Tells f)(o:PV G X a ca)(n:PV G X b cb)(l:behindInMarks d b=O):HU G X (.Compare a [d] [b] pos) (e2 f ca cb) :=
 PT.weak (zf j o n l) λJ H Q h=>nV h (λU m r e=>by
  obtain⟨x,_,e⟩:=Zz.mp e;obtain⟨y,_,e⟩:=Zz.mp e;exact i x y m r e) λQ h=>kU g h
def bf{G:Gx}{M:FP}{U:VS.Env}{e H:Hp}{m:Md}{t:T}{v:V}{Q:VK}(k:∀v d F,aJ H d->Rp G d v t F->Fp M U e m F->Q v d)(r:Rp G H v t []):Q v H:=k v H [] (aJ.refl _) r Fp.nil
def cJ(h:H p=L):aJ H (upd H p o):=λb d e=>by rw[aA (cH e h)];exact e
theorem Fp.new(d:g p=L)(h:p∉F):∀{m:Md},Fp M U g m F->Fp M U g m (p :: F)
 |.fr,f=>⟨ZX.mpr ⟨h,f.1⟩,λa m=>(Zk.mp m).elim (λe=>by rw[e];exact d) (f.2 a)⟩
 |.pu,f=>λa m=>(Zk.mp m).elim (λe=>by rw[e];exact .inl d) (f a)
 |.bo,f=>λa m=>(Zk.mp m).elim (λe=>by rw[e];exact .inl d) (f a)
def o7(e:Hu d l=Z (m,t)):t=.lst l/\l.length<=dq/\m=(if ij l then .fr else d):=by
 unfold Hu at e;split at e
 ·rename_i h;cases e;exact⟨rfl,h,rfl⟩
 ·cases e
def jb{G:Gx}{M:FP}{U:VS.Env}{h H:Hp}{n m:Md}{l:Vw}{t:T}{j:List V}{o:Wm}{Q:VK}(d:aJ h H)(e:Hu n l=Z (m,t))(r:RpL G H j l o)(f:Fp M U h n o.flatten)(k:∀v i F,aJ H i->Rp G i v t F->Fp M U h m F->Q v i):∀p,H p=L->Q (.ref p) (upd H p (.lst j)):=by
 intro p g;obtain⟨rfl,q,rfl⟩:=o7 e;refine k _ _ _ (cJ g) (.lst aw (r.same (cJ g))) ?_;have np:=λm=>FR.lp (r.Ge p m) g;by_cases hi:ij l=B
 ·rw[hi,Zp Y];rw[r.FW hi]at np ⊢;exact Fp.nil.new (d.free g) np
 ·rw[Zn hi];exact f.new (d.free g) np
theorem Nt.join(i:Nt G M U h H x y u w f e){F:W4}(g:F.Sublist (f++e)):Fp M U h (x.1.join y.1) F:=by
 obtain⟨same,r1,r2,f1,f2,nd⟩:=i;obtain⟨l,x⟩:=x;obtain⟨j,y⟩:=y;have both:∀{P:KB->Prop},(∀a∈f,P a)->(∀a∈e,P a)->∀a∈F,P a:=λn m a d=>((λa d=>Zd.mp (g.subset d)) a d).elim (n a) (m a);cases l<;>cases j
 ·exact⟨(nd Y Y).sublist g,both f1.2 f2.2⟩
 ·exact both (λa d=>.inl (f1.2 a d)) f2
 ·exact both (λa d=>.inl (f1.2 a d)) f2
 ·exact both f1 (λa d=>.inl (f2.2 a d))
 ·exact both f1 f2
 ·exact both (f1.bo) f2
 ·exact both f1 (λa d=>.inl (f2.2 a d))
 ·exact both f1 (f2.bo)
 ·exact both f1 f2
def gA:dq=sizeLine:=rfl
def dS(s:Tx):(sx s).length=s.length:=rfl
def Cg(s t:Tx):sx s++sx t=sx (s++t):=by
 show Str.append (sx s) (sx t)=_;simp[sx,Str.append]
def Rp.lst_inv(r:Rp G H v (.lst l) F):∃a d e,v=.ref a/\F=a :: e.flatten/\H a=Z (.lst d)/\RpL G H d l e:=r.inv
def Rp.GX(r:Rp G H v (.tup l) F):∃a d e,v=.ref a/\F=e.flatten/\H a=Z (.tup d)/\RpL G H d l e:=r.inv
def Rp.Kn(r:Rp G H v (.scr l) F):∃a,v=.ref a/\F=[]/\jS G.K H a l:=r.inv
end
section
def EO:R2:=λx y H Q=>IM (λi j=>.int (i+j)) x y H Q\/(∃i j,x=.str i/\y=.str j/\i.length+j.length<=IR/\Q (.str (i++j)) H)\/Er x y H Q
def zP:OpR X (binaryOp .Add) EO:=CQ.or (sW.or CB)
def Dk:fU G EO bO:=by
 intro M U E H x y u w A z m t Q f e k;have q:=λ{F:W4} (h:List.Sublist F (A++z))=>f.join h;obtain⟨D,x⟩:=x;obtain⟨C,y⟩:=y;obtain⟨same,r1,r2,f1,f2,nd⟩:=f;unfold bO at e;split at e
 ·rename_i i _ j e1 e2;cases e1;cases e2;cases e;exact .inl ⟨_,_,r1.int_inv,r2.int_inv,bf k (.int _)⟩
 ·rename_i s _ p e1 e2;cases e1;cases e2;split at e
  ·rename_i d;cases e;refine .inr (.inl ⟨_,_,r1.str_inv.1,r2.str_inv.1,by rw[dS,dS,← gA];exact d,?_⟩);rw[Cg];exact bf k (.str _ ⟨by rw[Zt];exact d,λc r=>(Zd.mp r).elim (r1.str_inv.2.2 c) (r2.str_inv.2.2 c)⟩)
  ·cases e
 ·rename_i s _ p e1 e2;cases e1;cases e2;obtain⟨a,n,J,rfl,rfl,v,l⟩:=r1.lst_inv;obtain⟨b,o,Gs,rfl,rfl,hb,g⟩:=r2.lst_inv;obtain⟨_,d,_⟩:=o7 e;refine .inr (.inr ⟨a,b,n,o,rfl,rfl,v,hb,?_,jb same e (l.append g) (q ?_) k⟩)
  ·rw[Zt]at d;rw[l.len.1,g.len.1,← gA];exact d
  ·rw[Yi];exact(Yu _ _).append (Yu _ _)
 ·cases e
def sy:fU G (IM λi j=>.int (i-j)) qh:=by
 intro M U f H x y u w h g m t Q a e k;obtain⟨d,x⟩:=x;obtain⟨b,y⟩:=y;obtain⟨same,r1,r2,f1,f2,nd⟩:=a;unfold qh at e;split at e
 ·rename_i e1 e2;cases e1;cases e2;cases e;exact⟨_,_,r1.int_inv,r2.int_inv,bf k (.int _)⟩
 ·cases e
def AM:fU G (rI ER λi j=>.int (i/j)) bC:=by
 intro M U f H x y u w l g m t Q a e k;obtain⟨d,x⟩:=x;obtain⟨b,y⟩:=y;obtain⟨same,r1,r2,f1,f2,nd⟩:=a;unfold bC at e;split at e
 ·rename_i e1 e2;cases e1;cases e2;split at e
  ·rename_i h;cases e;exact⟨_,_,r1.int_inv,r2.int_inv,h,bf k (.int _)⟩
  ·cases e
 ·cases e
def C9:fU G (rI (λ_ j=>0<j) λi j=>.int (i%j)) oMod:=by
 intro M U f H x y u w l g m t Q a e k;obtain⟨d,x⟩:=x;obtain⟨b,y⟩:=y;obtain⟨same,r1,r2,f1,f2,nd⟩:=a;unfold oMod at e;split at e
 ·rename_i e1 e2;cases e1;cases e2;split at e
  ·rename_i h;cases e;exact⟨_,_,r1.int_inv,r2.int_inv,h,bf k (.int _)⟩
  ·cases e
 ·cases e
theorem ni:∀(s t:Tx),IE s t=decide (s<t)
 |[],[]=>by simp[IE]
 |[],_ :: _=>by simp[IE]
 |_ :: _,[]=>by simp[IE]
 |a :: s,b :: t=>by
  unfold IE;rw[ni s t];by_cases e:a<b
  ·simp[e,Y7]
  ·by_cases d:b<a
   ·have:¬a=b:=by exact Xi d
    simp[e,d,Y7,this]
   ·have:a=b:=by lia
    subst this;simp[Y7]
def Qy:R2:=λx y H Q=>IM (λi j=>.bl (decide (i<j))) x y H Q\/(∃i j,x=.str i/\y=.str j/\Q (.bl (decide (i.cps.toList<j.cps.toList))) H)
def p8:OpR X (SB .Lt) Qy:=EZ.or vb
def uk:fU G Qy oLt:=by
 intro M U g H x y u w i h m t Q b e k;obtain⟨f,x⟩:=x;obtain⟨d,y⟩:=y;obtain⟨same,r1,r2,f1,f2,nd⟩:=b;unfold oLt at e;split at e
 ·rename_i e1 e2;cases e1;cases e2;cases e;exact .inl ⟨_,_,r1.int_inv,r2.int_inv,bf k (.bl _)⟩
 ·rename_i s _ a e1 e2;cases e1;cases e2;cases e;refine .inr ⟨_,_,r1.str_inv.1,r2.str_inv.1,?_⟩;have:decide ((sx s).cps.toList<(sx a).cps.toList)=IE s a:=by rw[ni];exact decide_eq_decide.mpr (by simp[sx])
  rw[this];exact bf k (.bl _)
 ·cases e
def iN:Tells oLt:=by
 intro x y m t e;unfold oLt at e;split at e<;>first | (cases e;exact⟨_,rfl⟩) | cases e
def Dx:Nw=2 ^ 64:=rfl
def ly:fU G (rI zh λi j=>.int (i*j)) kL:=by
 intro M U f H x y u w l g m t Q a e k;obtain⟨d,x⟩:=x;obtain⟨b,y⟩:=y;obtain⟨same,r1,r2,f1,f2,nd⟩:=a;unfold kL at e;split at e
 ·rename_i e1 e2;cases e1;cases e2;split at e
  ·rename_i h;cases e;refine⟨_,_,r1.int_inv,r2.int_inv,?_,bf k (.int _)⟩;rw[Dx]at h;exact h
  ·cases e
 ·cases e
def vc:OpR X (SB .LtE) (λx y H Q=>∃i j,x=.str i/\y=.str j/\Q (.bl (!decide (j.cps.toList<i.cps.toList))) H):=by
 intro a s J H x y v u Q I d b h;obtain⟨i,j,rfl,rfl,q⟩:=h;obtain⟨t,rfl⟩:=d;obtain⟨e,rfl⟩:=b;exact PySem.P.le_str ⟨.bl _,H,I,rfl,q⟩
def Qz:R2:=λx y H Q=>IM (λi j=>.bl (decide (i<=j))) x y H Q\/(∃i j,x=.str i/\y=.str j/\Q (.bl (!decide (j.cps.toList<i.cps.toList))) H)
def mY:OpR X (SB .LtE) Qz:=D2.or vc
def qP:fU G Qz oLe:=by
 intro M U g H x y u w i h m t Q b e k;obtain⟨f,x⟩:=x;obtain⟨d,y⟩:=y;obtain⟨same,r1,r2,f1,f2,nd⟩:=b;unfold oLe at e;split at e
 ·rename_i e1 e2;cases e1;cases e2;cases e;exact .inl ⟨_,_,r1.int_inv,r2.int_inv,bf k (.bl _)⟩
 ·rename_i s _ a e1 e2;cases e1;cases e2;cases e;refine .inr ⟨_,_,r1.str_inv.1,r2.str_inv.1,?_⟩;have:decide ((sx a).cps.toList<(sx s).cps.toList)=IE a s:=by rw[ni];exact decide_eq_decide.mpr (by simp[sx])
  rw[this];exact bf k (.bl _)
 ·cases e
def rQ:Tells oLe:=by
 intro x y m t e;unfold oLe at e;split at e<;>first | (cases e;exact⟨_,rfl⟩) | cases e
def sv{i:Int}:G8 n i=Lk n i:=by
 unfold G8 Lk;by_cases h:0<=i
 ·rw[Zp h,Zp h]
 ·rw[Zn h,Zn h];by_cases a:0<=i+n
  ·rw[Zp a,Zp (by lia)]
  ·rw[Zn a,Zn (by lia)]
def mQ{α:Type}{l:List α}{i:Int}{k:Nat}{x:α}(b:G8 l.length i=Z k)(a:l[k]?=Z x):LR l i=Z x:=by
 unfold LR;rw[← sv,b];exact a
def du{a:Wm}{F:W4}{i:Nat}(h:a[i]?=Z F):F.Sublist a.flatten:=by
 obtain⟨hi,rfl⟩:=ZZ.mp h;exact List.sublist_flatten_of_mem (Z7 hi)
theorem Fp.sub{F:W4}(h:F.Sublist d):∀{m:Md},Fp M U H m d->Fp M U H m F
 |.fr,f=>⟨f.1.sublist h,λa b=>f.2 a (h.subset b)⟩
 |.pu,f=>λa b=>f a (h.subset b)
 |.bo,f=>λa b=>f a (h.subset b)
def yf:fU G (Os G.K) ay:=by
 intro M U P H x y u w S R m t Q C e k;obtain⟨N,x⟩:=x;obtain⟨J,y⟩:=y;obtain⟨same,r1,r2,f1,f2,nd⟩:=C;unfold ay at e;split at e
 ·rename_i p l o i e1 e2;cases e1;cases e2;obtain⟨j,d,e⟩:=Zz.mp e;obtain⟨x,b,e⟩:=Zu.mp e;obtain⟨a,n,E,rfl,rfl,q,h⟩:=r1.lst_inv;obtain⟨v,F,s,r,g⟩:=h.get j b;refine .inl ⟨a,n,i,v,rfl,r2.int_inv,FT.of q,mQ (by rw[h.len.1];exact d) s,?_⟩;have f:=((f1.sub (Yu _ _)).sub (du r)).up g;unfold VS.sub at e;rw[e]at f;have z:x=t:=congrArg Prod.snd e;rw[z]at g;exact k v H F (aJ.refl _) g f
 ·rename_i p l o i e1 e2;cases e1;cases e2;obtain⟨j,d,e⟩:=Zz.mp e;obtain⟨x,b,e⟩:=Zu.mp e;obtain⟨a,n,E,rfl,rfl,q,h⟩:=r1.GX;obtain⟨v,F,s,r,g⟩:=h.get j b;refine .inr (.inl ⟨a,n,i,v,rfl,r2.int_inv,GU.of q,mQ (by rw[h.len.1];exact d) s,?_⟩);have f:=(f1.sub (du r)).up g;unfold VS.sub at e;rw[e]at f;have z:x=t:=congrArg Prod.snd e;rw[z]at g;exact k v H F (aJ.refl _) g f
 ·rename_i p l o i e1 e2;cases e1;cases e2;obtain⟨j,d,e⟩:=Zz.mp e;obtain⟨x,b,e⟩:=Zu.mp e;cases e;obtain⟨a,rfl,rfl,sa⟩:=r1.Kn;refine .inl ⟨a,l.map V.int,i,.int x,rfl,r2.int_inv,sa.seq,mQ (by rw[Zy];exact d) (by rw[ZU,b];rfl),bf k (.int _)⟩
 ·rename_i p l o i e1 e2;cases e1;cases e2;obtain⟨j,d,e⟩:=Zz.mp e;obtain⟨x,b,e⟩:=Zu.mp e;cases e;obtain⟨rfl,A⟩:=r1.str_inv;refine .inr (.inr ⟨sx l,i,x,rfl,r2.int_inv,by rw[dS,← gA];exact A.1,mQ (k:=j) (by simpa[sx] using d) (by simpa[sx] using b),?_⟩);exact bf k (.str [x] ⟨by show 1<=dq;decide,λc D=>by rw[Zj.mp D];exact A.2 x (Yf b)⟩)
 ·cases e
end
section
theorem ug:∀{l:Vy}{d:Wm},x∈G2 l d->∃(i:Nat)(v:Val)(F:W4),l[i]?=Z v/\v.1=.fr/\d[i]?=Z F/\x∈F
 |[],_,h=>by simp[G2]at h
 |_ :: _,[],h=>by simp[G2]at h
 |v :: l,F :: d,h=>by
  have go:x∈G2 l d->∃(i:Nat)(u:Val)(f:W4),(v :: l)[i]?=Z u/\u.1=.fr/\(F :: d)[i]?=Z f/\x∈f:=λm=>by
   refine L2.ar λs g=>?_;obtain⟨i,u,f,r,q,o,n⟩:=ug m;refine g ?_;exact⟨i+1,u,f,by simpa using r,q,by simpa using o,n⟩
  unfold G2 at h;split at h
  ·rename_i j;rcases Zd.mp h with h | h
   ·exact⟨0,v,F,rfl,j,rfl,h⟩
   ·exact go h
  ·exact go h
def af:GE G X [] ag:=PA.weak iR λJ H Q d=>by
 obtain⟨M,U,l,s,e,k⟩:=d;cases (e);exact k [] H [] (aJ.refl _) .nil ⟨λi v F h=>by simp at h,by simp[G2]⟩
def aa(D:PV G X e ca)(A:GE G X es cs)(w:{`q2,K1 e es X}):GE G X (e :: es) (ae ca cs):=PA.weak (dz D A w) λJ H Q C=>by
 refine L2.ar λP_ n=>?_;obtain⟨M,U,l,s,e,k⟩:=C;obtain⟨x,R,e⟩:=Zz.mp e;obtain⟨j,P,e⟩:=Zz.mp e;cases e;refine n ?_;refine⟨M,U,x.1,x.2,s,R,λv H1 F e1 r1 f1=>⟨M,U,j,s.same e1,P,λm S Y e2 r2 f2=>k (v :: m) S (F :: Y) (e1.trans e2) (.cons (r1.same e2) r2) ⟨λi u h g d=>?_,?_⟩⟩⟩
 ·cases i with
  |zero =>
   cases (g);cases (d);exact f1
  |succ i=>exact(f2.each i u h (by simpa using g) (by simpa using d)).back e1
 ·unfold G2;split
  ·rename_i t;rw[t]at f1;refine ZL.mpr ⟨f1.1,f2.nd,λy r z o q=>?_⟩;subst q;obtain⟨i,u,h,g,d,N,E⟩:=ug o;have f:=f2.each i u h g N;rw[d]at f;exact FR.lp (r1.Ge y r) (f.2 y E)
  ·exact f2.nd
theorem j9:∀{l:Vy},cK l=.fr->∀v∈l,v.1=.fr
 |[],_,v,h=>by simp at h
 | (m,t) :: r,e,v,h=>by
  have d:m.join (cK r)=.fr:=e;rcases Zk.mp h with rfl | h
  ·exact(by
   revert d;cases m<;>cases cK r<;>simp[Md.join])
  ·exact j9 (by
   revert d;cases m<;>cases cK r<;>simp[Md.join]) v h
theorem km:∀{l:Vy},cK l ≠ .bo->∀v∈l,v.1 ≠ .bo
 |[],_,v,h=>by simp at h
 | (m,t) :: r,e,v,h=>by
  have d:m.join (cK r) ≠ .bo:=e;rcases Zk.mp h with rfl | h
  ·exact(by
   revert d;cases m<;>cases cK r<;>simp[Md.join])
  ·exact km (by
   revert d;cases m<;>cases cK r<;>simp[Md.join]) v h
theorem uj:∀{l:Vy}{d:Wm},l.length=d.length->(∀v∈l,v.1=.fr)->G2 l d=d.flatten
 |[],[],_,_=>rfl
 |[],_ :: _,h,_=>by simp at h
 |_ :: _,[],h,_=>by simp at h
 |v :: l,F :: d,h,q=>by
  unfold G2;rw[q v Zw,uj (by simpa using h) λu f=>q u (Zx _ f)];rfl
def gr{d:Wm}(h:x∈d.flatten):∃(i:Nat)(F:W4),d[i]?=Z F/\x∈F:=by
 obtain⟨F,g,f⟩:=List.mem_flatten.mp h;obtain⟨i,hi⟩:=List.mem_iff_getElem?.mp g;exact⟨i,F,hi,f⟩
def KG.join(f:KG M U H l j)(m:l.length=j.length):Fp M U H (cK l) j.flatten:=by
 have at':∀x∈j.flatten,∃v F,v∈l/\x∈F/\Fp M U H v.1 F:=λx d=>by
  obtain⟨i,F,hi,g⟩:=gr d;have:i<l.length:=by
   have:=(ZZ.mp hi).1;lia
  exact⟨l[i],F,Z7 this,g,f.each i _ F (Zq this) hi⟩
 cases e:cK l with
 |fr =>
  have al:=j9 e;refine⟨by rw[← uj m al];exact f.nd,λx d=>?_⟩;obtain⟨v,F,h,g,q⟩:=at' x d;rw[al v h]at q;exact q.2 x g
 |pu =>
  intro x d;obtain⟨v,F,h,g,q⟩:=at' x d;exact Fp.pu ((km (l:=l) (by rw[e];decide)) v h) q x g
 |bo =>
  intro x d;obtain⟨v,F,h,g,q⟩:=at' x d;exact q.bo x g
structure Args(G:Gx)(M:FP)(U:VS.Env)(H0 H:Hp)(l:Vy)(vs:List V)(Fs:Wm):Prop where
 same:aJ H0 H
 rp:RpL G H vs (trees l) Fs
 fp:KG M U H0 l Fs
theorem Args.len{U:VS.Env}(A:Args G M U g H l f d):l.length=d.length:=by
 have:=A.rp.len.2;simp[trees]at this;exact Eq.symm this
def dE(G:Gx)(r:List V->Hp->VK->Prop)(f:Vy->Vx):Prop:=∀(M:FP)(U:VS.Env)(h H:Hp)(l:Vy)(g:List V)(i:Wm)(m:Md)(t:T)(Q:VK),Args G M U h H l g i->f l=Z (m,t) →
 (∀v d F,aJ H d->Rp G d v t F->Fp M U h m F->Q v d)->r g H Q
def Bg(h:dE G r f)(s:SR G M U J H)(i:cs U=Z l)(e:f l=Z (m,t))(k:∀v d F,aJ H d->Rp G d v t F->Fp M U H m F->Q v d):Oh G cs J H λg n=>r g n Q :=
 ⟨M,U,l,s,i,λg d o e1 r1 f1=>h M U H d l g o m t Q ⟨e1,r1,f1⟩ e λv j F e2 r2 f2=>k v j F (e1.trans e2) r2 f2⟩
def gU(q:cB X (.builtin d) r)(g:dE G r f)(o:Gl X x)(n:X.mg x=L)(h:bootBuiltins x=Z (.builtin d))(u:GE G X (e :: es) cs)(j:{`q1,x ≠ "__name__"})(w:{`q1,K3 x})(he:{`q2,K1 e es X})(hpl:{`q2,K2 pos es X}):PV G X (.Call (.Name x p) (e :: es) [] pos) (eN f cs) :=
 PE.weak (kG q o n h u j w he hpl) λJ H Q i=>by
  obtain⟨M,U,m,t,s,e,k⟩:=i;obtain⟨l,v,e⟩:=Zz.mp e;exact Bg g s v e k
def ia{G:Gx}{X:Cx}{es:List Expr}{cs:Gf}{pos p:Pos}{r:List V->Hp->VK->Prop}{f:Vy->Vx}{Ty:String}{x:Str}(q:cB X (.type Ty) r)(g:dE G r f)(o:Gl X x)(n:X.mg x=L)(h:bootBuiltins x=Z (.type Ty))(u:GE G X (e :: es) cs)(j:{`q1,x ≠ "__name__"})(w:{`q1,K3 x})(he:{`q2,K1 e es X})(d:{`q2,K2 pos es X}):PV G X (.Call (.Name x p) (e :: es) [] pos) (eN f cs) :=
 PE.weak (om q o n h u j w he d) λJ H Q i=>by
  obtain⟨M,U,m,t,s,e,k⟩:=i;obtain⟨l,v,e⟩:=Zz.mp e;exact Bg g s v e k
def cq(h:GE G X es cs):PV G X (.List es pos) (cQ cs):=PE.weak (Da h) λJ H Q f=>by
 obtain⟨M,U,m,t,s,e,k⟩:=f;obtain⟨l,i,e⟩:=Zz.mp e;refine⟨M,U,l,s,i,λd n o e1 r1 f1=>?_⟩;have A:Args G M U H n l d o:=⟨e1,r1,f1⟩
 obtain⟨_,g,_⟩:=o7 e;refine⟨by rw[r1.len.1,← gA];exact g,jb e1 e r1 (f1.join A.len) λv j F e2 r2 f2=>k v j F (e1.trans e2) r2 f2⟩
def jw{x1}(h:GE G X es cs):PV G X (.Tuple es x1 pos) (mG cs):=PE.weak (wj h) λJ H Q d=>by
 obtain⟨M,U,m,t,s,e,k⟩:=d;obtain⟨l,n,e⟩:=Zz.mp e;refine⟨M,U,l,s,n,λf g i e1 r1 f1=>?_⟩;have A:Args G M U H g l f i:=⟨e1,r1,f1⟩
 unfold oC at e;split at e
 ·rename_i j;cases e;refine⟨by rw[r1.len.1,← gA,trees,Zy];exact j,λq d=>?_⟩;have r2:Rp G (upd g q (.tup f)) (.ref q) (.tup (trees l)) i.flatten:=.tup aw (r1.same (cJ d));exact k _ _ _ (e1.trans (cJ d)) r2 (Fp.up (f1.join A.len) r2)
 ·cases e
def Az(r:Rp G H v t F)(h:LX t=Z k):B9 G.K v H k:=by
 cases r with
 |non=>cases h;rfl
 |bl b=>cases h;rfl
 |int i=>cases h;rfl
 |str s j =>
  cases h;refine⟨by rw[dS,← gA];exact j.1,?_⟩;rw[dS];cases s with
  |nil=>rfl
  |cons a r =>
   have:((List.length (a :: r):Int) != 0)=B:=by simp;lia
   rw[this];rfl
 |scr d=>cases h
 |tup d q =>
  cases h;refine .inr (.inl ⟨_,GU.of d,?_⟩);have:=q.len.1;rename_i f g _;cases f<;>cases g<;>simp_all
 |lst d q =>
  cases h;refine .inl ⟨_,FT.of d,?_⟩;have:=q.len.1;rename_i f g _;cases f<;>cases g<;>simp_all
 |dct d j q =>
  cases h;refine .inr (.inr ⟨_,d,?_⟩);have:=q.len.1;rename_i l f g _;cases l<;>cases f<;>cases g<;>simp_all
 |dctT d j q=>cases h
 |dctN d j n q=>cases h
 |dctZ _ _ _=>cases h
 |exc _ _=>cases h
 |ins _ _ _ _=>cases h
 |mk _ _=>cases h
def gw(h:PV G X a ca)(d:{`q2,X.K=G.K})(he:{`q3,∀whole,isTrue a X.env whole=(do let v ← whole;standAt a.pos;holding [v] (truthy v))}):HU G X a ca :=
 PT.weak (yu h he) λJ H Q ⟨M,U,m,r,b,s,e,f,k⟩=>⟨M,U,m,r,s,e,λv g F e1 r1 f1=>⟨b,by rw[d];exact Az r1 f,k g e1⟩⟩
def Iy(G:Gx)(X:Cx)(e:Expr)(c:Ex):Prop:=PW X e (tT G c)
def PW.weak{X:Cx}{e:Expr}{f:TT}(h:PW X e t)(w:∀J H Q,f J H Q->t J H Q):PW X e f:=λg d s J H Q I q=>h g d s J H Q I (w J H Q q)
def Iy.JW(h:Iy G X e ca):HU G X e ca:=PW.pt h
def rL(e:fH ca cb U=Z (m,r)):(∃n,ca U=Z (n,.bl B)/\cb U=Z (m,r))\/(∃n,ca U=Z (n,.bl O)/\m=.fr/\r=.bl O):=by
 obtain⟨⟨n,x⟩,d,e⟩:=Zz.mp e;split at e
 ·rename_i h;cases (h);exact .inl ⟨n,d,e⟩
 ·rename_i h;cases (h);cases e;exact .inr ⟨n,d,rfl,rfl⟩
 ·cases e
def Ax(e:JS ca cb U=Z (m,r)):(∃n,ca U=Z (n,.bl O)/\cb U=Z (m,r))\/(∃n,ca U=Z (n,.bl B)/\m=.fr/\r=.bl B):=by
 obtain⟨⟨n,x⟩,d,e⟩:=Zz.mp e;split at e
 ·rename_i h;cases (h);cases e;exact .inr ⟨n,d,rfl,rfl⟩
 ·rename_i h;cases (h);exact .inl ⟨n,d,e⟩
 ·cases e
def lR{G:Gx}{X:Cx}{a:Expr}{ca cb:Ex}{pos:Pos}{rest:List Expr}(j:HU G X a ca)(i:Iy G X (.BoolOp .And (b :: rest) pos) cb):Iy G X (.BoolOp .And (a :: b :: rest) pos) (fH ca cb) :=
 PW.weak (C0 j i) λJ H Q h=>by
  obtain⟨M,U,m,r,k,s,e,f,q⟩:=h;rcases rL e with⟨n,d,e2⟩ | ⟨n,d,rfl,rfl⟩
  ·refine⟨M,U,n,_,B,s,d,rfl,λg e1=>?_⟩;refine xx ?_;exact⟨M,U,m,r,k,s.same e1,e2,f,λl e2=>q l (e1.trans e2)⟩
  ·refine⟨M,U,n,_,O,s,d,rfl,λg e1=>?_⟩;refine xq ?_;cases f;exact q g e1
def jD{G:Gx}{X:Cx}{a:Expr}{ca cb:Ex}{pos:Pos}{rest:List Expr}(j:HU G X a ca)(i:Iy G X (.BoolOp .Or (b :: rest) pos) cb):Iy G X (.BoolOp .Or (a :: b :: rest) pos) (JS ca cb) :=
 PW.weak (EC j i) λJ H Q h=>by
  obtain⟨M,U,m,r,k,s,e,f,q⟩:=h;rcases Ax e with⟨n,d,e2⟩ | ⟨n,d,rfl,rfl⟩
  ·refine⟨M,U,n,_,O,s,d,rfl,λg e1=>?_⟩;refine xq ?_;exact⟨M,U,m,r,k,s.same e1,e2,f,λl e2=>q l (e1.trans e2)⟩
  ·refine⟨M,U,n,_,B,s,d,rfl,λg e1=>?_⟩;refine xx ?_;cases f;exact q g e1
def qO(e:jF ca U=Z (m,r)):∃n b,ca U=Z (n,.bl b)/\m=.fr/\r=.bl (!b):=by
 obtain⟨⟨n,x⟩,d,e⟩:=Zz.mp e;split at e
 ·rename_i b h;cases (h);cases e;exact⟨n,b,d,rfl,rfl⟩
 ·cases e
def fG(f:HU G X a ca):HU G X (.UnaryOp .Not a pos) (jF ca):=PT.weak (BV f) λJ H Q d=>by
 obtain⟨M,U,m,r,k,s,e,g,q⟩:=d;obtain⟨n,b,h,rfl,rfl⟩:=qO e;cases g;exact⟨M,U,n,_,b,s,h,rfl,λi e1=>q i e1⟩
def wC(f:PV G X a ca):PV G X (.UnaryOp .Not a pos) (jF ca):=PE.weak (BQ f) λJ H Q d=>by
 obtain⟨M,U,m,r,s,e,q⟩:=d;obtain⟨n,b,g,rfl,rfl⟩:=qO e;exact⟨M,U,n,_,s,g,λv h F e1 r1 f1=>⟨b,r1.GK,q _ h _ e1 (.bl _) Fp.nil⟩⟩
def kT{op}(h:PV G X a ca):PV G X (.BoolOp op [a] pos) ca:=CT h
def iI{G:Gx}{X:Cx}{a:Expr}{ca cb:Ex}{pos:Pos}{rest:List Expr}(i:PV G X a ca)(h:PV G X (.BoolOp .And (b :: rest) pos) cb):PV G X (.BoolOp .And (a :: b :: rest) pos) (fH ca cb) :=
 PE.weak (CO i h) λJ H Q g=>by
  obtain⟨M,U,m,r,s,e,q⟩:=g;rcases rL e with⟨n,d,e2⟩ | ⟨n,d,rfl,rfl⟩
  ·refine⟨M,U,n,_,s,d,λv f F e1 r1 f1=>⟨B,r1.GK,?_⟩⟩;refine xx ?_;exact⟨M,U,m,r,s.same e1,e2,λv j F e2 r2 f2=>q v j F (e1.trans e2) r2 (f2.back e1)⟩
  ·refine⟨M,U,n,_,s,d,λv f F e1 r1 f1=>⟨O,r1.GK,?_⟩⟩;refine xq ?_;exact q _ f _ e1 (.bl _) Fp.nil
def vY(h:HU G X c cc)(j:PV G X a ca)(i:PV G X b cb):PV G X (.IfExp c a b pos) (Kx cc ca cb) :=
 PE.weak (wB h j i) λJ H Q g=>by
  refine L2.ar λt f=>?_;obtain⟨M,U,m,r,s,e,q⟩:=g;obtain⟨⟨n,x⟩,o,e⟩:=Zz.mp e;obtain⟨k,l,e⟩:=Zz.mp e;refine f ?_;refine⟨M,U,n,x,k,s,o,l,λu e1=>?_⟩;cases k with
  |true =>
   rw[Zp Y]at e;refine xx ?_;exact⟨M,U,m,r,s.same e1,e,λv d F e2 r2 f2=>q v d F (e1.trans e2) r2 (f2.back e1)⟩
  |false =>
   rw[Zn Zc]at e;refine xq ?_;exact⟨M,U,m,r,s.same e1,e,λv d F e2 r2 f2=>q v d F (e1.trans e2) r2 (f2.back e1)⟩
def tV(r:Rp G H v t F):decide (v=.non)=Lm t:=by
 cases r<;>simp[Lm]
def Bd{c:Ex}(h:tT G c J H Q)(f:∀U m r,c U=Z (m,r)->∃b,r=.bl b)(w:∀Q,tE G c J H Q->t J H Q):tB t J H Q:=by
 obtain⟨M,U,m,r,b,s,e,d,k⟩:=h;refine w _ ⟨M,U,m,r,s,e,λv i F e1 r1 f1=>?_⟩;obtain⟨j,g⟩:=f U m r e;rw[g]at d r1;cases (d);exact⟨_,r1.GK,k i e1⟩
end
section
def RpL.one{H:Hp}(r:RpL G H d [t] f):∃v F,d=[v]/\f=[F]/\Rp G H v t F:=by
 cases r with
 |cons r q=>cases q;exact⟨_,_,rfl,rfl,r⟩
def RpL.two(r:RpL G H g [t,h] i):∃v d F f,g=[v,d]/\i=[F,f]/\Rp G H v t F/\Rp G H d h f:=by
 cases r with
 |cons r q =>
  obtain⟨d,f,rfl,rfl,j⟩:=q.one;exact⟨_,_,_,_,rfl,rfl,r,j⟩
def DQ(K:W0):List V->Hp->VK->Prop:=λd H Q=>(∃x n,d=[x]/\En K x H n/\Q (.int n) H)\/(∃a f,d=[V.ref a]/\H a=Z (.dK f)/\Q (.int f.length) H)
def r6:cB X (.builtin "len") (λf H Q=>∃a d,f=[V.ref a]/\H a=Z (.dK d)/\Q (.int d.length) H):=by
 intro g s J H f m Q I r h;obtain⟨a,d,rfl,j,q⟩:=h;obtain⟨u,rfl,i⟩:=vals1 r;cases i;exact E6 I (.inl j) λt n l=>⟨.int d.length,H,l,⟨t,rfl⟩,q⟩
def vB:cB X (.builtin "len") (DQ X.K):=xp.or r6
def Cz:dE G (DQ G.K) cP:=by
 intro M U z H l j C m t Q A e k;refine L2.ar λy f=>?_;unfold cP at e;split at e
 ·rename_i x;obtain⟨u,x⟩:=x;obtain⟨n,d,e⟩:=Zu.mp e;cases e;obtain⟨v,F,rfl,rfl,r⟩:=(A.rp).one;have fin:=bf k (.int _);cases r with
  |non=>cases d
  |bl b=>cases d
  |int i=>cases d
  |str s g =>
   cases d;refine f ?_;exact .inl ⟨_,_,rfl,⟨by rw[dS,← gA];exact g.1,rfl⟩,by rw[dS];exact fin⟩
  |scr h =>
   cases d;refine f ?_;refine .inl ⟨_,_,rfl,.inl ⟨_,h.seq,rfl⟩,?_⟩;rw[Zy];exact fin
  |tup h q =>
   cases d;refine f ?_;refine .inl ⟨_,_,rfl,.inr ⟨_,GU.of h,rfl⟩,?_⟩;rw[q.len.1];exact fin
  |lst h q =>
   cases d;refine f ?_;refine .inl ⟨_,_,rfl,.inl ⟨_,FT.of h,rfl⟩,?_⟩;rw[q.len.1];exact fin
  |dct h g q =>
   cases d;refine f ?_;refine .inr ⟨_,_,rfl,h,?_⟩;rename_i w ws o _;rw[Yn,Zy]at fin;rw[Yn,q.len.1];exact fin
  |dctT h g q=>cases d
  |dctN h g n q=>cases d
  |dctZ _ _ _=>cases d
  |exc _ _=>cases d
  |ins _ _ _ _=>cases d
  |mk _ _=>cases d
 ·cases e
def y9:dE G (λd H Q=>∃i j,d=[.int i,.int j]/\Q (.int (if j > i then j else i)) H) qq:=by
 intro M U n H l g o m t Q A e k;unfold qq at e;split at e
 ·rename_i _ i _ j;cases e;obtain⟨v,h,F,q,rfl,rfl,r,f⟩:=(A.rp).two;exact⟨i,j,by rw[r.int_inv,f.int_inv],bf k (.int _)⟩
 ·cases e
def Ai:dE G (λd H Q=>∃i j,d=[.int i,.int j]/\Q (.int (if j<i then j else i)) H) rW:=by
 intro M U n H l g o m t Q A e k;unfold rW at e;split at e
 ·rename_i _ i _ j;cases e;obtain⟨v,h,F,q,rfl,rfl,r,f⟩:=(A.rp).two;exact⟨i,j,by rw[r.int_inv,f.int_inv],bf k (.int _)⟩
 ·cases e
def A9(K:W0):List V->Hp->VK->Prop:=λf H Q=>∃p d,f=[.ref p]/\(FT K H p d\/GU K H p d)/\∀l,H l=L->Q (.ref l) (upd H l (.lst d))
def uy:dE G (A9 G.K) Bp:=by
 intro M U n H l j o m t Q A e k;unfold Bp at e;split at e
 ·rename_i i x;obtain⟨v,F,rfl,rfl,f⟩:=(A.rp).one;obtain⟨a,d,Gs,rfl,rfl,h,g⟩:=f.lst_inv;exact⟨a,d,rfl,.inl (FT.of h),jb A.same e g ((A.fp.each 0 _ _ Y Y).sub (Yu _ _)) k⟩
 ·rename_i i x;obtain⟨v,F,rfl,rfl,f⟩:=(A.rp).one;obtain⟨a,d,Gs,rfl,rfl,h,g⟩:=f.GX;exact⟨a,d,rfl,.inr (GU.of h),jb A.same e g (A.fp.each 0 _ _ Y Y) k⟩
 ·cases e
def tO(G:Gx)(c:Option Ex):TO:=λJ H Q=>∃M U o,SR G M U J H/\rK c U=Z o/\∀d,aJ H d->Q o d
def N7(G:Gx)(X:Cx)(e:Option Expr)(c:Option Ex):Prop:=PO X e (tO G c)
def PO.weak{X:Cx}{e:Option Expr}{f:TO}(h:PO X e t)(w:∀J H Q,f J H Q->t J H Q):PO X e f:=λd s J H Q I q=>h d s J H Q I (w J H Q q)
def fO:N7 G X L L:=PO.weak Ad λJ H Q d=>by
 obtain⟨M,U,o,s,e,k⟩:=d;cases (e);exact k H (aJ.refl _)
def d8(h:PV G X a ca):N7 G X (Z a) (Z ca):=PO.weak (Aq h) λJ H Q f=>by
 obtain⟨M,U,o,s,e,k⟩:=f;obtain⟨⟨m,y⟩,g,e⟩:=Zz.mp (e);obtain⟨i,d,e⟩:=Zu.mp e;cases e;refine⟨M,U,m,y,s,g,λv l F e1 r1 f1=>?_⟩;cases y with
 |int j =>
  cases d;exact⟨_,r1.int_inv,k l e1⟩
 |_=>cases d
def kZ{α:Type}(l:List α)(d f:Option Int):cut l d f=(l.drop (HT.GC l.length 0 d)).take (HT.GC l.length l.length f-HT.GC l.length 0 d):=by
 cases d<;>cases f<;>rfl
theorem JD(a:Int)(n:Nat):max 0 (min a (n:Int))=((min a.toNat n:Nat):Int):=L2.JD a n
def NP{k:Nat}(h:(k:Nat)<=n):max 0 (min (k:Int) (n:Int))=(k:Int):=by rw[JD,Z9,Yd h]
def yW(a:Int)(n:Nat):max 0 (min a (n:Int))=max 0 (min ((min a.toNat n:Nat):Int) (n:Int)):=by
 rw[JD,JD,Z9,Nat.min_assoc,Xh]
def x5(d f:Option Int)(n:Nat):Builtin.Str.strSliceIndices d f 1 n=Builtin.Str.strSliceIndices (Z ((min (HT.GC n 0 d) n:Nat):Int)) (Z ((min (HT.GC n n f) n:Nat):Int)) 1 n:=by
 have nn:∀k:Nat,¬((k:Int)<0):=λk=>by lia
 unfold Builtin.Str.strSliceIndices;simp only[show (1:Int) > 0 by decide,if_true,nn,if_false];congr 1
 ·cases d with
  |none=>simp only[HT.GC];rw[JD,Z9,Nat.zero_min,Nat.zero_min];rfl
  |some i =>
   simp only[HT.GC];by_cases h:i<0
   ·simp only[h,if_true];exact yW _ _
   ·simp only[h,if_false];rw[Nat.min_assoc,Xh];exact yW _ _
 ·cases f with
  |none=>simp only[HT.GC];rw[JD,Z9,Xh,Xh]
  |some i =>
   simp only[HT.GC];by_cases h:i<0
   ·simp only[h,if_true];exact yW _ _
   ·simp only[h,if_false];rw[Nat.min_assoc,Xh];exact yW _ _
def oa(s:Tx)(d f:Option Int):PySem.StrLaws.sliceText (sx s) d f=sx (cut s d f):=by
 have key:PySem.StrLaws.sliceText (sx s) d f=PySem.StrLaws.sliceText (sx s) (Z ((min (HT.GC s.length 0 d) s.length:Nat):Int)) (Z ((min (HT.GC s.length s.length f) s.length:Nat):Int)):=by
  unfold PySem.StrLaws.sliceText;rw[dS,x5]
 rw[key];have hd:∀a:Nat,s.drop (min a s.length)=s.drop a:=λa=>by
  by_cases h:a<=s.length
  ·rw[Yd h]
  ·rw[X0 (by exact XZ h),Y1 (Zm _),Y1 (by exact XZ h)]
 by_cases h:min (HT.GC s.length 0 d) s.length<=min (HT.GC s.length s.length f) s.length
 ·rw[PySem.StrLaws.sliceText_nat (sx s) h (by rw[dS];exact Xw _ _),kZ];show (⟨_⟩:Str)=⟨_⟩;congr 2;have:(sx s).cps.toList=s:=rfl;rw[this,hd];by_cases i:HT.GC s.length 0 d<=s.length
  ·rw[Yd i];by_cases g:HT.GC s.length s.length f<=s.length
   ·rw[Yd g]
   ·rw[X0 (by exact XZ g),Y0 (by rw[YC];exact Zm _),Y0 (by rw[YC];lia)]
  ·rw[Y1 (by exact XZ i)];simp
 ·have j:cut s d f=[]:=by
   rw[kZ];have:HT.GC s.length s.length f-HT.GC s.length 0 d=0:=by omega
   rw[this,List.take_zero]
  rw[j];unfold PySem.StrLaws.sliceText;have e2:Builtin.Str.strSliceIndices (Z ((min (HT.GC s.length 0 d) s.length:Nat):Int)) (Z ((min (HT.GC s.length s.length f) s.length:Nat):Int)) 1 (sx s).length=[]:=by
   have e1:∀k:Nat,¬((k:Int)<0):=λk=>by lia
   unfold Builtin.Str.strSliceIndices sliceRange;simp only[show (1:Int) > 0 by decide,if_true,e1,if_false,dS];rw[NP (Xw _ _),NP (Xw _ _),Zn λz=>h (Xv (Wf.mp z))];rfl
  rw[e2];have:¬((1:Int)==1&&([]:W7).length==(sx s).length)=B:=by
   rw[dS];simp;lia
  rw[Zn this];rfl
noncomputable def E4:V->Option Int->Option Int->Hp->VK->Prop:=λx lo hi H Q=>∃z,x=.str z/\z.length<=IR/\Q (.str (PySem.StrLaws.sliceText z lo hi)) H
def part_of(h:IsPart v o):∃q:Option (Int×Tok),v=partValue q/\o=q.map (·.1):=by
 cases h with
 |none=>exact⟨L,rfl,rfl⟩
 |int i t=>exact⟨Z (i,t),rfl,rfl⟩
def pF{α β:Type}(f:α->Option β)(l:List α):(l.filterMap f).length<=l.length:=List.length_filterMap_le f l
def Ab(d f:Option Int)(n:Nat):(Builtin.Str.strSliceIndices d f 1 n).length<=n:=by
 rw[x5];by_cases h:min (HT.GC n 0 d) n<=min (HT.GC n n f) n
 ·rw[PySem.StrLaws.strSliceIndices_plain h (by exact Xw _ _),Zy,Z1];lia
 ·have e1:∀k:Nat,¬((k:Int)<0):=λk=>by lia
  unfold Builtin.Str.strSliceIndices sliceRange;simp only[show (1:Int) > 0 by decide,if_true,e1,if_false];rw[NP (Xw _ _),NP (Xw _ _),Zn λz=>h (Xv (Wf.mp z))];simp
def BJ:K6 X E4:=by
 intro f s J H x v o n lo hi r Q I g m pl pu h;refine L2.ar λw i=>?_;obtain⟨z,rfl,j,q⟩:=h;obtain⟨t,rfl⟩:=g;obtain⟨l,rfl,rfl⟩:=part_of pl;obtain⟨u,rfl,rfl⟩:=part_of pu;refine i ?_;refine⟨"str",_,F.slot_str_getitem.lookup,Ww s z t,wpAny_getItem_str_slice (l:=l) (u:=u) (st:=L) m Y ?_⟩;unfold sliceMade;split
 ·rename_i d;refine⟨.str z,H,I,⟨t,rfl⟩,?_⟩;have e:PySem.StrLaws.sliceText z (l.map (·.1)) (u.map (·.1))=z:=by
   exact Zp d
  rw[e]at q;exact q
 ·rename_i d;refine⟨ZY ?_ j,.str _,H,I.tok _,⟨_,rfl⟩,?_⟩
  ·show (List.filterMap _ _).toArray.size<=_;rw[ZQ];exact ZY (pF _ _) (Ab _ _ _)
  ·have e:PySem.StrLaws.sliceText z (l.map (·.1)) (u.map (·.1))=⟨((slicePicked z l u L).filterMap (z.cps[·]?)).toArray⟩:=by
    exact Zn d
   rw[e]at q;exact q
def Sz(K:W0):V->Option Int->Option Int->Hp->VK->Prop:=λx lo hi H Q=>E4 x lo hi H Q\/DO K x lo hi H Q
def FL:K6 X (Sz X.K):=BJ.or z9
def AY{α:Type}(l:List α)(d f:Option Int):(cut l d f).length<=l.length:=by
 rw[kZ,Wa,YC];lia
theorem RpL.cut(r:RpL G H g i j)(d f:Option Int):RpL G H (vW g d f) (VS.cut i d f) (VS.cut j d f):=by
 have h:=r.len;rw[kZ,kZ,h.2];unfold vW;rw[h.1];exact(r.drop _).take _
def tN{α:Type}(l:List α)(d f:Option Int):(VS.cut l d f).Sublist l:=by
 rw[kZ];exact(List.take_sublist _ _).trans (List.drop_sublist _ _)
def wX{F G:Wm}(h:F.Sublist G):F.flatten.Sublist G.flatten:=by
 induction h with
 |slnil=>exact Xf _
 |cons a _ d=>rw[ZR];exact d.trans (YN _ _)
 |cons_cons a _ d=>rw[ZR,ZR];exact(Xf _).append d
def fj(ha:PV G X a ca)(d:N7 G X j r)(S:N7 G X n u)(hK:{`q2,X.K=G.K}):PV G X (.Subscript a (.Slice j n L D) pos) (HM ca r u) :=
 PE.weak (xu FL ha d S) λJ H Q R=>by
  refine L2.ar λP_ P=>?_;obtain⟨M,U,m,t,s,e,k⟩:=R;obtain⟨⟨E,x⟩,ea,o⟩:=Zz.mp e;obtain⟨l,el,w⟩:=Zz.mp o;obtain⟨h,eh,f⟩:=Zz.mp w;refine P ?_;clear e o w;refine⟨M,U,E,x,s,ea,λv H1 F e1 r1 f1=>⟨M,U,l,s.same e1,el,λH2 e2=>⟨M,U,h,(s.same e1).same e2,eh,λH3 e3=>?_⟩⟩⟩;have g:=(e1.trans e2).trans e3;have i:=(r1.same e2).same e3;unfold MD at f;split at f
  ·rename_i N z q;cases q;cases f;obtain⟨rfl,d⟩:=i.str_inv;refine .inl ⟨_,rfl,by rw[dS,← gA];exact d.1,?_⟩;rw[oa];exact k _ H3 _ g (.str _ ⟨ZY (AY _ _ _) d.1,λc Y=>d.2 c ((tN _ _ _).subset Y)⟩) Fp.nil
  ·rename_i N z q;cases q;obtain⟨a',y,Fs,rfl,rfl,Gj,A⟩:=i.lst_inv;refine .inr ⟨a',y,rfl,by rw[hK];exact FT.of Gj,jb g f (A.cut l h) ((f1.sub (Yu _ _)).sub (wX (tN _ _ _))) λv H4 F e5 C f4=>k v H4 F (g.trans e5) C f4⟩
  ·cases f
noncomputable def Jl:Ty->String
 |.int => "int"
 |.str => "str"
 |.bool => "bool"
 |.list => "list"
 |.tuple => "tuple"
 |.dict => "dict"
def SA(K:W0):List V->Hp->VK->Prop:=λd H Q=>∃x c t b,d=[x,.ty c]/\GL K H x t/\PySem.W.kitOne K t (.type c)=Z b/\Q (.bl b) H
def Ak:cB X (.builtin "isinstance") (SA X.K):=by
 intro d s J H f i Q I r h;obtain⟨x,c,t,b,rfl,ty,e,q⟩:=h;obtain⟨u,g,rfl,r1,r2⟩:=vals2 r;cases r2;exact uS I r1 ty e λj=>⟨.bl b,H,I.tok _,rfl,q⟩
def pE(K:W0)(d:Ty):(PySem.W.kitOne K (.type "NoneType") (.type (Jl d))=Z O)/\(PySem.W.kitOne K (.type "bool") (.type (Jl d))=Z (jz d (.bl B)))/\(PySem.W.kitOne K (.type "int") (.type (Jl d))=Z (jz d (.int 0))) ∧
  (PySem.W.kitOne K (.type "str") (.type (Jl d))=Z (jz d (.str [])))/\(PySem.W.kitOne K (.type "list") (.type (Jl d))=Z (jz d (.lst [])))/\(PySem.W.kitOne K (.type "tuple") (.type (Jl d))=Z (jz d (.tup [])))/\(PySem.W.kitOne K (.type "dict") (.type (Jl d))=Z (jz d (.dct 0 []))):=by
 cases d<;>refine⟨?_,?_,?_,?_,?_,?_,?_⟩<;>kernel_rfl
def Ef(d:Ty)(r:Rp G H v t F)(h:lS t=B):∃g,GL G.K H v g/\PySem.W.kitOne G.K g (.type (Jl d))=Z (jz d t):=by
 obtain⟨y,x,w,u,o,m,j⟩:=pE G.K d;cases r with
 |non=>exact⟨_,.non,by rw[y];cases d<;>rfl⟩
 |bl b=>exact⟨_,.bl b,by rw[x];cases d<;>rfl⟩
 |int i=>exact⟨_,.int i,by rw[w];cases d<;>rfl⟩
 |str s _=>exact⟨_,.str _,by rw[u];cases d<;>rfl⟩
 |scr _=>cases h
 |tup f q=>exact⟨_,.tup f,by rw[m];cases d<;>rfl⟩
 |lst f q=>exact⟨_,.lst f,by rw[o];cases d<;>rfl⟩
 |dct f l q=>exact⟨_,.dK f,by rw[j];cases d<;>rfl⟩
 |dctT f l q=>exact⟨_,.dT f,by rw[j];cases d<;>rfl⟩
 |dctN f l n q=>simp at h
 |dctZ _ _ _=>cases h
 |exc _ _=>cases h
 |ins _ _ _ _=>cases h
 |mk _ _=>cases h
def Ee(f:Ty)(D:PV G X a ca)(C:Gl X "isinstance")(z:X.mg "isinstance" = L)(R:Gl X x)(S:X.mg x=L)(r:bootBuiltins x=Z (.type (Jl f)))(j:{`q2,X.K=G.K})(w:{`q1,x ≠ "__name__"})(G4:{`q1,K3 x})(i:{`q2,PP [a,.Name x d] X.env=(O,eval a X.env) :: PP [.Name x d] X.env})(JZ:{`q2,PP [.Name x d] X.env=(O,eval (.Name x d) X.env) :: PP [] X.env})(g:{`q2,(backTo pos (PP [Expr.Name x d] X.env)).any (·.1)=O}) :
  PV G X (.Call (.Name "isinstance" n) [a,.Name x d] [] pos) (Hy f ca) :=
 PE.weak (kG Ak C z boot_isinstance (dz D (dz (oU (v:=.ty (Jl f)) R S r Y w G4) iR JZ) i) (by decide) Y i g) λJ H Q u=>by
  refine L2.ar λP_ q=>?_;obtain⟨M,U,m,t,s,e,k⟩:=u;obtain⟨⟨o,y⟩,P,h⟩:=Zz.mp e;refine q ?_;split at h
  ·rename_i A;cases h;refine⟨M,U,o,y,s,P,λv H' F e1 r1 f1=>?_⟩;obtain⟨l,N,E⟩:=Ef f r1 A;exact⟨v,Jl f,l,_,rfl,by rw[j];exact N,by rw[j];exact E,k _ H' _ e1 (.bl _) Fp.nil⟩
  ·cases h
end
section
def Dy(G:Gx)(r:V->List V->Hp->VK->Prop)(f:Val->Vy->Vx):Prop:=∀(M:FP)(U:VS.Env)(d i H:Hp)(x:Val)(v:V)(F:W4)(l:Vy)(h:List V)(j:Wm)(m:Md)(t:T)(Q:VK),
 aJ d i->Rp G H v x.2 F->Fp M U d x.1 F->Args G M U i H l h j->f x l=Z (m,t)->(∀v g F,aJ H g->Rp G g v t F->Fp M U d m F->Q v g)->r v h H Q
def Bo{g:Pos}(C:PlainAttrs n)(h:Slot n d j)(Kt:typeOf (.builtin j)=pure (.type "method_descriptor"))(S:LV X j r)(D:Dy G r f)(hT:∀H v (x:Val) F l z,Rp G H v x.2 F->f x l=Z z->Ki G.K n v H)(R:PV G X a ca)(Y:GE G X (e :: es) cs)(hK:{`q2,X.K=G.K})(FO:{`q2,SZ a d X.env (eval a X.env)=eval a X.env})(Gw:{`q2,((backTo i (PP (e :: es) X.env)).all (λx=>!x.1)&&(backToKw i (Re [] X.env)).all (λx=>x.1.isSome)
   && decide ((e :: es).length+([]:List Keyword).length+(if ([]:List Keyword).isEmpty then 0 else 1)<30))=B})(u:{`q2,(g.endLine==i.line)=B})(N:{`q2,K1 e es X})(FQ:{`q2,K2 i es X}) :
  PV G X (.Call (.Attribute a d g) (e :: es) [] i) (eM f ca cs) :=
 PE.weak (uI C h Kt S R Y FO Gw u N FQ) λJ H Q P=>by
  refine L2.ar λP_ E=>?_;obtain⟨M,U,m,t,s,e,k⟩:=P;obtain⟨x,ea,e'⟩:=Zz.mp e;obtain⟨l,el,o⟩:=Zz.mp e';refine E ?_;refine⟨M,U,x.1,x.2,s,ea,λv q F e1 r1 f1=>⟨by rw[hK];exact hT q v x F l _ r1 o,M,U,l,s.same e1,el,λw H2 Fs e2 r2 f2=>?_⟩⟩;exact D M U H q H2 x v F l w Fs m t Q e1 (r1.same e2) f1 ⟨e2,r2,f2⟩ o λy H3 F' e3 A f3=>k y H3 F' ((e1.trans e2).trans e3) A f3
def Ag:∀(sep:Tx)(d:List Tx),Txt.join (sx sep) (d.map sx)=sx (bc sep d):=by
 intro sep d;have fold:∀(l:List Tx)(acc:Tx),(l.map sx).foldl (λacc p=>acc++(sx sep).cps++p.cps) acc.toArray=(l.foldl (λacc p=>acc++sep++p) acc).toArray:=by
  intro l
  induction l with
  |nil=>intro acc;rfl
  |cons x r f =>
   intro acc;rw[Zi,List.foldl_cons,List.foldl_cons,← f];congr 1;simp[sx]
 have g:∀(r:List Tx)(acc:Tx),r.foldl (λacc p=>acc++sep++p) acc=bc sep (acc :: r):=by
  intro r
  induction r with
  |nil=>intro acc;rfl
  |cons x r f =>
   intro acc;rw[List.foldl_cons,f];cases r with
   |nil=>rfl
   |cons y r=>simp[bc]
 cases d with
 |nil=>rfl
 |cons x r =>
  show (⟨_⟩:Str)=⟨_⟩;congr 1;show ((r.map sx).foldl _ x.toArray)=_;rw[fold,g]
theorem pR:∀{d:List V}{l:Vw}{g:Wm}{f:List Tx},RpL G H d l g->strs? l=Z f->d=f.map λs=>V.str (sx s)
 |_,_,_,_,.nil,e=>by cases e;rfl
 |_,_,_,_,.cons (t:=t) r q,e=>by
  cases t with
  |str s =>
   obtain⟨h,e1,e2⟩:=Zu.mp e;subst e2;rw[pR q e1,r.str_inv.1];rfl
  |_=>cases e
theorem mr:∀{d:List Tx}{f:W5},aK (d.map λs=>V.str (sx s)) f->StrsAre f (d.map sx)
 |[],_,h=>by cases h;exact .nil
 |s :: d,_,h=>by
  cases h with
  |cons r q =>
   obtain⟨t,rfl⟩:=r;exact .cons _ _ (mr q)
def rJoin(K:W0):V->List V->Hp->VK->Prop:=λx f H Q=>∃sep p d,x=.str (sx sep)/\f=[.ref p]/\FT K H p (d.map λs=>V.str (sx s))/\total d+d.length*sep.length<=16777216/\Q (.str (sx (bc sep d))) H
theorem ud:∀d:List Tx,((d.map sx).map (·.length)).sum=total d
 |[]=>rfl
 |s :: r=>by
  rw[Zi,Zi,XX,ud r,dS];rfl
def zU:LV X "str.join" (rJoin X.K):=by
 intro d s J H x n v o Q I f m h;refine L2.ar λC i=>?_;obtain⟨sep,p,y,rfl,rfl,j,l,q⟩:=h;obtain⟨t,rfl⟩:=f;obtain⟨u,rfl,g⟩:=vals1 m;cases g;obtain⟨A,r,pl,z⟩:=I.list j;refine i ?_;refine join_list pl.isList (by simpa using mr r) ?_ λw k=>⟨.str _,H,I.tok _,⟨_,by rw[Ag]⟩,q⟩
 rw[ud,Zy,dS];exact l
theorem nH(d:Tx):∀f:List Tx,(bc d f).length<=total f+f.length*d.length
 |[]=>by simp[bc,total]
 |[x]=>by simp[bc,total]
 |x :: y :: r=>by
  have:=nH d (y :: r);simp only[bc,total,Zt,Zf]at this ⊢;lia
theorem mh(d:Tx):∀(f:List Tx)(c:Nat),c∈bc d f->c∈d\/∃s∈f,c∈s
 |[],c,h=>by simp[bc]at h
 |[x],c,h=>.inr ⟨x,Zw,h⟩
 |x :: y :: r,c,h=>by
  simp only[bc,Zd]at h;rcases h with (h | h) | h
  ·exact .inr ⟨x,Zw,h⟩
  ·exact .inl h
  ·refine(mh d (y :: r) c h).imp id λj=>?_;obtain⟨s,g,i⟩:=j;exact⟨s,Zx _ g,i⟩
theorem m9:∀{g:List V}{l:Vw}{h:Wm}{f:List Tx},RpL G H g l h->strs? l=Z f->∀s∈f,∀c∈s,c<1114112
 |_,_,_,_,.nil,e,s,d=>by cases e;simp at d
 |_,_,_,_,.cons (t:=t) r q,e,s,d=>by
  cases t with
  |str x =>
   obtain⟨i,e1,e2⟩:=Zu.mp e;subst e2;rcases Zk.mp d with rfl | d
   ·exact r.str_inv.2.2
   ·exact m9 q e1 s d
  |_=>cases e
def A1:Dy G (rJoin G.K) iX:=by
 intro M U R P H x v F l C S m t Q N r f A e k;unfold iX at e;split at e
 ·rename_i D sep E J;obtain⟨d,n,g⟩:=Zz.mp e;split at g
  ·rename_i i;cases g;obtain⟨z,Y,rfl,rfl,q⟩:=(A.rp).one;obtain⟨u,ws,Gs,rfl,rfl,j,h⟩:=q.lst_inv;rw[pR h n]at j;refine⟨sep,u,d,r.str_inv.1,rfl,FT.of j,i,bf k (.str _ ⟨ZY (nH sep d) i,λc s=>(mh sep d c s).elim (r.str_inv.2.2 c) λ⟨o,w,y⟩=>m9 h n o w c y⟩)⟩
  ·cases g
 ·cases e
def rg(r:Rp G H v t F)(h:∃s,t=.str s):Ki G.K "str" v H:=by
 obtain⟨s,rfl⟩:=h;rw[r.str_inv.1];rfl
def lY{d:Pos}(j:PV G X a ca)(m:GE G X [e] cs)(g:{`q2,X.K=G.K})(q:{`q2,SZ a "join" X.env (eval a X.env)=eval a X.env})(n:{`q2,((backTo f (PP [e] X.env)).all (λx=>!x.1)&&(backToKw f (Re [] X.env)).all (λx=>x.1.isSome)
   && decide ([e].length+([]:List Keyword).length+(if ([]:List Keyword).isEmpty then 0 else 1)<30))=B})(h:{`q2,(d.endLine==f.line)=B})(i:{`q2,K1 e [] X})(o:{`q2,(backTo f (PP [] X.env)).any (·.1)=O}) :
  PV G X (.Call (.Attribute a "join" d) [e] [] f) (eM iX ca cs) :=
 Bo PySem.F.plainAttrs_str PySem.F.slot_str_join PySem.F.type_str_join (g ▸ zU) A1 (λH v x F l z r e=>rg r (by
  unfold iX at e;split at e
  ·exact⟨_,rfl⟩
  ·cases e)) j m g q n h i o
end
end VS
end
section
namespace VS
@[simp] def HI(x y:Val):Vx:=match x.2 with
 |.dct 0 l=>if jB y.2 then (ft l y.2).map (sub x.1) else L
 |_=>ay x y
noncomputable def flat:T->Bool
 |.non=>B
 |.bl _=>B
 |.int _=>B
 |.str _=>B
 |_=>O
@[simp] def mE(x y:Val):Vx:=match y.2 with
 |.dct 0 l=>if jB x.2 then Z (.fr,.bl (ft l x.2).isSome) else L
 |.lst l=>if flat x.2&&l.all flat then Z (.fr,.bl (l.any λy=>eqT y x.2)) else L
 |.tup l=>if flat x.2&&l.all flat then Z (.fr,.bl (l.any λy=>eqT y x.2)) else L
 |_=>L
@[simp] def dy(x y:Val):Vx:=match mE x y with
 |some (_,.bl b)=>Z (.fr,.bl (!b))
 |_=>L
def pm{α:Type}(f:T->Option (T×α)):List Ky->T->Option (T×α)
 |[],t=>f t
 |.fld k :: r,t=>match t with
  |.obj (c+1) (q :: fs)=>(fs.findIdx? λp=>p.1==k).bind λi=>(fs[i]?).bind λp=>(pm f r p.2).map λz=>(.obj (c+1) (q :: fs.set i (p.1,z.1)),z.2)
  |_=>L
 |.un :: r,t=>match t with
  |.obj 0 [(0,.bl true),(m,x)]=>(pm f r x).map λz=>(.obj 0 [(0,.bl B),(m,z.1)],z.2)
  |_=>L
 |.at k :: r,t=>match t with
  |.lst l=>match k with
   |.int i=>(G8 l.length i).bind λj=>(l[j]?).bind λx=>(pm f r x).map λz=>(.lst (l.set j z.1),z.2)
   |_=>L
  |.dct 0 l=>if jB k then (l.findIdx? λp=>eqT p.1 k).bind λi=>(l[i]?).bind λp=>(pm f r p.2).map λz=>(.dct 0 (l.set i (p.1,z.1)),z.2) else L
  |_=>L
end VS
end
section
namespace VS
open PySem PySem.Spec PyProof.Rows L2
section
mutual
def IK:T->PyData
 |.non=>.none
 |.bl b=>.bool b
 |.int i=>.int i
 |.str s=>.str (sx s)
 |.tup l=>.tuple (n6 l)
 |.lst l=>.list (n6 l)
 |_=>.none
def n6:Vw->List PyData
 |[]=>[]
 |t :: r=>IK t :: n6 r
end
def ED(h:lz s):PyData.strOk (sx s)=B:=by
 unfold PyData.strOk sx;simp only[Array.all_eq_true,decide_eq_true_eq];intro i hi;have:s.toArray[i]∈s:=by simp
 have:=h.2 _ this;simpa using this
def xR:(sx s==sx t)=(s==t):=by
 rw[X7,beq_iff_eq,beq_iff_eq];constructor
 ·intro h;have:(sx s).cps=(sx t).cps:=by rw[h]
  simpa[sx] using this
 ·intro h;rw[h]
mutual
theorem pN:∀(n k:Nat)(t u:T),GD n t=B->GD k u=B->PyData.eqv (IK t) (IK u)=eqT t u
 |n,k,t,u,b,a=>by
  cases t with
  |scr _=>cases n<;>cases b
  |dct _ _=>cases n<;>cases b
  |obj _ _=>cases n<;>cases b
  |tup l =>
   cases n with
   |zero=>cases b
   |succ n =>
    cases u with
    |tup r =>
     cases k with
     |zero=>cases a
     |succ k =>
      exact mM n k l r (ZE.mp b) (ZE.mp a)
    |scr _=>cases k<;>cases a
    |dct _ _=>cases k<;>cases a
    |obj _ _=>cases k<;>cases a
    |_=>rfl
  |lst l =>
   cases n with
   |zero=>cases b
   |succ n =>
    cases u with
    |lst r =>
     cases k with
     |zero=>cases a
     |succ k =>
      exact mM n k l r (ZE.mp b) (ZE.mp a)
    |scr _=>cases k<;>cases a
    |dct _ _=>cases k<;>cases a
    |obj _ _=>cases k<;>cases a
    |_=>rfl
  |str s =>
   cases u with
   |str r=>exact xR
   |scr _=>cases k<;>cases a
   |dct _ _=>cases k<;>cases a
   |obj _ _=>cases k<;>cases a
   |_=>rfl
  |_ =>
   cases u with
   |scr _=>cases k<;>cases a
   |dct _ _=>cases k<;>cases a
   |obj _ _=>cases k<;>cases a
   |_=>rfl
theorem mM:∀(n k:Nat)(l r:Vw),(∀t∈l,GD n t=B)->(∀t∈r,GD k t=B)->PyData.eqvAll (n6 l) (n6 r)=rE l r
 |_,_,[],[],_,_=>rfl
 |_,_,[],_ :: _,_,_=>rfl
 |_,_,_ :: _,[],_,_=>rfl
 |n,k,t :: l,u :: r,d,b=>by
  show (PyData.eqv (IK t) (IK u)&&PyData.eqvAll (n6 l) (n6 r))=(eqT t u&&rE l r);rw[pN n k t u (d t Zw) (b u Zw),mM n k l r (λx a=>d x (Zx _ a)) λx a=>b x (Zx _ a)]
end
def Rp.Jw(r:Rp G H v (.tup d) F):∃b a e,v=.ref b/\H b=Z (.tup a)/\RpL G H a d e:=by
 cases r with
 |tup h q=>exact⟨_,_,_,rfl,h,q⟩
def Rp.JF(r:Rp G H v (.lst d) F):∃b a e,v=.ref b/\H b=Z (.lst a)/\RpL G H a d e:=by
 cases r with
 |lst h q=>exact⟨_,_,_,rfl,h,q⟩
theorem kK{s:FS}(f:∀{v:V}{t:T}{F:W4}{u:KF},Rp G H v t F->RelV v u->GD n t=B->∃b,Reads s.heap u (IK t) b/\(IK t).canLay0=B/\(IK t).depth<=n):∀{d:List V}{a:Vw}{y:Wm}{e:W5},RpL G H d a y->aK d e->(∀t∈a,GD n t=B) →
  ∃b,ReadsAll s.heap e (n6 a) b/\PyData.canLayAll0 (n6 a)=B/\PyData.depthAll (n6 a)<=n
 |_,_,_,_,.nil,r,_=>by cases r;exact⟨_,.nil,rfl,Yw _⟩
 |_,_,_,_,.cons p q,r,h=>by
  cases r with
  |cons r1 r2 =>
   refine L2.ar λz g=>?_;obtain⟨b,m,l,j⟩:=f p r1 (h _ Zw);obtain⟨bs,x,w,o⟩:=kK f q r2 λt i=>h t (Zx _ i);refine g ?_;exact⟨_,.cons m x,Zb.mpr ⟨l,w⟩,Nat.max_le.mpr ⟨j,o⟩⟩
def mN(r:Rp G H v t F)(a:RelV v u)(d:flat t=B):∃e,Reads h u (IK t) e/\(IK t).canLay0=B/\(IK t).depth<=n:=by
 cases r with
 |non=>cases a;exact⟨_,.none,rfl,Yw _⟩
 |bl b=>cases a;exact⟨_,.bool b,rfl,Yw _⟩
 |int i=>obtain⟨t,rfl⟩:=a;exact⟨_,.int i t,rfl,Yw _⟩
 |str s h=>obtain⟨t,rfl⟩:=a;exact⟨_,.str _ t,ED h,Yw _⟩
 |_=>cases d
def ki(I:Inv X d J H s)(n:Nat):∀{v:V}{t:T}{F:W4}{u:KF},Rp G H v t F->RelV v u->GD n t=B->∃w,Reads s.heap u (IK t) w/\(IK t).canLay0=B/\(IK t).depth<=n:=by
 induction n with
 |zero =>
  intro v t F u r a h;refine mN r a ?_;cases t<;>first | rfl | exact h
 |succ n x =>
  intro v t F u r a h;cases t with
  |tup l =>
   obtain⟨b,y,E,rfl,e,q⟩:=Rp.Jw r;cases a;obtain⟨D,f,z,C⟩:=I.tuple (GU.of e);obtain⟨w,p,m,j⟩:=kK x q f (ZE.mp h);obtain⟨o,g,i,A,hd⟩:=z;exact⟨_,.tuple g i hd (by simpa using p),m,Yl j⟩
  |lst l =>
   obtain⟨b,y,E,rfl,e,q⟩:=Rp.JF r;cases a;obtain⟨D,f,pl,C⟩:=I.list (FT.of e);obtain⟨w,p,m,j⟩:=kK x q f (ZE.mp h);obtain⟨o,g,i,A,hd⟩:=pl.isList;exact⟨_,.list g i hd (by simpa using p),m,Yl j⟩
  |scr _=>cases h
  |dct _ _=>cases h
  |obj _ _=>cases h
  |_=>exact mN r a Y
def zB(G:Gx)(a:Bool):R2:=λx y H Q=>∃t u F b,Rp G H x t F/\Rp G H y u b/\GD 60 t=B/\GD 60 u=B/\Q (.bl (if a then !eqT t u else eqT t u)) H
def ja{d:PyData}(h:d.canLay0=B)(a:d.depth<=60):SeqAt.shaped d=B:=by
 unfold SeqAt.shaped;rw[h,Bool.true_and];exact decide_eq_true (by lia)
def wx(g:X.A.units+64<cLine):OpR X (SB .Eq) (zB G O):=by
 intro a s J H x y v u Q I f e h;obtain⟨t,w,F,r,r1,r2,d,b,q⟩:=h;obtain⟨p,o,n,m⟩:=ki I 60 r1 f d;obtain⟨bs,l,j,i⟩:=ki I 60 r2 e b;refine eq_dataH o l (ja n m) (ja j i) g ⟨.bl _,H,I,rfl,?_⟩;rw[pN 60 60 t w d b];exact q
def CF(g:X.A.units+64<cLine):OpR X (SB .NotEq) (zB G B):=by
 intro a s J H x y v u Q I f e h;obtain⟨t,w,F,r,r1,r2,d,b,q⟩:=h;obtain⟨p,o,n,m⟩:=ki I 60 r1 f d;obtain⟨bs,l,j,i⟩:=ki I 60 r2 e b;refine ne_dataH o l (ja n m) (ja j i) g ⟨.bl _,H,I,rfl,?_⟩;rw[pN 60 60 t w d b];exact q
def BA:fU G (zB G O) oEq:=by
 intro M U b H x y u w f d m t Q a e k;unfold oEq at e;split at e
 ·rename_i h;cases e;exact⟨_,_,_,_,a.r1,a.r2,h.1,h.2,bf k (.bl _)⟩
 ·cases e
def E8:fU G (zB G B) IQ:=by
 intro M U b H x y u w f d m t Q a e k;unfold IQ at e;split at e
 ·rename_i h;cases e;exact⟨_,_,_,_,a.r1,a.r2,h.1,h.2,bf k (.bl _)⟩
 ·cases e
def tells_eq:Tells oEq:=by
 intro x y m t e;unfold oEq at e;split at e<;>first | (cases e;exact⟨_,rfl⟩) | cases e
def yO:Tells IQ:=by
 intro x y m t e;unfold IQ at e;split at e<;>first | (cases e;exact⟨_,rfl⟩) | cases e
end
structure GA(M:FP)(U:VS.Env)(H:Hp)(M':FP)(U':VS.Env)(H':Hp):Prop where
 keep:∀a o,H a=some o->¬cE M U a->H' a=some o/\¬cE M' U' a
 Ge:∀a,H a≠none->H' a≠none
 ow:∀a,cE M' U' a->cE M U a\/H a=none
 pu:∀a,eR M' U' a->eR M U a\/cE M U a\/H a=none
 kept:Kept H H'
theorem GA.refl(M:FP)(U:VS.Env)(H:Hp):GA M U H M U H:=⟨λa o h n=>⟨h,n⟩,λ_ h=>h,λ_ h=>.inl h,λ_ h=>.inl h,Kept.refl H⟩
theorem GA.none(f:GA M U H g d b)(h:b a=L):H a=L:=by
 cases e:H a with
 |none=>rfl
 |some o=>exact absurd h (f.Ge a (by rw[e];exact λz=>nomatch z))
theorem GA.trans{M e d:FP}{U U1 b:VS.Env}{H j i:Hp}(f:GA M U H e U1 j)(g:GA e U1 j d b i):GA M U H d b i where
 keep:=λa o h n=>let ⟨m,l⟩:=f.keep a o h n;g.keep a o m l
 Ge:=λa h=>g.Ge a (f.Ge a h)
 ow:=λa h=>by
  rcases g.ow a h with h | h
  ·exact f.ow a h
  ·exact .inr (f.none h)
 pu:=λa h=>by
  rcases g.pu a h with h | h | h
  ·exact f.pu a h
  ·rcases f.ow a h with h | h
   ·exact .inr (.inl h)
   ·exact .inr (.inr h)
  ·exact .inr (.inr (f.none h))
 kept:=f.kept.trans g.kept
def GA.same{H:Hp}(e:aJ H b):GA M U H M U b :=
 ⟨λa o h n=>⟨e a o h,n⟩,λa h z=>h (e.free z),λ_ h=>.inl h,λ_ h=>.inl h,Kept.of e⟩
def qN(M:FP)(U:VS.Env)(H:Hp):Md->W4->Prop
 |.fr,F=>F.Nodup/\∀a∈F,H a=L\/cE M U a
 |_,F=>∀a∈F,H a=L\/eR M U a\/cE M U a
theorem qN.back(f:GA M U H e d g):∀{m:Md},qN e d g m F->qN M U H m F
 |.fr,h=>⟨h.1,λa b=>(h.2 a b).elim (λz=>.inl (f.none z)) λz=>(f.ow a z).elim .inr .inl⟩
 |.pu,h=>λa b=>by
  rcases h a b with z | z | z
  ·exact .inl (f.none z)
  ·rcases f.pu a z with z | z | z
   ·exact .inr (.inl z)
   ·exact .inr (.inr z)
   ·exact .inl z
  ·exact(f.ow a z).elim (λz=>.inr (.inr z)) .inl
 |.bo,h=>λa b=>by
  rcases h a b with z | z | z
  ·exact .inl (f.none z)
  ·rcases f.pu a z with z | z | z
   ·exact .inr (.inl z)
   ·exact .inr (.inr z)
   ·exact .inl z
  ·exact(f.ow a z).elim (λz=>.inr (.inr z)) .inl
noncomputable def Nx(G:Gx)(M:FP)(U:VS.Env)(H:Hp)(b:VS.Env)(k:L2.St->Hp->Prop):Prop:=∀d e a,SR G d b e a->GA M U H d b a->k e a
def ui(G:Gx)(M:FP)(U:VS.Env)(H:Hp)(D:Ends):Out->Prop
 |.nx a=>Nx G M U H a D.nx
 |.bk a=>Nx G M U H a D.bk
 |.ct a=>Nx G M U H a D.ct
 |.rt v a=>∀u b F d e,SR G d a e b->GA M U H d a b->Rp G b u v.2 F->qN M U H v.1 F->D.rt u b
def tS(G:Gx)(c:Sx):TS:=λD J H=>∃M U o,SR G M U J H/\c U=Z o/\ui G M U H D o
def PSV(G:Gx)(X:Cx)(a:Stmt)(c:Sx):Prop:=PS X a (tS G c)
def iJ(G:Gx)(X:Cx)(a:List Stmt)(c:Sx):Prop:=Hq X a (tS G c)
def PS.weak{X:Cx}(h:PS X e t)(w:∀D J H,b D J H->t D J H):PS X e b:=λa s J H D I q=>h a s J H D I (w D J H q)
def Hq.weak{X:Cx}(h:Hq X e t)(w:∀D J H,b D J H->t D J H):Hq X e b:=λa s J H D I q=>h a s J H D I (w D J H q)
theorem ui.back(f:GA M U H j i l):∀{o:Out},ui G M U H D o->ui G j i l D o
 |.nx e,h=>λa b d s g=>h a b d s (f.trans g)
 |.bk e,h=>λa b d s g=>h a b d s (f.trans g)
 |.ct e,h=>λa b d s g=>h a b d s (f.trans g)
 |.rt v e,h=>λu d F a b s g r q=>h u d F a b s (f.trans g) r (q.back f)
section
variable{st:Stmt}
def bx:iJ G X [] dH:=Hq.weak Av λD J H a=>by
 obtain⟨M,U,o,s,e,k⟩:=a;cases (e);exact k M J H s (GA.refl _ _ _)
def ah(i:PSV G X st c1)(h:iJ G X Mw c2):iJ G X (st :: Mw) (aq c1 c2):=Hq.weak (xU i h) λD J H g=>by
 obtain⟨M,U,o,s,e,k⟩:=g;obtain⟨b,e1,e2⟩:=Zz.mp e;refine⟨M,U,b,s,e1,?_⟩;cases b with
 |nx a=>exact λj l m d f=>⟨j,a,o,d,e2,k.back f⟩
 |rt v a=>cases e2;exact k
 |bk a=>cases e2;exact k
 |ct a=>cases e2;exact k
def bM(h:HU G X t d)(j:iJ G X a c1)(i:iJ G X b c2):PSV G X (.If t a b pos) (GH d c1 c2):=PS.weak (Ea h j i) λD J H g=>by
 obtain⟨M,U,o,s,e,k⟩:=g;obtain⟨⟨m,x⟩,l,e1⟩:=Zz.mp e;obtain⟨f,n,e2⟩:=Zz.mp e1;refine⟨M,U,m,x,f,s,l,n,λp e3=>?_⟩;cases f with
 |true =>
  rw[Zp Y]at e2;exact xx ⟨M,U,o,s.same e3,e2,k.back (GA.same e3)⟩
 |false =>
  rw[Zn Zc]at e2;exact xq ⟨M,U,o,s.same e3,e2,k.back (GA.same e3)⟩
theorem Fp.ret:∀{m:Md},Fp M U H m F->qN M U H (match m with | .bo=>.pu | m=>m) F
 |.fr,f=>⟨f.1,λa b=>.inl (f.2 a b)⟩
 |.pu,f=>λa b=>(f a b).elim .inl λz=>.inr (.inl z)
 |.bo,f=>f
def aL(he:PV G X e ce):PSV G X (.Return (Z e) pos) (cX ce):=PS.weak (p6 he) λD J H a=>by
 obtain⟨M,U,o,s,e,k⟩:=a;obtain⟨⟨m,x⟩,b,e1⟩:=Zz.mp e;cases e1;exact⟨M,U,m,x,s,b,λv d F e1 r1 f1=>k v d F M J (s.same e1) (GA.same e1) r1 f1.ret⟩
def cL{U:VS.Env}{c:Cell}(h:(U.set i L)[j]?=Z (Z c)):j≠i/\U[j]?=Z (Z c):=by
 rw[Wh]at h;split at h
 ·split at h<;>cases h
 ·rename_i n;exact⟨λz=>n z.symm,h⟩
def SR.drop(s:SR G M U J H)(i:Nat):SR G M (U.set i L) J H :=
 ⟨by rw[Yt];exact s.len,λj c h=>s.rp j c (cL h).2,λj t h=>s.nd j t (cL h).2,λj k t c b a n=>s.sep j k t c (cL b).2 (cL a).2 n⟩
def GA.drop(i:Nat):GA M U H M (U.set i L) H :=
 ⟨λa o h n=>⟨h,λ⟨j,t,d,b⟩=>n ⟨j,t,(cL d).2,b⟩⟩,λ_ h=>h,λa ⟨j,t,d,b⟩=>.inl ⟨j,t,(cL d).2,b⟩,λa ⟨j,t,d,b⟩=>.inl ⟨j,t,(cL d).2,b⟩,Kept.refl H⟩
def gn{X:Cx}(i:Nat)(u:{`q2,X.N[i]?=Z x})(l:{`q5,Iw X.env.scope x})(r:{`q1,K3 x})(d:{`q1,K4 x}):PSV G X (.Return (Z (.Name x p)) pos) (iE i):=PS.weak (p6 (fZ u l r d)) λD J H n=>by
 obtain⟨M,U,o,s,e,k⟩:=n;unfold iE at e;split at e
 ·rename_i t h;obtain⟨v,j,b⟩:=s.rp _ _ h;cases e;exact⟨v,j,k v H (M i) M J (s.drop i) (GA.drop i) b ⟨s.nd i t h,λa g=>.inr ⟨i,t,h,g⟩⟩⟩
 ·rename_i t h;obtain⟨v,j,b⟩:=s.rp _ _ h;cases e;refine⟨v,j,k v H (M i) M J s (GA.refl _ _ _) b ?_⟩;have f:Fp M U H .pu (M i):=λa g=>.inr ⟨i,t,h,g⟩;have f2:=(f.up b).ret;have:(match (VS.up .pu (lF (.pu t))).1 with | .bo=>Md.pu | m=>m)=(VS.up .pu t).1:=by
   show (match (VS.up .pu t).1 with | .bo=>Md.pu | m=>m)=_;unfold VS.up;split<;>(rename_i q;revert q;split<;>simp)
  rw[this]at f2;exact f2
 ·cases e
noncomputable def lK(M:FP)(i:Nat)(F:W4):FP:=λj=>if j=i then F else M j
def je:lK M i F i=F:=Zp Y
def fe(h:j≠i):lK M i F j=M j:=Zn h
def iu{U:VS.Env}{c:Cell}(h:(U.set i (Z c))[j]?=Z (Z a)):(j=i/\a=c)\/(j≠i/\U[j]?=Z (Z a)):=by
 rw[Wh]at h;split at h
 ·rename_i e;split at h
  ·exact .inl ⟨e.symm,(Zh (Zh h)).symm⟩
  ·cases h
 ·rename_i n;exact .inr ⟨λz=>n z.symm,h⟩
def SR.put{G:Gx}{M:FP}{U:VS.Env}{J:L2.St}{H o:Hp}{i:Nat}{v:V}{c:Cell}{F:W4}(s:SR G M U J H)(u:i<U.length)(r:Rp G o v (lF c) F)(q:∀j b,j≠i->U[j]?=Z (Z b)->∀w,Rp G H w (lF b) (M j)->Rp G o w (lF b) (M j))(z:∀t,c=.ow t->F.Nodup)(y:∀t,c=.ow t->∀j b,j≠i->U[j]?=Z (Z b)->∀a∈F,a∉M j)(x:∀j t,j≠i->U[j]?=Z (Z (.ow t))->∀a∈M j,a∉F) :
  SR G (lK M i F) (U.set i (Z c)) (J.set i (Z v)) o where
 len:=by rw[Yt,Yt];exact s.len
 rp:=λj b h=>by
  rcases iu h with⟨rfl,rfl⟩ | ⟨n,h⟩
  ·exact⟨v,by rw[X3 (by rw[← s.len];exact u)],by rw[je];exact r⟩
  ·obtain⟨w,l,f⟩:=s.rp j b h;exact⟨w,by rw[YI (Ya n)];exact l,by rw[fe n];exact q j b n h w f⟩
 nd:=λj t h=>by
  rcases iu h with⟨rfl,e⟩ | ⟨n,h⟩
  ·rw[je];exact z t e.symm
  ·rw[fe n];exact s.nd j t h
 sep:=λj k t b l f n=>by
  rcases iu l with⟨rfl,e⟩ | ⟨g,p⟩
  ·rcases iu f with⟨rfl,e2⟩ | ⟨d,m⟩
   ·exact absurd Y n
   ·rw[je,fe d];exact y t e.symm k b d m
  ·rcases iu f with⟨rfl,e2⟩ | ⟨d,m⟩
   ·rw[je,fe g];exact x j t g p
   ·rw[fe g,fe d];exact s.sep j k t b p m n
def mI{U:VS.Env}{c:Cell}(h:cE (lK M i F) (U.set i (Z c)) a):(∃t,c=.ow t/\a∈F)\/cE M U a:=by
 obtain⟨j,t,d,b⟩:=h;rcases iu d with⟨rfl,e⟩ | ⟨n,d⟩
 ·rw[je]at b;exact .inl ⟨t,e.symm,b⟩
 ·rw[fe n]at b;exact .inr ⟨j,t,d,b⟩
def se{U:VS.Env}{c:Cell}(h:eR (lK M i F) (U.set i (Z c)) a):(∃t,c=.pu t/\a∈F)\/eR M U a:=by
 obtain⟨j,t,d,b⟩:=h;rcases iu d with⟨rfl,e⟩ | ⟨n,d⟩
 ·rw[je]at b;exact .inl ⟨t,e.symm,b⟩
 ·rw[fe n]at b;exact .inr ⟨j,t,d,b⟩
def SR.JA(s:SR G M U J H)(h:cE M U a)(g:eR M U a):False:=by
 obtain⟨j,t,d,f⟩:=h;obtain⟨k,u,b,i⟩:=g;exact s.sep j k t _ d b (λe=>by subst e;rw[d]at b;cases b) a f i
def SR.val{m:Md}{c:Cell}(s:SR G M U J H)(C:i<U.length)(e:aJ H y)(r:Rp G y v t F)(f:Fp M U H m F)(p:(c=.pu t/\m ≠ .bo)\/(c=.ow t/\m=.fr)):SR G (lK M i F) (U.set i (Z c)) (J.set i (Z v)) y/\GA M U H (lK M i F) (U.set i (Z c)) y:=by
 have Ge:∀{a},H a=L->∀j x,U[j]?=Z (Z x)->a∉M j:=λ{a} h j x g b=>by
  obtain⟨w,_,q⟩:=s.rp j x g;exact FR.lp (q.Ge a b) h
 have ct:lF c=t:=by rcases p with⟨rfl,_⟩ | ⟨rfl,_⟩<;>rfl
 have A:∀a∈F,H a=L\/eR M U a:=λa b=>by
  rcases p with⟨_,n⟩ | ⟨_,n⟩
  ·exact f.pu n a b
  ·rw[n]at f;exact .inl (f.2 a b)
 constructor
 ·refine s.put C (by rw[ct];exact r) (λj x n g w q=>q.same e) (λu d=>?_) (λu d j x n g a b=>?_) λj u n g a b D=>?_
  ·rcases p with⟨h,_⟩ | ⟨_,h⟩
   ·rw[h]at d;cases d
   ·rw[h]at f;exact f.1
  ·rcases p with⟨h,_⟩ | ⟨_,h⟩
   ·rw[h]at d;cases d
   ·rw[h]at f;exact Ge (f.2 a b) j x g
  ·rcases A a D with z | z
   ·exact Ge z j _ g b
   ·exact s.JA ⟨j,u,g,b⟩ z
 ·refine⟨λa o h n=>⟨e a o h,λz=>?_⟩,λa h z=>h (e.free z),λa h=>?_,λa h=>?_,Kept.of e⟩
  ·rcases mI z with⟨u,d,b⟩ | z
   ·rcases p with⟨l,_⟩ | ⟨_,l⟩
    ·rw[l]at d;cases d
    ·rw[l]at f;rw[f.2 a b]at h;cases h
   ·exact n z
  ·rcases mI h with⟨u,d,b⟩ | z
   ·rcases p with⟨l,_⟩ | ⟨_,l⟩
    ·rw[l]at d;cases d
    ·rw[l]at f;exact .inr (f.2 a b)
   ·exact .inl z
  ·rcases se h with⟨u,d,b⟩ | z
   ·exact(A a b).elim (λz=>.inr (.inr z)) .inl
   ·exact .inl z
def fI{pos:Pos}(he:PV G X e ce)(q:X.N.Nodup)(n:{`q2,X.N[i]?=Z x})(g:{`q6,Loc X.env.scope x})(h:{`q2,swapsWith e (Z (.Name x a)) pos.line X.env=pure O})(p:{`q7,X.fn x=B\/X.env.scope.names.lookup x=Z .local}) :
  PSV G X (.Assign [.Name x a] e pos) (lP i ce):=PS.weak (sG q n g he h p) λD J H j=>by
 obtain⟨M,U,o,s,e,k⟩:=j;obtain⟨⟨m,t⟩,r,e1⟩:=Zz.mp e;obtain⟨c,eC,e2⟩:=Zz.mp e1;split at e2
 ·rename_i l;cases e2;refine⟨M,U,m,t,s,r,λv u F e3 b f3=>?_⟩;obtain⟨f,d⟩:=s.val (c:=c) l e3 b f3 (by
   unfold cellOf at eC;cases m with
   |fr =>
    simp only[Option.some.injEq]at eC;split at eC
    ·exact .inr ⟨eC.symm,rfl⟩
    ·exact .inl ⟨eC.symm,by decide⟩
   |pu=>cases eC;exact .inl ⟨rfl,by decide⟩
   |bo=>cases eC)
  exact k _ _ u f d
 ·cases e2
def av{pos:Pos}(he:PV G X e ce)(r:X.N.Nodup)(p:{`q2,X.N[i]?=Z x})(g:{`q6,Loc X.env.scope x})(h:{`q2,swapsWith e (Z (.Name x a)) pos.line X.env=pure O})(q:{`q7,X.fn x=B\/X.env.scope.names.lookup x=Z .local}) :
  PSV G X (.Assign [.Name x a] e pos) (aB i ce):=PS.weak (sG r p g he h q) λD J H j=>by
 obtain⟨M,U,o,s,e,k⟩:=j;obtain⟨⟨m,t⟩,u,e1⟩:=Zz.mp e;split at e1
 ·cases e1
 ·rename_i l;split at e1
  ·rename_i n;cases e1;refine⟨M,U,m,t,s,u,λv w F e3 b f3=>?_⟩;obtain⟨f,d⟩:=s.val n e3 b f3 (.inl ⟨rfl,l⟩);exact k _ _ w f d
  ·cases e1
def SR.frz(s:SR G M U J H)(h:U[i]?=Z (Z (.ow t))):SR G M (U.set i (Z (.pu t))) J H/\GA M U H M (U.set i (Z (.pu t))) H:=by
 have back:∀{j c},(U.set i (Z (.pu t)))[j]?=Z (Z c)->∃l,U[j]?=Z (Z l)/\lF l=lF c/\∀u,c=.ow u->l=.ow u:=λ{j c} g=>by
  rcases iu g with⟨rfl,rfl⟩ | ⟨n,g⟩
  ·exact⟨.ow t,h,rfl,λu p=>nomatch p⟩
  ·exact⟨c,g,rfl,λu p=>p⟩
 refine⟨⟨by rw[Yt];exact s.len,λj c g=>?_,λj u g=>?_,λj k u c b d n=>?_⟩,⟨λa o r n=>⟨r,λ⟨j,u,b,d⟩=>?_⟩,λ_ h=>h,λa ⟨j,u,b,d⟩=>?_,λa ⟨j,u,b,d⟩=>?_,Kept.refl H⟩⟩
 ·obtain⟨l,b,d,_⟩:=back g;obtain⟨v,f,x⟩:=s.rp j l b;exact⟨v,f,by rw[← d];exact x⟩
 ·obtain⟨l,b,_,w⟩:=back g;rw[w u Y]at b;exact s.nd j u b
 ·obtain⟨c1,f,_,m⟩:=back b;obtain⟨c2,q,_,_⟩:=back d;rw[m u Y]at f;exact s.sep j k u c2 f q n
 ·obtain⟨c1,f,_,m⟩:=back b;rw[m u Y]at f;exact n ⟨j,u,f,d⟩
 ·obtain⟨c1,f,_,m⟩:=back b;rw[m u Y]at f;exact .inl ⟨j,u,f,d⟩
 ·rcases iu b with⟨rfl,_⟩ | ⟨n,b⟩
  ·exact .inr (.inl ⟨j,t,h,d⟩)
  ·exact .inl ⟨j,u,b,d⟩
def jU(i:Nat)(h:iJ G X Mw c):iJ G X Mw (aq (sE i) c):=Hq.weak h λD J H f=>by
 obtain⟨M,U,o,s,e,k⟩:=f;obtain⟨g,e1,e2⟩:=Zz.mp e;unfold sE at e1;split at e1
 ·rename_i t d;cases e1;obtain⟨b,a⟩:=s.frz d;exact⟨M,_,o,b,e2,k.back a⟩
 ·cases e1;exact⟨M,U,o,s,e2,k⟩
 ·cases e1
end
section
variable{st:Stmt}
structure Chg(G:Gx)(H:Hp)(v:V)(F:W4)(t':T)(H2:Hp)(F':W4):Prop where
 kept:Kept H H2
 keep:∀b o,b∉F->H b=some o->H2 b=some o
 Ge:∀b,H b≠none->H2 b≠none
 rp:Rp G H2 v t' F'
 nd:F'.Nodup
 sub:∀a∈F',a∈F\/H a=none
def SR.mut(s:SR G M U J H)(m:U[i]?=Z (Z (.ow t)))(A:J[i]?=Z (Z v))(g:Chg G H v (M i) p x r) :
  SR G (lK M i r) (U.set i (Z (.ow p))) J x/\GA M U H (lK M i r) (U.set i (Z (.ow p))) x:=by
 have off:=λj f n d a b l=>s.sep i j t f m d (Ya n) a l b;have es:J.set i (Z v)=J:=by
  obtain⟨h,e⟩:=ZZ.mp A;rw[← e];exact X9 h
 have new:∀a∈r,∀j f,j≠i->U[j]?=Z (Z f)->a∉M j:=λa b j f n d l=>by
  rcases g.sub a b with z | z
  ·exact off j f n d a l z
  ·obtain⟨w,_,q⟩:=s.rp j f d;exact FR.lp (q.Ge a l) z
 constructor
 ·have:=s.put (c:=.ow p) (v:=v) ((ZZ.mp m).1) g.rp (λj f n d w q=>q.keep g.kept λa b o C=>g.keep a o (off j f n d a b) C) (λ_ _=>g.nd) (λu y j f n d a b=>new a b j f n d) λj u n d a b l=>new a l j _ n d b;rw[es]at this;exact this
 ·refine⟨λa o h n=>⟨g.keep a o (λz=>n ⟨i,t,m,z⟩) h,λz=>?_⟩,g.Ge,λa h=>?_,λa h=>?_,g.kept⟩
  ·rcases mI z with⟨u,_,b⟩ | z
   ·rcases g.sub a b with z | z
    ·exact n ⟨i,t,m,z⟩
    ·rw[z]at h;cases h
   ·exact n z
  ·rcases mI h with⟨u,_,b⟩ | z
   ·rcases g.sub a b with z | z
    ·exact .inl ⟨i,t,m,z⟩
    ·exact .inr z
   ·exact .inl z
  ·rcases se h with⟨u,y,b⟩ | z
   ·cases y
   ·exact .inl z
def wN(G:Gx)(r:V->List V->Hp->VK->Prop)(f:T->Vy->Option (T×Val)):Prop:=∀(M:FP)(U:VS.Env)(H g:Hp)(v:V)(t b:T)(F:W4)(l:Vy)(a:List V)(h:Wm)(x:Val)(Q:VK),
 Rp G H v t F->F.Nodup->Args G M U H g l a h->f t l=Z (b,x)->(∀u d i,Chg G H v F b d i->Q u d)->r v a g Q
def xw{pos:Pos}{b:Pos}(i:Nat)(pa:PlainAttrs w)(h:Slot w a n)(Kt:typeOf (.builtin n)=pure (.type "method_descriptor"))(hm:LV X n r)(ok:wN G r f)(hT:∀H v t F l z,Rp G H v t F->f t l=Z z->Ki G.K w v H)(ha:GE G X (e :: es) cs)(hK:{`q2,X.K=G.K})(hN:{`q2,X.N[i]?=Z x})(hv:{`q5,Iw X.env.scope x})(hd:{`q1,K3 x})(q:{`q1,K4 x})(FO:{`q2,SZ (.Name x j) a X.env (eval (.Name x j) X.env)=eval (.Name x j) X.env})(Gw:{`q2,((backTo d (PP (e :: es) X.env)).all (λx=>!x.1)&&(backToKw d (Re [] X.env)).all (λx=>x.1.isSome)
   && decide ((e :: es).length+([]:List Keyword).length+(if ([]:List Keyword).isEmpty then 0 else 1)<30))=B})(E:{`q2,(b.endLine==d.line)=B})(hs:{`q2,K1 e es X})(FQ:{`q2,K2 d es X})(Ih:{`q2,swapsWith (.Call (.Attribute (.Name x j) a b) (e :: es) [] d) L pos.line X.env=pure O}) :
  PSV G X (.Expr (.Call (.Attribute (.Name x j) a b) (e :: es) [] d) pos) (sX (kR i [] f cs)) :=
 PS.weak (jg (uI pa h Kt hm (fZ hN hv hd q) ha FO Gw E hs FQ) Ih) λD J H hq=>by
  refine L2.ar λP_ m=>?_;obtain⟨M,U,o,s,e,k⟩:=hq;unfold sX kR at e;obtain⟨⟨P,U'⟩,e1,e2⟩:=Zu.mp e;refine m ?_;split at e1
  ·rename_i t p;refine L2.ar λP_ m=>?_;obtain⟨ks,ek,e3⟩:=Zz.mp e1;cases (ek);obtain⟨l,el,e4⟩:=Zz.mp e3;obtain⟨⟨t',x2⟩,e5,e6⟩:=Zu.mp e4;cases e6;cases e2;obtain⟨v,A,y⟩:=s.rp _ _ p;refine m ?_;have C:=e5;refine⟨v,A,by rw[hK];exact hT H v t _ l _ y C,M,U,l,s,el,λS H' Fs q1 q2 q3=>?_⟩;refine ok M U H H' v t t' (M i) l S Fs P _ y (s.nd i t p) ⟨q1,q2,q3⟩ C λu H2 F' g=>?_;obtain⟨R,Q⟩:=s.mut p A g;exact k _ J H2 R Q
  ·cases e1
theorem Chg.upd{H:Hp}(e:aJ H d)(n:a∈F)(m:FR (d a))(r:Rp G (upd d a o) v i f)(l:f.Nodup)(g:∀a∈f,a∈F\/H a=L):Chg G H v F i (upd d a o) f :=
 ⟨(Kept.of e).trans (Kept.upd (.inl m)),λb j hb h=>by rw[aA (λz=>hb (by rw[z];exact n))];exact e b j h,
  λb h z=>by
   by_cases q:b=a
   ·subst q;rw[aw]at z;cases z
   ·rw[aA q]at z;exact h (e.free z),r,l,g⟩
def RpL.off(r:RpL G H f g d)(j:FR (H a))(h:a∉d.flatten):RpL G (upd H a o) f g d :=
 r.keep (Kept.upd (.inl j)) λb hb l i=>by rw[aA (λz=>h (by rw[← z];exact hb))];exact i
def l6(h:fit v=Z t):v=(.fr,t):=by
 obtain⟨m,x⟩:=v;cases m<;>first | (cases h;rfl) | cases h
def oi:wN G tR aC:=by
 intro M U H E v t P F l J R x Q r nd A e k;unfold aC at e;split at e
 ·rename_i N y;obtain⟨z,u,e1⟩:=Zz.mp e;have C:=l6 u;subst C;split at e1
  ·rename_i q;cases e1;obtain⟨a,n,Gs,rfl,rfl,h,f⟩:=r.lst_inv;obtain⟨w,j,rfl,rfl,D⟩:=(A.rp).one;have d:=A.fp.each 0 _ _ Y Y;have i:=A.same a _ h;have g:FR (E a):=by rw[i];exact True.intro
   have na:=(ZX.mp nd).1;have nw:a∉j:=λz=>by rw[d.2 a z]at h;cases h
   refine⟨a,n,w,rfl,rfl,i,by rw[f.len.1];exact q,k _ _ (a :: (Gs++[j]).flatten) ?_⟩;have off:=λb hb hw=>FR.lp (f.Ge b hb) (d.2 b hw);refine Chg.upd A.same Zw g (.lst aw (((f.same A.same).off g na).append (.cons (D.keep (Kept.upd (.inl g)) λb hb o p=>by rw[aA (λz=>nw (by rw[← z];exact hb))];exact p) .nil))) ?_ ?_
   ·rw[Yi];refine ZX.mpr ⟨λm=>?_,ZL.mpr ⟨(ZX.mp nd).2,by simpa using d.1,λb hb c s z=>?_⟩⟩
    ·rcases Zd.mp m with m | m
     ·exact na m
     ·exact nw (by simpa using m)
    ·subst z;exact off b hb (by simpa using s)
   ·intro b hb;rcases Zk.mp hb with rfl | hb
    ·exact .inl Zw
    ·rw[Yi]at hb;rcases Zd.mp hb with hb | hb
     ·exact .inl (Zx _ hb)
     ·exact .inr (d.2 b (by simpa using hb))
  ·cases e1
 ·cases e
def yM(r:Rp G H v (.lst b) F):Ki G.K "list" v H:=by
 obtain⟨a,f,Gs,rfl,rfl,d,g⟩:=r.lst_inv;exact .inl ⟨rfl,_,FT.of d⟩
def lH(r:Rp G H v t F)(h:aC t l=Z z):Ki G.K "list" v H:=by
 unfold aC at h;split at h
 ·exact yM r
 ·cases h
end
structure Jj(G:Gx)(Jq:It)(l:Vw)(C:W4)(H:Hp):Prop where
 run:∀H2,Kept H H2->(∀a∈C,∀o,H a=some o->H2 a=some o) →
  (∀(i:Nat)(t:T),l[i]?=some t->Jq.go i H2/\∀x H3,Jq.Ny i H2 x H3->aJ H2 H3/\∃F,Rp G H3 x t F/\∀a∈F,a∈C\/H2 a=none)/\∀(i:Nat),l.length<=i->Jq.stop i H2
 Ge:∀a∈C,H a≠none
def R6(M:FP)(U:VS.Env)(H:Hp)(m:Md)(C:W4):Prop:=∀a∈C,H a=L\/eR M U a\/(m=.bo/\cE M U a)
theorem Fp.c{U:VS.Env}{H:Hp}:∀{m:Md},Fp M U H m F->R6 M U H m F
 |.fr,f=>λa b=>.inl (f.2 a b)
 |.pu,f=>λa b=>(f a b).imp id .inl
 |.bo,f=>λa b=>(f a b).imp id λz=>z.imp id λz=>⟨rfl,z⟩
def tI(G:Gx)(c:Iz):TI:=λJ H R=>∃M U m l,SR G M U J H/\c U=Z (m,l)/\∀b a C,aJ H a->Jj G b l C a->R6 M U H m C->R b a
def PVI(G:Gx)(X:Cx)(b a:Expr)(c:Iz):Prop:=PI X b a (tI G c)
def PI.weak{X:Cx}(h:PI X b e t)(w:∀J H Q,d J H Q->t J H Q):PI X b e d:=λa s J H Q I q=>h a s J H Q I (w J H Q q)
section
def xF(H:Hp)(d:Int)(n:Nat):Jj G (N9 d n) (rng d n) [] H:=by
 refine⟨λq _ _=>⟨λi t h=>?_,λi h=>(by simpa[rng] using h:n<=i)⟩,λa h=>by simp at h⟩;unfold rng at h;rw[ZU]at h;obtain⟨k,g,e⟩:=Zu.mp h;obtain⟨f,e2⟩:=ZZ.mp g;rw[Z1]at f;have l:i=k:=by simpa using e2
 subst l;refine⟨f,λx o j=>?_⟩;obtain⟨e3,m⟩:=j;subst e3;subst m;rw[← e];exact⟨aJ.refl _,[],.int _,λa h=>by simp at h⟩
def gk(u:PV G X a ca)(t:Gl X "range")(r:X.mg "range" = L)(o:{`q2,K1 a [] X})(y:{`q2,PP [a] X.env=[(O,eval a X.env)]}):PVI G X tg (.Call (.Name "range" p) [a] [] pos) (dw ca) :=
 PI.weak (vd t r (dz u iR o) y) λJ H R q=>by
  obtain⟨M,U,m,l,s,e,k⟩:=q;obtain⟨⟨n,x⟩,w,e1⟩:=Zz.mp e;obtain⟨j,f,e2⟩:=Zz.mp e1;split at e2
  ·rename_i d;cases e2;refine⟨M,U,n,x,s,w,λv g F e3 i f3=>?_⟩;cases x with
   |int z =>
    cases f;refine⟨j,by rw[i.int_inv],?_,?_,k _ g [] e3 (xF g 0 j.toNat) λa h=>by simp at h⟩
    ·have:=d.1;unfold Ob at this;lia
    ·have:=d.2;unfold Ob at this;lia
   |_=>cases f
  ·cases e2
def dc{d:Wm}{i:Nat}{F:W4}(h:d[i]?=Z F){a:KB}(f:a∈F):a∈d.flatten:=(du h).subset f
def zb{a:KB}(K:W0)(j:H a=Z (.lst d))(r:RpL G H d g m):Jj G (P2 K a) g (a :: m.flatten) H:=by
 refine⟨λy k c=>?_,λb hb=>?_⟩
 ·have f:=c a Zw _ j;refine⟨λi t h=>?_,λi h=>⟨d,FT.of f,by rw[r.len.1];exact h⟩⟩;obtain⟨v,F,l,u,s⟩:=(r.keep k λb hb o n=>c b (Zx _ hb) o n).get i h;refine⟨⟨d,v,FT.of f,l⟩,λx w q=>?_⟩;obtain⟨e1,e2⟩:=q;subst e1;have ex:=e2 d (FT.of f);rw[l]at ex;cases ex;exact⟨aJ.refl _,F,s,λb hb=>.inl (Zx _ (dc u hb))⟩
 ·rcases Zk.mp hb with rfl | hb
  ·rw[j];exact λz=>nomatch z
  ·exact FR.lp (r.Ge b hb)
def B5{a:KB}(K:W0)(n:H a=Z (.tup d))(r:RpL G H d g l):Jj G (P1 K a) g l.flatten H:=by
 refine⟨λy k c=>?_,λb hb=>FR.lp (r.Ge b hb)⟩;have f:=k.tup a _ n;refine⟨λi t h=>?_,λi h=>⟨d,GU.of f,by rw[r.len.1];exact h⟩⟩;obtain⟨v,F,j,u,s⟩:=(r.keep k λb hb o m=>c b hb o m).get i h;refine⟨⟨d,v,GU.of f,j⟩,λx w q=>?_⟩;obtain⟨e1,e2⟩:=q;subst e1;have ex:=e2 d (GU.of f);rw[j]at ex;cases ex;exact⟨aJ.refl _,F,s,λb hb=>.inl (dc u hb)⟩
def tG(G:Gx)(g:Tg):TG:=λv J H Q=>∃M U t F d,SR G M U J H/\Rp G H v t F/\(∀a∈F,¬cE M U a)/\g t U=Z d ∧
 ∀f h,SR G f d h H->(∀a,cE f d a->cE M U a)->(∀a,eR f d a->eR M U a\/a∈F)->Q h H
def Sq(G:Gx)(l:List Tg):KC:=λj J H Q=>∃M U h g d,SR G M U J H/\RpL G H j h g/\(∀a∈g.flatten,¬cE M U a)/\xN l h U=Z d ∧
 ∀f i,SR G f d i H->(∀a,cE f d a->cE M U a)->(∀a,eR f d a->eR M U a\/a∈g.flatten)->Q i H
def LU(G:Gx)(X:Cx)(e:Expr)(g:Tg):Prop:=PG X e (tG G g)
def An(G:Gx)(X:Cx)(e:List Expr)(g:List Tg):Prop:=Ke X e (Sq G g)
def PG.weak{X:Cx}{e:Expr}{f:TG}(h:PG X e t)(w:∀v J H Q,f v J H Q->t v J H Q):PG X e f:=λd s J H v u Q I r q=>h d s J H v u Q I r (w v J H Q q)
def Ke.weak{X:Cx}{e:List Expr}{f:KC}(h:Ke X e t)(w:∀v J H Q,f v J H Q->t v J H Q):Ke X e f:=λd s J H v u Q I r q=>h d s J H v u Q I r (w v J H Q q)
def aG{X:Cx}(i:Nat)(C:X.N.Nodup)(y:{`q2,X.N[i]?=Z x})(l:{`q6,Loc X.env.scope x})(A:X.fn x=B\/X.env.scope.names.lookup x=Z .local:=by first | exact .inl Y | exact .inr rfl):LU G X (.Name x pos) (ba i):=PG.weak (AQ C y l A) λv J H Q m=>by
 obtain⟨M,U,t,F,P,s,r,no,e,k⟩:=m;unfold ba at e;split at e
 ·rename_i o;cases e;refine k (lK M i F) (J.set i (Z v)) (s.put o r (λj E n g w q=>q) (λu d=>nomatch d) (λu d=>nomatch d) λj u n g a f D=>no a D ⟨j,u,g,f⟩) (λa h=>?_) λa h=>?_
  ·rcases mI h with⟨u,d,_⟩ | z
   ·cases d
   ·exact z
  ·rcases se h with⟨u,d,f⟩ | z
   ·exact .inr f
   ·exact .inl z
 ·cases e
def kJ:An G X [] []:=Ke.weak Ay λv J H Q d=>by
 obtain⟨M,U,f,i,g,s,r,no,e,k⟩:=d;cases r with
 |nil =>
  cases (e);exact⟨rfl,k M J s (λ_ h=>h) λ_ h=>.inl h⟩
 |cons r q=>cases (e)
def cO(y:LU G X e g)(x:An G X es i)(u:{`q2,(assignEach (e :: es) X.env).map (·.2)=assign e X.env :: (assignEach es X.env).map (·.2)}):An G X (e :: es) (g :: i) :=
 Ke.weak (xZ y x u) λv J H Q w=>by
  obtain⟨M,U,N,Fs,A,s,r,no,e,k⟩:=w;cases r with
  |nil=>cases (e)
  |cons r q =>
   rename_i F P F' S Y HV;obtain⟨j,e1,e2⟩:=Zz.mp e;refine⟨_,_,rfl,M,U,_,_,j,s,r,λa d=>no a (by rw[ZR];exact Yv _ d),e1,λD R m f o=>?_⟩;refine⟨D,j,_,_,A,m,q,λa d z=>no a (by rw[ZR];exact ZM _ d) (f a z),e2,λC E l t n=>k C E l (λa h=>f a (t a h)) λa h=>?_⟩;rcases n a h with h | h
   ·rcases o a h with h | h
    ·exact .inl h
    ·exact .inr (by rw[ZR];exact Yv _ h)
   ·exact .inr (by rw[ZR];exact ZM _ h)
theorem rA:∀{f:List Tg}{d:Vw}{U i:VS.Env},xN f d U=Z i->d.length=f.length
 |[],[],_,_,_=>rfl
 |[],_ :: _,_,_,h=>nomatch h
 |_ :: _,[],_,_,h=>nomatch h
 |g :: f,t :: d,U,i,h=>by
  obtain⟨j,_,e2⟩:=Zz.mp (h);simp[rA e2]
def lZ{X:Cx}(m:X.calm=B)(h:An G X es d)(j:{`q2,(assignEach es X.env).length=d.length})(u:{`q2,(assignEach es X.env).findIdx? (·.1)=L})(y:{`q2,X.K=G.K}):LU G X (.Tuple es k pos) (jM d) :=
 PG.weak (B2 m h j u) λv J H Q i=>by
  obtain⟨M,U,t,F,o,s,r,no,e,q⟩:=i;unfold jM at e;split at e
  ·rename_i l;obtain⟨n,g,x,rfl,rfl,w,f⟩:=r.GX;exact⟨n,g,rfl,GU.of w,by rw[f.len.1];exact rA e,M,U,l,x,o,s,f,no,e,q⟩
  ·cases e
def oE{tgt:Tg}{body:Sx}{l:Vw}{U:VS.Env}(h:l[i]?=Z t):l.drop i=t :: l.drop (i+1):=by
 obtain⟨hi,e⟩:=ZZ.mp h;rw[← e];exact XG hi
def BK{cb:Sx}(hq:tS G (ji g ci cb) D J H):Eg (tI G ci) (tG G g) (tS G cb) D J H:=by
 refine L2.ar λP_ k_=>?_;obtain⟨M,U,o,s,e,k⟩:=hq;obtain⟨⟨m,l⟩,el,e1⟩:=Zz.mp e;refine k_ ?_;dsimp only at e1;split at e1
 ·rename_i hm;refine⟨M,U,m,l,s,el,λJq R C e2 ok fc=>?_⟩;have Uy:∀a∈C,¬cE M U a:=λa y z=>by
   rcases fc a y with q | q | q
   ·exact FR.lp (s.G3 z) q
   ·exact s.JA z q
   ·exact(λz=>by rw[z]at hm;cases hm) q.1
  refine⟨λi n J2 Q=>n=l.length-i/\∃Y P,SR G Y P J2 Q/\GA M U H Y P Q/\Kept R Q/\(∀a∈C,∀o,R a=Z o->Q a=Z o/\¬cE Y P a)/\forL g cb (l.drop i) P=Z o,
   ⟨l.length-0,rfl,M,U,s.same e2,GA.same e2,Kept.refl _,λa y w A=>⟨A,Uy a y⟩,by rw[Wx];exact e1⟩,?_⟩
  rintro i n J2 Q ⟨rfl,Y,P,s2,f2,kp,con,e3⟩;obtain⟨go,stop⟩:=ok.run Q kp λa y w A=>(con a y w A).1;cases hit:l[i]? with
  |none =>
   have hl:=Yk.mp hit;left;rw[Y1 hl]at e3;cases (e3);exact⟨stop i hl,k Y J2 Q s2 f2⟩
  |some t =>
   have hl:=(ZZ.mp hit).1;right;obtain⟨g1,y1⟩:=go i t hit;rw[oE (tgt:=g) (body:=cb) (U:=P) hit]at e3;obtain⟨U3,e4,e5⟩:=Zz.mp (e3);obtain⟨w,e6,e7⟩:=Zz.mp e5;refine⟨g1,λE j=>∃d f,SR G d f E j/\GA M U H d f j/\Kept R j/\(∀a∈C,∀o,R a=Z o->j a=Z o/\¬cE d f a)/\forL g cb (l.drop (i+1)) f=Z o,λE j ⟨d,f,q⟩=>⟨l.length-(i+1),by omega,rfl,d,f,q⟩,λx H3 yl=>?_⟩;obtain⟨S,F,rF,hF⟩:=y1 x H3 yl;refine⟨Y,P,t,F,U3,(s2.same S),rF,(λa y z=>by
    rcases hF a y with q | q
    ·have Hb:=ok.Ge a q;cases A:R a with
     |none=>exact Hb A
     |some SK=>exact(con a q SK A).2 z
    ·exact FR.lp (s2.G3 z) q),e4,λM3 J3 s4 o3 p3=>?_⟩
   have f3:GA M U H M3 U3 H3:=⟨λa w h n=>let ⟨h1,n1⟩:=f2.keep a w h n;⟨S a w h1,λz=>n1 (o3 a z)⟩,λa h z=>f2.Ge a h (S.free z),λa h=>f2.ow a (o3 a h),λa h=>by
    rcases p3 a h with h | h
    ·exact f2.pu a h
    ·rcases hF a h with q | q
     ·rcases fc a q with q | q | q
      ·exact .inr (.inr q)
      ·exact .inl q
      ·exact .inr (.inl q.2)
     ·exact .inr (.inr (f2.none q)),f2.kept.trans (Kept.of S)⟩
   have next:∀{d f j},GA M3 U3 H3 d f j->Kept R j/\∀a∈C,∀o,R a=Z o->j a=Z o/\¬cE d f a:=λr =>
    ⟨(kp.trans (Kept.of S)).trans r.kept,λa y w A=>by
     obtain⟨h1,n1⟩:=con a y w A;exact r.keep a w (S a w h1) λz=>n1 (o3 a z)⟩
   refine⟨M3,U3,w,s4,e6,?_⟩;cases w with
   |nx f=>exact λd E j N r=>⟨d,f,N,f3.trans r,(next r).1,(next r).2,e7⟩
   |ct f=>exact λd E j N r=>⟨d,f,N,f3.trans r,(next r).1,(next r).2,e7⟩
   |bk f =>
    cases (e7);exact λd E j N r=>k d E j N (f3.trans r)
   |rt v f =>
    cases (e7);exact λu j F4 d E N r r5 q5=>k u j F4 d E N (f3.trans r) r5 (q5.back f3)
 ·cases e1
def eU{X:Cx}(m:PassesOwn (GM X.prog X.w) X.A X.env X.xe)(q:X.calm=B)(n:PVI G X tg d h)(o:LU G X tg g)(r:iJ G X f i)(j:{`q3,∀x,UF d X.env x=pure x}):PSV G X (.For tg d f [] pos) (ji g h i):=PS.weak (Dw m q n o r j) λD J H l=>BK l
end
noncomputable def FE(H:Hp)(b:Wm):Md->W4->Prop
 |.fr,F=>F.Nodup/\∀a∈F,H a=L
 |_,F=>∀a∈F,H a=L\/a∈b.flatten
def HR(G:Gx)(g:Fn):Sp:=λe H Q _=>∃b d m r,RpL G H e b d/\g b=Z (m,r)/\∀v a F,aJ H a->Rp G a v r F->FE H d m F->Q v a
section
def call_of(h:tE G (aQ g cs) J H Q):Be (HR G g) [] E (Oh G cs) J H Q:=by
 refine L2.ar λP_ S=>?_;obtain⟨M,U,m,t,s,e,u⟩:=h;obtain⟨l,el,e1⟩:=Zz.mp e;obtain⟨⟨n,r⟩,Y,e2⟩:=Zz.mp e1;refine S ?_;refine⟨M,U,l,s,el,λN y D b R P=>?_⟩;have A:Args G M U H y l N D:=⟨b,R,P⟩
 have i:=P.join A.len;show HR G g (N++[]) y Q E;rw[ZJ];refine⟨trees l,D,n,r,R,Y,λv C F q o j=>?_⟩;have wide:(∀a∈F,y a=L\/a∈D.flatten)->Fp M U H ((Md.pu).join (cK l)) F:=λh=>by
  cases w:cK l with
  |fr =>
   rw[w]at i;exact λa d=>.inl ((h a d).elim b.free (i.2 a))
  |pu =>
   rw[w]at i;exact λa d=>(h a d).elim (λz=>.inl (b.free z)) (i a)
  |bo =>
   rw[w]at i;exact λa d=>(h a d).elim (λz=>.inl (b.free z)) (i a)
 cases n with
 |fr =>
  cases e2;exact u v C F (b.trans q) o ⟨j.1,λa d=>b.free (j.2 a d)⟩
 |pu =>
  cases e2;exact u v C F (b.trans q) o (wide j)
 |bo =>
  cases e2;exact u v C F (b.trans q) o (wide j)
def A5{X:Cx}(F:FnOk X.prog X.w X.K X.mg X.base GF k f fd ps (HR G g))(b:jj k X.A)(j:Gl X x)(d:X.mg x=Z (.ref f))(i:PySem.W.keepIn X.K (.ref f)=B)(l:Binds X.K fd ps [])(m:GE G X (e :: es) cs)(n:{`q1,K3 x})(he:{`q2,K1 e es X})(a:{`q2,K2 pos es X}) :
  PV G X (.Call (.Name x p) (e :: es) [] pos) (aQ g cs) :=
 PE.weak (zg F b j d i l .nil lD m n he a) λJ H Q h=>call_of h
def yA(r:RpL G H d a q)(n m:Nat)(u:m=d.length):SR G (λi=>q.getD i []) (a.map (λt=>Z (.pu t))++List.replicate (n-a.length) L) (d.map Z++List.replicate (n-m) L) H:=by
 subst u;have z:=r.len;have back:∀{i:Nat}{c:Cell},(a.map (λt=>Z (Cell.pu t))++List.replicate (n-a.length) L)[i]?=Z (Z c)->∃t,a[i]?=Z t/\c=.pu t:=λ{i c} h=>by
  by_cases hi:i<a.length
  ·rw[Z5 (by rw[Zy];exact hi),ZU]at h;obtain⟨t,l,b⟩:=Zu.mp h;exact⟨t,l,(Zh b).symm⟩
  ·rw[Yy (by rw[Zy];exact ZP hi),YW]at h;split at h<;>cases h
 refine⟨by simp;lia,λi c h=>?_,λi t h=>?_,λi j t c h=>?_⟩
 ·obtain⟨t,l,rfl⟩:=back h;obtain⟨v,F,o,y,w⟩:=r.get i l;refine⟨v,?_,?_⟩
  ·have:=(ZZ.mp o).1;rw[Z5 (by rw[Zy];exact this),ZU,o];rfl
  ·rw[Zr,y];exact w
 ·obtain⟨s,_,b⟩:=back h;cases b
 ·obtain⟨s,_,b⟩:=back h;cases b
def iO{b:Vw}:¬cE M (b.map (λt=>Z (Cell.pu t))++List.replicate n L) a:=by
 rintro⟨i,t,h,_⟩;by_cases hi:i<b.length
 ·rw[Z5 (by rw[Zy];exact hi),ZU]at h;obtain⟨j,_,d⟩:=Zu.mp h;cases d
 ·rw[Yy (by rw[Zy];exact ZP hi),YW]at h;split at h<;>cases h
def qm{H:Hp}{vs:List V}{j:Vw}{d:Wm}(h:eR (λi=>d.getD i []) (j.map (λt=>Z (Cell.pu t))++List.replicate n L) a):a∈d.flatten:=by
 obtain⟨i,t,_,b⟩:=h;simp only[Zr]at b;cases e:d[i]? with
 |none=>rw[e]at b;simp at b
 |some F=>rw[e]at b;exact dc e b
end
section
variable{K:W0}
def Ct{d:List Str}(g:d.length=e)(h:HR G (fn e f c) b H Q E):b.length=d.length:=by
 obtain⟨l,n,m,r,j,a,_⟩:=h;unfold fn at a;split at a
 ·rename_i i;rw[j.len.1,i,g]
 ·cases a
def DE{N:List Str}(s:N.length=f)(h:HR G (fn p f c) vs H Q E):tS G c { nx:=λ_ d=>Q .non d,rt:=Q } (L2.start N vs) H:=by
 obtain⟨D,F,m,r,x,g,q⟩:=h;unfold fn at g;split at g
 ·rename_i t;obtain⟨o,e1,e2⟩:=Zz.mp g;have j:=yA x f vs.length Y;rw[t]at j;have e3:L2.start N vs=vs.map Z++List.replicate (f-vs.length) L:=by
   unfold L2.start;rw[s]
  rw[e3];refine⟨_,_,o,j,e1,?_⟩;cases o with
  |nx i =>
   cases e2;intro y A d l fr;exact q .non d [] (λa o h=>(fr.keep a o h iO).1) .non ⟨YY,λa h=>by simp at h⟩
  |rt v i =>
   cases e2;intro u d C y A l fr n e;refine q u d C (λa o h=>(fr.keep a o h iO).1) n ?_;cases m with
   |fr=>exact⟨e.1,λa b=>(e.2 a b).elim id λz=>absurd z iO⟩
   |pu=>exact λa b=>(e a b).elim .inl λz=>z.elim (λz=>.inr (qm (H:=H) (vs:=vs) z)) λz=>absurd z iO
   |bo=>exact λa b=>(e a b).elim .inl λz=>z.elim (λz=>.inr (qm (H:=H) (vs:=vs) z)) λz=>absurd z iO
  |bk i=>cases e2
  |ct i=>cases e2
 ·cases g
def Pf(F:xh K x a b f j)(S:bt N e (ai b))(n:e.length=g)(o:N.length=i)(p:∀(d:KF)(A:P3)(outer:List PySem.Env)(s:FS)(H:Hp)(E:XK),jj k (A.deeper (envOfC a (ai b) s.heap.objs.size f d))->iJ G (jI GF P w K mg base N a (ai b) f d A outer s H E).IC (aY b) c) :
  FnOk P w K mg base GF (k+1) f j e (HR G (fn g i c)) :=
 F.ok S (λl H Q E h=>Ct n h) λd A outer s H l Q E m h=>⟨_,p d A outer s H E m,DE o h⟩
end
end VS
end
section
namespace L2
open PySem PySem.Spec PyProof.Rows
theorem kS(b:Env):∀(l:List (Str×NameKind))(acc:List (Str×KB)),(∀y∈l,y.2=.free->∃c,b.cells.lookup y.1=Z c)->(∀x c,acc.lookup x=Z c->b.cells.lookup x=Z c) →
  ∃cl,(forIn l acc (λx r=>if (x.snd==NameKind.free)=B then (do let a ← cellOf b x.fst;pure (ForInStep.yield ((x.fst,a) :: r))) else pure (ForInStep.yield r)):Sem (List (Str×KB)))=pure cl ∧
   (∀x c,cl.lookup x=Z c->b.cells.lookup x=Z c)/\(∀x c,acc.lookup x=Z c->∃f,cl.lookup x=Z f)/\∀y∈l,y.2=.free->∃c,cl.lookup y.1=Z c
 |[],acc,_,i=>⟨acc,rfl,i,λx c h=>⟨c,h⟩,λy d=>nomatch d⟩
 | (n,k) :: l,acc,o,i=>by
  by_cases m:k=.free
  ·refine L2.ar λw u=>?_;subst m;obtain⟨c,t⟩:=o (n,.free) Zw Y;have v:cellOf b n=pure c:=by unfold cellOf;rw[t]
   obtain⟨cl,s,q,e,p⟩:=kS b l ((n,c) :: acc) (λy d=>o y (Zx _ d)) (λx f h=>by
    rw[Yq]at h;split at h
    ·rename_i g;have:x=n:=by simpa using g
     rw[this,← h];exact t
    ·exact i x f h)
   refine u ?_;refine⟨cl,?_,q,λx f h=>?_,λy d j=>?_⟩
   ·rw[List.forIn_cons];rw[Zp (show (NameKind.free==NameKind.free)=B from rfl),v,pure_bind,pure_bind];exact s
   ·by_cases g:x=n
    ·exact e x c (by rw[Yq,g];simp)
    ·refine e x f ?_;rw[Yq];have:(x==n)=O:=by simpa using g
     rw[this];exact h
   ·rcases Zk.mp d with rfl | d
    ·exact e n c (by rw[Yq];simp)
    ·exact p y d j
  ·obtain⟨cl,s,q,e,p⟩:=kS b l acc (λy d=>o y (Zx _ d)) i;refine⟨cl,?_,q,e,λy d j=>?_⟩
   ·rw[List.forIn_cons];rw[Zn (by simpa using m),pure_bind];exact s
   ·rcases Zk.mp d with rfl | d
    ·exact absurd j m
    ·exact p y d j
def AI{b:Scope}{a:Env}(d:∀y∈b.names,y.2=.free->∃c,a.cells.lookup y.1=Z c) :
  ∃cl,closureFor b a=pure cl/\(∀x c,cl.lookup x=Z c->a.cells.lookup x=Z c)/\∀y∈b.names,y.2=.free->∃c,cl.lookup y.1=Z c:=by
 obtain⟨cl,g,f,_,e⟩:=kS a b.names [] d (λx c h=>nomatch h);refine⟨cl,?_,f,e⟩;simp only[closureFor];rw[g];rfl
def gB{l:List (Str×NameKind)}(h:l.lookup x=Z k):(x,k)∈l:=by
 induction l with
 |nil=>cases h
 |cons p l a =>
  rw[Yq]at h;split at h
  ·rename_i b;have e:x=p.1:=by simpa using b
   cases h;rw[e];exact Zw
  ·exact Zx _ (a h)
theorem de{a:Env}:∀{l:List (Str×NameKind)},(l.map λ(n,k)=>if (k==NameKind.free&&a.scope.kind == .function&&a.kindOf n==Z .cell) then (n,NameKind.cell) else (n,k)).lookup x=Z k →
  ∃e,l.lookup x=Z e/\(k=e\/(e=.free/\k=.cell))
 |[],h=>nomatch h
 | (n,d) :: l,h=>by
  rw[Zi,Yq]at h;by_cases f:(d==NameKind.free&&a.scope.kind == .function&&a.kindOf n==Z .cell)=B
  ·simp only[f,if_true]at h;rw[Yq];cases b:x==n with
   |true =>
    rw[b]at h;have:d=.free:=by
     have:=(Zb.mp (Zb.mp f).1).1;simpa using this
    exact⟨d,rfl,.inr ⟨this,(Zh h).symm⟩⟩
   |false=>rw[b]at h;exact de h
  ·simp only[f,if_false,Bool.false_eq_true]at h;rw[Yq];cases b:x==n with
   |true=>rw[b]at h;exact⟨d,rfl,.inl (Zh h).symm⟩
   |false=>rw[b]at h;exact de h
def c6(X:Cx)(N:List Str)(a:Scope)(d:List (Str×KB))(C:KB)(s:FS)(H:Hp)(b:W4):Cx :=
 { X with N:=N,s₀:=s,H₀:=H,env:=compEnvC a d C X.env,outer:=X.stack,ex:=b,fn:=λ_=>false,pn:=[],xe:=λ_ _=>False }
noncomputable def o6(a:Env)(b:Scope):Bool:=b.kind == .function&&b.names.all λy=>match y.2 with
 |.cell=>O
 |.local=>b.names.lookup y.1==Z .local
 |.free=>a.kindOf y.1==Z .cell||a.kindOf y.1==Z .free
 |_=>B
noncomputable def pX(d:Scope):List Str->List Str->Bool
 |[],[]=>B
 |a :: e,b :: bs=>((a==b&&d.names.lookup a==Z .free)||d.names.lookup a==L||d.names.lookup a==Z .globalImplicit)&&pX d e bs
 |_,_=>O
theorem uq:∀{f bs:List Str},pX d f bs=B->f.length=bs.length/\∀(i:Nat)(x:Str),f[i]?=Z x->(bs[i]?=Z x/\d.names.lookup x=Z .free)\/d.names.lookup x=L\/d.names.lookup x=Z .globalImplicit
 |[],[],_=>⟨rfl,λi x h=>by simp at h⟩
 |a :: f,b :: bs,h=>by
  obtain⟨g,n⟩:=Zb.mp (h);obtain⟨l,r⟩:=uq n;refine⟨by simp[l],λi x e=>?_⟩;cases i with
  |zero =>
   have:a=x:=by simpa using e
   subst this;simp only[Bool.or_eq_true,Ye]at g;rcases g with (⟨m,j⟩ | z) | z
   ·exact .inl ⟨by simpa using(by simpa using m:a=b).symm,by simpa using j⟩
   ·exact .inr (.inl (by simpa using z))
   ·exact .inr (.inr (by simpa using z))
  |succ i=>simpa using r i x (by simpa using e)
 |[],_ :: _,h=>nomatch h
 |_ :: _,[],h=>nomatch h
section
def Inv.block{N:List Str}{P:List (Str×KB)}{k:Nat}{A:SC}{t:Nat}(I:Inv X pins J H s)(R:o6 X.env g=B)(Jf:pX g (N.drop k) X.N=B)(Jh:k<=N.length)(j:∀x c,P.lookup x=Z c->X.env.cells.lookup x=Z c)(NY:∀y∈g.names,y.2=.free->∃c,P.lookup y.1=Z c)(E:∀b∈M,n5 X pins H b)(w:s.heap.objs.size<=D)(U:s.heap.objs.size<=C)(N0:D≠C)(NW:C∉M)(a:∀b u,s.heap.get? b=Z u->A.get? b=Z u)(NS:A.Ns C m)(T7:A.get? D=Z { cls:=.type "list",data:=.seq ([]:W5).toArray 0 }) :
  Inv (c6 X N g P C s H M) [] (List.replicate k L++J) (upd H D (.lst [])) { s with heap:=A,toks:=t }:=by
 unfold o6 at R;rw[Ye,ZE]at R;obtain⟨hk,Hs⟩:=R;have IU:g.kind=.function:=by simpa using hk
 obtain⟨hlen,TZ⟩:=uq Jf;have IV:∀y∈g.names,y.2 ≠ .cell:=λy hy e=>by have:=Hs y hy;rw[e]at this;cases this
 refine⟨⟨I.mod,IU,I.ok.glob,I.ok.blt,U,λx y c e1 e2=>I.ok.inj x y c (j x c e1) (j y c e2),λx hx=>?_,λx c e=>(nomatch e),I.ok.hd,I.ok.frames,.inl Y,λb hb=>⟨λ(e:b=C)=>NW (e ▸ hb),λx c e=>(E b hb).2.2.2.2.1 x c (j x c e)⟩,
  I.tb,I.bs,ZY I.ok.KA I.sz,λb o e hb=>?_,λb hb GZ=>?_,I.stack,I.IL⟩,rfl,I.bare,Un.laid a w (I.oe.fresh w),⟨m,NS,λi x v e1 e2 e3=>?_⟩,λx c e=>?_,?_,λx c e=>?_,λp hp=>(nomatch hp),I.oe.laid a w ?_,?_⟩
 ·have h:∃f,(relabel g X.env).names.lookup x=Z f/\(f=.cell\/f=.free):=by
   rcases hx with e | e
   ·exact⟨_,e,.inl Y⟩
   ·exact⟨_,e,.inr Y⟩
  obtain⟨f,F,Q⟩:=h;exact NY _ (gB ((λx f h TF=>by
  obtain⟨G,d,TC⟩:=de h;rcases TC with e | ⟨e,_⟩
  ·subst e;rcases TF with e | e
   ·subst e;exact absurd Y (IV _ (gB d))
   ·subst e;exact d
  ·subst e;exact d) x f F Q)) Y
 ·rcases (E b hb).2.2.2.1 with z | z
  ·exact I.ok.JC b o e z
  ·exact absurd (ZS (ZW e) (ZY I.ok.KA z)) (YZ _)
 ·rcases Zk.mp (I.HH b GZ) with z | z
  ·exact(E b hb).2.1 z
  ·exact(E b hb).2.2.1 z
 ·
  have QZ:k<=i:=by
   rcases Nat.lt_or_ge i k with z | z
   ·rw[Z5 (by simpa using z),YW]at e2;split at e2<;>cases e2
   ·exact z
  rw[Yy (by simpa using QZ),Y6]at e2;have Sh:g.names.lookup x=Z .free->∃f,(relabel g X.env).names.lookup x=Z f/\(f=.cell\/f=.free):=λd=>by
   rcases e3 with z | z | z
   ·obtain⟨G,F,Q⟩:=de z;rw[d]at F;cases F;rcases Q with q | ⟨_,q⟩<;>cases q
   ·exact⟨_,z,.inl Y⟩
   ·exact⟨_,z,.inr Y⟩
  rcases TZ _ x (by
   rw[List.getElem?_drop,show k+(i-k)=i by exact Wj QZ];exact e1) with⟨hX,d⟩ | d | d
  ·obtain⟨f,L8,MV⟩:=Sh d;have Lz:X.env.kindOf x=Z .cell\/X.env.kindOf x=Z .free:=by
    simpa using(Hs _ (gB d))
   obtain⟨mX,Vg,Tw⟩:=I.loc;obtain⟨u,r,l⟩:=Tw _ x v hX e2 (Lz.elim (λz=>.inr (.inl z)) λz=>.inr (.inr z));refine⟨u,r,.inr ⟨?_,?_⟩⟩
   ·rcases MV with z | z
    ·subst z;exact .inl L8
    ·subst z;exact .inr L8
   ·obtain⟨c,S⟩:=NY _ (gB d) Y;refine⟨c,S,?_⟩;rcases l with⟨z,_⟩ | ⟨_,c',HK,LC⟩
    ·rcases Lz with q | q<;>(rw[z]at q;cases q)
    ·have:=j x c S;rw[HK]at this;cases this;exact LC.keeps a
  ·rcases e3 with z | z | z<;>(obtain⟨G,n,_⟩:=de z;rw[d]at n;cases n)
  ·rcases e3 with z | z | z<;>(obtain⟨G,n,z2⟩:=de z;rw[d]at n;cases n;rcases z2 with q | ⟨q,_⟩<;>cases q)
 ·obtain⟨v,z⟩:=I.cell x c (j x c e);exact⟨v,z.keeps a⟩
 ·show upd H D (.lst []) C=L;rw[aA (Ya N0)];exact(I.oe.fresh U)
 ·obtain⟨v,z⟩:=I.cell x c (j x c e);rw[aA (Zg (ZS z.lt w))];exact I.GI x c (j x c e)
 ·exact⟨Yw _,[],0,.nil,T7⟩
 ·rw[Zt,Y6,I.len,← hlen,YC];exact Wj Jh
def Ae(X:Cx)(a:List Expr)(t:TT):Prop :=
 ∀(pins:Xl)(s:FS)(J:St)(H:Hp)(Q:Bool->Hp->Prop),Inv X pins J H s->t J H Q →
  KM (GM X.prog X.w) X.A (forIn a B λc r=>if r=B then (do let ok ← isTrue c X.env (eval c X.env);pure (ForInStep.yield ok)) else pure (ForInStep.yield r)) (TP X pins J Q) X.xe s
def mD:Ae X [] (λJ H Q=>Q B H):=λpins s J H Q I q=>Zl ⟨H,I,q⟩
section
def qR{s:FS}(I:Nat->FS->Prop)(f:∀n s,I n s->KM (GM prog w) A (pyNext t) (λr p=>match r with
   |none=>R (.ok .next) p
   |some v=>KM (GM prog w) A (letOwnedTupleGo a t v) (λ_ D=>KM (GM prog w) A (assign a d v) (λ_ C =>
     KM (GM prog w) A (forIn i B λc r=>if r=B then (do let ok ← isTrue c d (eval c d);pure (ForInStep.yield ok)) else pure (ForInStep.yield r)) (λok o =>
      if ok=B then KM (GM prog w) A (eval j d) (λx z =>
       KM (GM prog w) A (call (.builtin "list.append") [l,x]) (λ_ y=>∃m,m<n/\I m y) (λ_ _=>False) z) (λ_ _=>False) o
      else ∃m,m<n/\I m o) (λ_ _=>False) C) (λ_ _=>False) D) (λ_ _=>False) p) (λ_ _=>False) s)(n:Nat)(h:I n s) :
  codeAny (GM prog w) A (.compLoop (.ListComp j [⟨a,g,i,0⟩] e q) 0 t l d) R s:=by
 refine codeAny_loop Y I (λn s N=>?_) n h;refine wpAny_noted ?_;rw[compTurn_list];refine Zv (wpAny_standAt (Zv (YU (f n s N) (λr p E=>?_) λ_ _ b=>b.elim)));cases r with
 |none=>exact Zl E
 |some v =>
  refine Zv (YU E (λ_ D h₀=>?_) λ_ _ b=>b.elim);refine Zv (YU h₀ (λ_ C M=>Zv (YU M (λok o u=>?_) λ_ _ b=>b.elim)) λ_ _ b=>b.elim);cases ok with
  |false=>exact Zl ⟨rfl,u⟩
  |true =>
   rw[Zp Y]at u;exact Zv (Zv (YU u (λx z G=>Zv (YU G (λ_ y F=>Zl (Zl ⟨rfl,F⟩)) λ_ _ b=>b.elim)) λ_ _ b=>b.elim))
end
def uL(k:Nat)(q:TI)(g:TG)(t:TT)(r:TE)(J:St)(H:Hp)(Q:VK):Prop:=q J H λh p=>∀D,p D=L->∃W:Nat->Nat->St->Hp->Prop,
 (∃m,W 0 m (List.replicate k L++J) (upd p D (.lst [])))/\∀i m j d,W i m j d->(h.stop i d/\Q (.ref D) d)\/(h.go i d/\∀x o,h.Ny i d x o->g x j o λe u=>t e u λb n =>
  if b=B then r e n λy l=>∃f,l D=Z (.lst f)/\f.length<IR/\∃a,a<m/\W (i+1) a e (upd l D (.lst (f++[y]))) else ∃a,a<m/\W (i+1) a e n)
def oz{X:Cx}{N:List Str}(Gz:X.calm=B)(hi:PI X tg a wi)(Iu:o6 X.env E=B)(Jf:pX E (N.drop k) X.N=B)(Jh:k<=N.length)(Hx:∀cl C s H fp,PG (c6 X N E cl C s H fp) tg g/\Ae (c6 X N E cl C s H fp) G tc/\PE (c6 X N E cl C s H fp) R te)(hs:∀x,UF a X.env x=pure x)(I:Inv X pins J H s)(h:uL k wi g tc te J H Q)(hq:∀s' f D C m,Inv X pins J f s'->Q (.ref D) f->s'.heap.Ns C m->n5 X pins f C->compPost (GM X.prog X.w) X.A X.xe F QQ (.ref D) C (.ok .next) s') :
  KM (GM X.prog X.w) X.A (comprehension (.ListComp R [⟨tg,a,G,0⟩] E pos) E X.env pos' (newList []) O (eval a X.env) F) QQ X.xe s:=by
 have Lp:=Iu;unfold o6 at Lp;rw[Ye,ZE]at Lp;obtain⟨hk,Hs⟩:=Lp;have IU:E.kind=.function:=by simpa using hk
 obtain⟨cl,O6,J5,NY⟩:=AI λy M e=>I.ok.has y.1 (by
  have:=Hs y M;rw[e]at this;simpa using this)
 refine wpAny_comprehension_free rfl hs O6 IU (λy M e=>by
  have:=Hs y M;rw[e]at this;simpa using this) (thn (hi pins s J H _ I h) λv s1 h1=>thn h1 λOL j h2=>?_)
 refine L2.ar λP_ k_=>?_;obtain⟨it,fp,tn,Jq,H2,e,I2,T,ND,f2,hW⟩:=h2;subst e;refine k_ ?_;refine YE (wpAny_newFunctionEnv (λy M e=>by have:=Hs y M;rw[e]at this;cases this) (by intro y M;simp at M) (λh₁ JH IF=>?_) IU);generalize hP:j.heap.push { cls:=.type "list",dict:=L,data:=.seq ([]).toArray }=P at JH IF ⊢;have Pb:P.objs.size=j.heap.objs.size+1:=by rw[← hP,Yj]
 have old:=λb o e =>
  IF.extBut b o (by rw[Pb];exact Zg (Yo (ZW e))) (Zo _ (hP ▸ Zo _ e))
 have N0:j.heap.objs.size≠P.objs.size:=by rw[Pb];exact Zg (Z6 _)
 have LH:j.heap.objs.size<=P.objs.size:=by rw[Pb];exact Xm _
 have KR:=λb hb=>let ⟨o,ho,_⟩:=T.obj 0 _ ND b hb;ZW ho
 have NW:P.objs.size∉fp:=λhb=>absurd (ZS (KR _ hb) LH) (YZ _);have IY:=I2.block (N:=N) (k:=k) (t:=j.toks+([]:List (Str×KF)).length) Iu Jf Jh J5 NY f2 (Zm _) LH N0 NW old JH (IF.extBut _ _ N0 (Zo _ (hP ▸ Ze _ rfl)));obtain⟨hG,hT,hE⟩:=Hx cl P.objs.size j H2 fp;generalize hY:c6 X N E cl P.objs.size j H2 fp=Y at IY hG hT hE;have T5:Y.prog=X.prog/\Y.w=X.w/\Y.K=X.K/\Y.A=X.A/\Y.env=compEnvC E cl P.objs.size X.env/\Y.calm=X.calm/\(Y.xe=λ_ _=>False):=by rw[← hY];exact⟨rfl,rfl,rfl,rfl,rfl,rfl,rfl⟩
 refine L2.ar λP_ k_=>?_;obtain⟨y1,U,y3,S,y5,y6,y7⟩:=T5;have IB:∀{f:Hp},(∀b∈fp,f b=L)->∀b∈fp,n5 Y [] f b:=λ{f} hn b hb=>by
  rw[← hY];refine⟨hn b hb,λ(e:b=P.objs.size)=>NW (e ▸ hb),λGZ=>?_,.inl hb,λx c e=>(f2 b hb).2.2.2.2.1 x c (J5 x c e),λp hp=>(nomatch hp)⟩;rcases Zk.mp (I2.HH b GZ) with z | z
  ·exact(f2 b hb).2.1 z
  ·exact(f2 b hb).2.2.1 z
 obtain⟨W,⟨m0,w0⟩,turn⟩:=hW j.heap.objs.size (I2.oe.fresh (Zm _));refine k_ ?_;have KJ:=T.keep _ _ _ ND λb _ o e=>old b o e;have loop:codeAny (GM X.prog X.w) X.A (.compLoop (.ListComp R [⟨tg,a,G,0⟩] E pos) 0 (.ref it) (.ref j.heap.objs.size) (compEnvC E cl P.objs.size X.env)) (compPost (GM X.prog X.w) X.A X.xe F QQ (.ref j.heap.objs.size) P.objs.size)
   { j with heap:=h₁,toks:=j.toks+([]:List (Str×KF)).length }:=by
  refine qR (λn s'=>∃i J' f,Inv Y [] J' f s'/\tn i s'.heap/\(∀b∈fp,f b=L)/\W i n J' f) ?_ m0 ⟨0,_,_,IY,KJ,(λb hb=>by rw[aA (Zg (KR b hb))];exact(f2 b hb).1),w0⟩;rintro n s3 ⟨i,J3,H3,I3,KJ,M6,w3⟩;rcases turn i n J3 H3 w3 with⟨stop,qn⟩ | ⟨go,step⟩
  ·have q:=T.done Y y1 U y3 (y6.trans Gz) i [] s3 J3 H3 (λ_ _=>False) I3 (IB M6) KJ stop;rw[S]at q;refine thn q λr s4 l=>?_;obtain⟨hr,I4⟩:=l;subst hr;obtain⟨mC,QX,_⟩:=I4.loc;have f4:=I4.free;rw[y5]at QX f4;exact hq s4 H3 _ P.objs.size mC (by
    have b4:=I4.base;have o4:=I4.os;have k4:=I4.oe;rw[← hY]at b4 o4 k4;refine I2.Nj (ch:=fp) o4 b4 k4 I4.bare λb hb=>?_;exact⟨(f2 b hb).2.2.2.1,(f2 b hb).2.1,(f2 b hb).2.2.2.2.1,(f2 b hb).2.2.2.2.2⟩) qn QX (I2.JP LH f4)
  ·have q:=T.item Y y1 U y3 (y6.trans Gz) i [] s3 J3 H3 (λ_ _=>False) I3 (IB M6) KJ go;rw[S]at q;refine thn q λr s4 l=>?_;obtain⟨u,hr,h4⟩:=l;subst hr;refine thn h4 λ_ s5 l=>?_;obtain⟨x,H5,I5,r5,Sd,Ld,Pe⟩:=l;have again:∀{J7:St}{H7:Hp}{s7:FS}{m:Nat},Inv Y ([]++nz fp s5.heap) J7 H7 s7->W (i+1) m J7 H7->∃i J' f,Inv Y [] J' f s7/\tn i s7.heap/\(∀b∈fp,f b=L)/\W i m J' f:=λ{J7 H7 s7 m} I7 w7=>by
    refine⟨i+1,J7,H7,I7.GW,T.keep _ _ _ Ld λb hb o e=>(I7.pin (b,o) (ZM _ (ZM _ (ik hb e)))).1,λb hb=>?_,w7⟩;obtain⟨o,e,d⟩:=T.obj _ _ Ld b hb;exact(I7.pin (b,o) (ZM _ (ZM _ (ik hb e)))).2.1
   have qa:=hG _ s5 J3 H5 x u _ (I5.pinned (IB Pe) (T.obj _ _ Ld)) r5 (step x H5 Sd);rw[y1,U,S,y5,y7]at qa;refine thn qa λ_ s6 l=>?_;obtain⟨J6,H6,I6,q6⟩:=l;have qt:=hT _ s6 J6 H6 _ I6 q6;rw[y1,U,S,y5,y7]at qt;refine thn qt λb s7 l=>?_;obtain⟨H7,I7,q7⟩:=l;cases b with
   |false =>
    rw[Zn Zc]at q7 ⊢;obtain⟨m',hm,w7⟩:=q7;exact⟨m',hm,again I7 w7⟩
   |true =>
    rw[Zp rfl]at q7 ⊢;have qe:=hE _ s7 J6 H7 _ I7 q7;rw[y1,U,S,y5,y7]at qe;refine thn qe λyv s8 l=>?_;obtain⟨y,H8,I8,r8,ys,T8,Tz,m',hm,w8⟩:=l;have qp:=jd (X:=Y) _ s8 J6 H8 (.ref j.heap.objs.size) [y] (.ref j.heap.objs.size) [yv] (λ_ H9=>W (i+1) m' J6 H9) I8 rfl (.cons r8 .nil) ⟨_,ys,y,rfl,rfl,T8,Tz,w8⟩;rw[y1,U,S,y7]at qp;refine thn qp λ_ s9 l=>?_;obtain⟨_,H9,I9,_,w9⟩:=l;exact⟨m',hm,again I9 w9⟩
 exact codeAny_compStart_list loop (T.self _ 0 _ _ _ KJ loop)
def tW{X:Cx}{N:List Str}(P:X.calm=B)(w:PI X l a p)(A:o6 X.env d=B)(z:pX d (N.drop k) X.N=B)(y:k<=N.length)(F:∀cl C s H fp,PG (c6 X N d cl C s H fp) l g/\Ae (c6 X N d cl C s H fp) i t/\PE (c6 X N d cl C s H fp) j r)(u:{`q3,∀x,UF a X.env x=pure x}):PE X (.ListComp j [⟨l,a,i,0⟩] d n) (uL k p g t r):=by
 intro pins s J H Q I h;rw[eval_ListComp];refine oz P w A z y F u I h λR M D C m E q v f=>⟨m,v,λS G=>?_⟩
 exact⟨.ref D,M,E.turned (λb o hb e=>G.extBut b o hb e) f.1 f.2.1 f.2.2.2.1 f.2.2.2.2.1 f.2.2.2.2.2,rfl,q⟩
def sQ{X:Cx}{A:Pos}{N:List Str}(hN:X.N.Nodup)(O1:X.N[i]?=Z x)(F:Loc X.env.scope x)(Gz:X.calm=B)(Q:PI X t d u)(Iu:o6 X.env l=B)(Jf:pX l (N.drop k) X.N=B)(Jh:k<=N.length)(Hx:∀cl C s H fp,PG (c6 X N l cl C s H fp) t g/\Ae (c6 X N l cl C s H fp) n y/\PE (c6 X N l cl C s H fp) p w)(Ih:swapsWith (.ListComp p [⟨t,d,n,0⟩] l r) (Z (.Name x j)) A.line X.env=pure B)(R:X.fn x=B\/X.env.scope.names.lookup x=Z .local)(G:{`q3,∀x,UF d X.env x=pure x}) :
  PS X (.Assign [.Name x j] (.ListComp p [⟨t,d,n,0⟩] l r) A) (λD J H=>uL k u g y w J H λv H1=>D.nx (J.set i (Z v)) H1):=by
 intro pins s J H D I h;rw[exec_Assign_Name_used _ _ _ _ Ih];refine Zv (wpAny_standAt (Zv ?_));refine Zv (YU (oz Gz Q Iu Jf Jh Hx G I h λE H' D' C m I' q P f=>?_) (λ_ E M=>Zl (Zl M)) λ_ _ e=>e);refine wpAny_assign_Name (oI I' hN O1 F (v:=.ref D') Y (λs2 I2 U=>?_) R);obtain⟨a,Ta,S⟩:=U;refine⟨m,P.sameBut Ta (λe=>by
  rcases S with z | z
  ·exact f.2.1 (e.trans z)
  ·exact f.2.2.2.2.1 x a z e.symm),λh' Hv=>⟨_,H',?_,q⟩⟩
 exact I2.turned (λb o hb e=>Hv.extBut b o hb e) f.1 f.2.1 f.2.2.2.1 f.2.2.2.2.1 f.2.2.2.2.2
end
end L2
end
section
namespace VS
open PySem PySem.Spec PyProof.Rows L2
noncomputable def pT(k:Nat)(g:Tg):Prop:=∀t U a,g t U=Z a->a.length=U.length/\∀i,k<=i->a[i]?=U[i]?
def cU(h:{`q1,i<k}):pT k (ba i):=λt U b e=>by
 unfold ba at e;split at e
 ·cases e;exact⟨by simp,λj a=>by rw[YI (by lia)]⟩
 ·cases e
theorem uw:∀{d:List Tg},(∀g∈d,pT k g)->∀b U a,xN d b U=Z a->a.length=U.length/\∀i,k<=i->a[i]?=U[i]?
 |[],_,[],U,a,e=>by cases (e);exact⟨rfl,λ_ _=>rfl⟩
 |[],_,_ :: _,U,a,e=>nomatch e
 |_ :: _,_,[],U,a,e=>nomatch e
 |g :: d,h,t :: b,U,a,e=>by
  obtain⟨f,e1,e2⟩:=Zz.mp (e);obtain⟨o,n⟩:=h g Zw t U f e1;obtain⟨m,l⟩:=uw (λj hg=>h j (Zx _ hg)) b f a e2;exact⟨m.trans o,λi hi=>(l i hi).trans (n i hi)⟩
def v8(f:pT k b)(d:pT k a):pT k (jM [b,a]):=λt U h e=>by
 unfold jM at e;split at e
 ·refine uw (λg hg=>?_) _ U h e;rcases Zk.mp hg with rfl | hg
  ·exact f
  ·rw[Zj.mp hg];exact d
 ·cases e
theorem uK:∀(l:Vw){i:Nat}{t:T},ij l=B->l[i]?=Z t->FW t=B
 |[],_,_,_,h=>by simp at h
 |x :: l,0,t,h,e=>by
  simp at e;rw[← e];exact(Zb.mp h).1
 |x :: l,i+1,t,h,e=>by
  exact uK l (Zb.mp h).2 (by simpa using e)
def tC(G:Gx):Option Ex->TT
 |none=>λJ H Q=>Q B H
 |some c=>tT G c
section
def kg:(List.replicate k L++U)[i]?=Z (Z c)↔k<=i/\U[i-k]?=Z (Z c):=by
 rcases Nat.lt_or_ge i k with h | h
 ·rw[Z5 (by simpa using h),YW];constructor
  ·intro e;split at e<;>cases e
  ·intro ⟨e,_⟩;lia
 ·rw[Yy (by simpa using h),Y6];exact⟨λe=>⟨h,e⟩,λe=>e.2⟩
def yz:cE (λi=>M (i-k)) (List.replicate k L++U) a↔cE M U a:=by
 constructor
 ·rintro⟨j,t,d,b⟩;exact⟨j-k,t,(kg.mp d).2,b⟩
 ·rintro⟨j,t,d,b⟩;refine⟨j+k,t,kg.mpr ⟨Nat.le_add_left _ _,by rw[XI];exact d⟩,?_⟩;show a∈M (j+k-k);rw[XI];exact b
def yN:eR (λi=>M (i-k)) (List.replicate k L++U) a↔eR M U a:=by
 constructor
 ·rintro⟨j,t,d,b⟩;exact⟨j-k,t,(kg.mp d).2,b⟩
 ·rintro⟨j,t,d,b⟩;refine⟨j+k,t,kg.mpr ⟨Nat.le_add_left _ _,by rw[XI];exact d⟩,?_⟩;show a∈M (j+k-k);rw[XI];exact b
def SR.sh(s:SR G M U J H):SR G (λi=>M (i-k)) (List.replicate k L++U) (List.replicate k L++J) H:=by
 refine⟨by simp[s.len],λi c h=>?_,λi t h=>?_,λi j t c b a n=>?_⟩
 ·obtain⟨b,a⟩:=kg.mp h;obtain⟨v,e,d⟩:=s.rp _ c a;refine⟨v,?_,d⟩;rw[Yy (by simpa using b),Y6];exact e
 ·exact s.nd _ t (kg.mp h).2
 ·obtain⟨m,g⟩:=kg.mp b;obtain⟨l,f⟩:=kg.mp a;exact s.sep _ _ t c g f (by lia)
def SR.less{U:VS.Env}(s:SR G M a J H)(b:U.length=a.length)(h:∀(i:Nat) c,U[i]?=Z (Z c)->a[i]?=Z (Z c)):SR G M U J H :=
 ⟨b.trans s.len,λi c e=>s.rp i c (h i c e),λi t e=>s.nd i t (h i _ e),λi j t c e1 e2 n=>s.sep i j t c (h i _ e1) (h j _ e2) n⟩
def SR.off(s:SR G M U J H)(m:FR (H D)\/H D=L)(d:¬eR M U D)(a:¬cE M U D):SR G M U J (upd H D o):=by
 refine⟨s.len,λi c e=>?_,s.nd,s.sep⟩;obtain⟨v,h,g⟩:=s.rp i c e;refine⟨v,h,g.keep (Kept.upd m) λb hb j f=>?_⟩;rw[aA λz=>?_]
 ·exact f
 ·subst z;cases c with
  |pu t=>exact d ⟨i,t,e,hb⟩
  |ow t=>exact a ⟨i,t,e,hb⟩
theorem mH:∀(l:Vy)(v:Val),cK (l++[v])=(cK l).join v.1
 |[],(m,t)=>by cases m<;>rfl
 | (m,t) :: l,v=>by
  show m.join (cK (l++[v]))=(m.join (cK l)).join v.1;rw[mH l v];generalize cK l=q;generalize v.1=r;cases m<;>cases q<;>cases r<;>rfl
def Fp.MP(f:Fp M U H m F)(g:Fp M U H n j)(d:n=.fr->∀a∈F,a∉j):Fp M U H (m.join n) (F++j):=by
 have both:∀{P:KB->Prop},(∀a∈F,P a)->(∀a∈j,P a)->∀a∈F++j,P a:=λp q a h=>(Zd.mp h).elim (p a) (q a);cases m<;>cases n
 ·exact⟨ZL.mpr ⟨f.1,g.1,λa i b hb e=>d Y a i (e ▸ hb)⟩,both f.2 g.2⟩
 ·exact both (λa i=>.inl (f.2 a i)) g
 ·exact both (λa i=>.inl (f.2 a i)) g
 ·exact both f λa i=>.inl (g.2 a i)
 ·exact both f g
 ·exact both (λa i=>(f a i).imp id .inl) g
 ·exact both f λa i=>.inl (g.2 a i)
 ·exact both f λa i=>(g a i).imp id .inl
 ·exact both f g
def Fp.Nh(f:Fp M U H m F)(h:H D=L)(d:D∉F):Fp M U H m (D :: F):=by
 have all:∀{P:KB->Prop},P D->(∀a∈F,P a)->∀a∈D :: F,P a:=λp q a b=>(Zk.mp b).elim (λe=>e ▸ p) (q a);cases m
 ·exact⟨ZX.mpr ⟨d,f.1⟩,all h f.2⟩
 ·exact all (.inl h) f
 ·exact all (.inl h) f
end
section
def CI(G:Gx)(M:FP)(U b:VS.Env)(H p:Hp)(D:KB)(l:Vw)(h:Vy)(q:Tg)(d:Option Ex)(r:Ex)(i n:Nat)(s:L2.St)(f:Hp):Prop:=n=l.length-i/\∃e g j m rest,SR G e b s f/\(∀a,cE e b a->cE M U a)/\(∀a,eR e b a->H a=L\/eR M U a)/\¬eR e b D/\¬cE e b D/\Kept p f ∧
     (∀a o,a≠D->p a=Z o->f a=Z o)/\f D=Z (.lst m)/\RpL G f m (trees g) j/\D∉j.flatten/\Fp M U H (cK g) j.flatten/\nA q d r b (l.drop i)=Z rest/\g++rest=h
def ql{G:Gx}{k:Nat}{tg:Tg}{ci:Iz}{cond:Option Ex}{ce:Ex}{J:L2.St}{H:Hp}{Q:VK}(Hx:pT k tg)(h:tE G (cT k tg ci cond ce) J H Q):uL k (tI G ci) (tG G tg) (tC G cond) (tE G ce) J H Q:=by
 refine L2.ar λP_ A=>?_;obtain⟨M,U,m,r,s,e,kq⟩:=h;obtain⟨⟨mi,l⟩,el,e1⟩:=Zz.mp e;dsimp only at e1;split at e1
 ·rename_i oe;obtain⟨all,ea,e2⟩:=Zz.mp e1;unfold Hu at e2;split at e2
  ·rename_i hlen;cases e2;refine A ?_;refine⟨M,U,mi,l,s,el,λJq H1 C e3 ok fc D hD=>?_⟩;have LG:=e3.free hD;let N:VS.Env:=List.replicate k L++U
   have good:∀{t:T}{i:Nat}{p H2:Hp}{v:V}{F:W4},l[i]?=Z t->Rp G H2 v t F->(∀a,H1 a≠L->p a≠L)->(∀a∈F,a∈C\/p a=L)->∀a∈F,(H a=L\/eR M U a)/\¬cE M U a:=λ{t i p H2 v F} hi rF keep hF a d=>by
    have Ge:∀{b},H b≠L->p b≠L:=λ{b} hb=>keep b λz=>hb (e3.free z);rcases hF a d with z | z
    ·rcases fc a z with q | q | ⟨q,w⟩
     ·exact⟨.inl q,λw=>FR.lp (s.G3 w) q⟩
     ·exact⟨.inr q,λw=>s.JA w q⟩
     ·subst q;have:FW t=B:=by
       exact uK l oe hi
      rw[rF.FW this]at d;simp at d
    ·have hz:=Classical.byContradiction λq=>Ge q z;exact⟨.inl hz,λw=>FR.lp (s.G3 w) hz⟩
   refine⟨CI G M U N H H1 D l all tg cond ce,?_,?_⟩
   ·refine⟨l.length-0,rfl,λi=>M (i-k),[],[],[],all,?_,λa h=>yz.mp h,λa h=>.inr (yN.mp h),λh=>?_,λh=>?_,Kept.upd (.inr hD),λa o n h=>by rw[aA n];exact h,aw,.nil,by simp,Fp.nil,by rw[Wx];exact ea,rfl⟩
    ·exact((s.same e3).sh).off (.inr hD) (λh=>FR.lp (s.Jz (yN.mp h)) LG) λh=>FR.lp (s.G3 (yz.mp h)) LG
    ·exact FR.lp (s.Jz (yN.mp h)) LG
    ·exact FR.lp (s.G3 (yz.mp h)) LG
   ·intro i n J' p TM;refine L2.ar λP_ A=>?_;obtain⟨rfl,M1,X,Fs,xs,rest,s1,QB,SH,SM,SN,kp,old,Mb,rp,nD,fp,er,ev⟩:=TM;refine A ?_;have IS:∀a,H1 a≠L->p a≠L:=λa d z=>by
     by_cases q:a=D
     ·subst q;rw[Mb]at z;cases z
     ·cases e:H1 a with
      |none=>exact d e
      |some o=>rw[old a o q e]at z;cases z
    refine L2.ar λP_ A=>?_;obtain⟨go,stop⟩:=ok.run p kp λa d o ho=>old a o (λz=>ok.Ge a d (z ▸ hD)) ho;cases hit:l[i]? with
    |none =>
     have hl:=Yk.mp hit;refine A ?_;left;refine⟨stop i hl,?_⟩;rw[Y1 hl]at er;cases (er);rw[ZJ]at ev;subst ev;refine kq (.ref D) p (D :: Fs.flatten) (λa o h=>old a o (λz=>by rw[z,LG]at h;cases h) (e3 a o h)) (.lst Mb rp) ?_;by_cases hi:ij (trees X)=B
     ·rw[Zp hi,rp.FW hi];exact⟨by simp,λa d=>by rw[Zj.mp d];exact LG⟩
     ·rw[Zn hi];exact fp.Nh LG nD
    |some t =>
     have hl:=(ZZ.mp hit).1;obtain⟨g1,y1⟩:=go i t hit;refine A ?_;right;refine⟨g1,λx H2 yl=>?_⟩;refine L2.ar λP_ A=>?_;obtain⟨g,F,rF,hF⟩:=y1 x H2 yl;rw[oE (tgt:=tg) (body:=dH) (U:=U) hit]at er;rw[nA]at er;obtain⟨U3,e4,e5⟩:=Zz.mp er;obtain⟨b,eb,e6⟩:=Zz.mp e5;have gd:=good hit rF IS hF;refine A ?_;refine⟨M1,N,t,F,U3,(s1.same g),rF,λa d z=>(gd a d).2 (QB a z),e4,λP J3 s3 o3 p3=>?_⟩;obtain⟨tl,Ms⟩:=Hx t N U3 e4;have low:∀j c,N[j]?=Z (Z c)->U3[j]?=Z (Z c):=λj c h=>by rw[Ms j (kg.mp h).1];exact h
     have NJ:=λa h=>(p3 a h).elim (SH a) λh=>(gd a h).1;have Ov:=λa h=>QB a (o3 a h);have ME:=λh=>(p3 D h).elim SM (λh=>by
      rcases hF D h with z | z
      ·exact ok.Ge D z hD
      ·rw[Mb]at z;cases z)
     have NN:=λh=>SN (o3 D h);have NI:∀a,eR P N a->eR P U3 a:=λa ⟨j,u,h1,h2⟩=>⟨j,u,low j _ h1,h2⟩
     have NK:∀a,cE P N a->cE P U3 a:=λa ⟨j,u,h1,h2⟩=>⟨j,u,low j _ h1,h2⟩
     have KO:∀S,aJ H2 S->(if b=B then tE G ce J3 S λy R=>∃ys,R D=Z (.lst ys)/\ys.length<IR/\∃m',m'<l.length-i/\CI G M U N H H1 D l all tg cond ce (i+1) m' J3 (upd R D (.lst (ys++[y]))) else ∃m',m'<l.length-i/\CI G M U N H H1 D l all tg cond ce (i+1) m' J3 S):=λS f=>by
      have eo:∀{R},aJ S R->∀a o,p a=Z o->R a=Z o:=λ{R} Mg a o h=>Mg a o (f a o (g a o h));cases b with
      |false =>
       rw[Zn Zc]at e6 ⊢;have same:=eo (aJ.refl S);exact⟨_,by lia,rfl,P,X,Fs,xs,rest,(s3.same f).less (by rw[tl]) low,λa h=>Ov a (NK a h),λa h=>NJ a (NI a h),λh=>ME (NI D h),λh=>NN (NK D h),kp.trans ((Kept.of g).trans (Kept.of f)),λa o n h=>same a o (old a o n h),same D _ Mb,rp.same (aJ.trans g f),nD,fp,e6,ev⟩
      |true =>
       rw[Zp Y]at e6 ⊢;obtain⟨⟨mv,tv⟩,Us,e7⟩:=Zz.mp e6;obtain⟨Mx,Up,RV⟩:=Zu.mp e7;refine⟨P,U3,mv,tv,s3.same f,Us,λy R Fy Mg ry E=>?_⟩;have same:=eo Mg;have Rn:=same D _ Mb;have NQ:FR (R D):=by rw[Rn];exact True.intro
       have Pa:=f D _ (g D _ Mb);have JB:=λa h=>Classical.byContradiction λq=>IS a (λz=>q (e3.free z)) (g.free (f.free h));have R8:=λh=>by
        cases mv with
        |fr=>have:=E.2 D h;rw[Pa]at this;cases this
        |pu=>exact(E D h).elim (λz=>by rw[Pa]at z;cases z) ME
        |bo=>exact(E D h).elim (λz=>by rw[Pa]at z;cases z) λz=>z.elim ME NN
       have SU:xs.length=X.length:=by rw[rp.len.1];simp
       have SV:X.length<all.length:=by rw[← ev,← RV];simp
       refine⟨xs,Rn,?_,_,by lia,rfl,P,X++[(mv,tv)],Fs++[Fy],xs++[y],Mx,(((s3.same f).same Mg).off (.inl NQ) ME NN).less (by rw[tl]) low,λa h=>Ov a (NK a h),λa h=>NJ a (NI a h),λh=>ME (NI D h),λh=>NN (NK D h),?_,λa o n h=>?_,aw,?_,?_,?_,Up,?_⟩
       ·have QY:all.length<=dq:=by simpa using hlen
        have:IR=dq:=rfl;lia
       ·exact(kp.trans ((Kept.of g).trans ((Kept.of f).trans (Kept.of Mg)))).trans (Kept.upd (.inl NQ))
       ·rw[aA n];exact same a o (old a o n h)
       ·have:trees (X++[(mv,tv)])=trees X++[tv]:=by simp
        rw[this];exact((rp.same ((g.trans f).trans Mg)).off NQ nD).append (.cons (ry.keep (Kept.upd (.inl NQ)) λb hb o ho=>by rw[aA (λz=>R8 (by rw[← z];exact hb))];exact ho) .nil)
       ·rw[Yi];intro h;rcases Zd.mp h with z | z
        ·exact nD z
        ·exact R8 (by simpa using z)
       ·rw[Yi,mH];have:([Fy]).flatten=Fy:=by simp
        rw[this];refine fp.MP (by
        cases mv with
        |fr=>exact⟨E.1,λa d=>JB a (E.2 a d)⟩
        |pu=>exact λa d=>(E a d).elim (λz=>.inl (JB a z)) (NJ a)
        |bo=>exact λa d=>(E a d).elim (λz=>.inl (JB a z)) λz=>z.elim (λz=>(NJ a z).imp id .inl) λz=>.inr (.inr (Ov a z))) λhm a d hb=>?_
        subst hm;have:=(rp.same (g.trans f)).Ge a d;rw[(E.2 a hb)]at this;exact this
       ·rw[Z2,← ev,← RV];rfl
     cases cond with
     |none =>
      cases (eb);exact KO H2 (aJ.refl H2)
     |some c =>
      obtain⟨⟨mc,xc⟩,Uu,LL⟩:=Zz.mp eb;exact⟨P,U3,mc,xc,b,s3,Uu,LL,λS f=>KO S f⟩
  ·cases e2
 ·cases e1
end
section
def d6{X:Cx}(k:Nat)(N:List Str)(m:X.calm=B)(b:PVI G X tg iter ci)(l:pT k g)(d:∀cl C s H fp,LU G (c6 X N sc cl C s H fp) tg g)(he:∀cl C s H fp,PV G (c6 X N sc cl C s H fp) elt ce)(j:{`q2,o6 X.env sc=B})(f:{`q2,pX sc (N.drop k) X.N=B})(e:{`q1,k<=N.length})(a:{`q3,∀x,UF iter X.env x=pure x}) :
  PV G X (.ListComp elt [⟨tg,iter,[],0⟩] sc pos) (cT k g ci L ce) :=
 PE.weak (tW m b j f e (λcl C s H fp=>⟨d cl C s H fp,mD,he cl C s H fp⟩) a) λJ H Q h=>ql l h
def AR(h:tS G (aB i a) D J H):tE G a J H λv q=>D.nx (J.set i (Z v)) q:=by
 refine L2.ar λu j=>?_;obtain⟨M,U,o,s,e,k⟩:=h;obtain⟨⟨m,t⟩,p,e1⟩:=Zz.mp e;refine j ?_;split at e1
 ·cases e1
 ·rename_i l;split at e1
  ·rename_i n;cases e1;refine⟨M,U,m,t,s,p,λv r F e3 b f3=>?_⟩;obtain⟨f,d⟩:=s.val n e3 b f3 (.inl ⟨rfl,l⟩);exact k _ _ r f d
  ·cases e1
def yB{X:Cx}{Jx:Pos}(k:Nat)(N:List Str)(l:∀D J H,tS G a D J H->tE G (cT k g ci L ce) J H λv u=>D.nx (J.set i (Z v)) u)(w:X.calm=B)(e:PVI G X tg iter ci)(t:pT k g)(f:∀cl C s H fp,LU G (c6 X N sc cl C s H fp) tg g)(he:∀cl C s H fp,PV G (c6 X N sc cl C s H fp) elt ce)(m:X.N.Nodup)(n:{`q2,X.N[i]?=Z x})(b:{`q6,Loc X.env.scope x})(q:{`q2,o6 X.env sc=B})(p:{`q2,pX sc (N.drop k) X.N=B})(o:{`q1,k<=N.length})(r:{`q2,swapsWith (.ListComp elt [⟨tg,iter,[],0⟩] sc pos) (Z (.Name x pos')) Jx.line X.env=pure B})(j:{`q7,X.fn x=B\/X.env.scope.names.lookup x=Z .local})(d:{`q3,∀x,UF iter X.env x=pure x}) :
  PSV G X (.Assign [.Name x pos'] (.ListComp elt [⟨tg,iter,[],0⟩] sc pos) Jx) a :=
 PS.weak (sQ m n b w e q p o (λcl C s H fp=>⟨f cl C s H fp,mD,he cl C s H fp⟩) r j d) λD J H h=>ql t (l D J H h)
end
end VS
end
section
namespace L2
open PySem PySem.Spec PyProof.Rows
def P5(K:W0)(a:KB):It :=
 ⟨λi H=>∃b x,FT K H a b/\b[i]?=Z x,λi H v d=>∃p x,H p=L/\v=.ref p/\d=upd H p (.tup [.int i,x])/\∀b,FT K H a b->b[i]?=Z x,λi H=>∃b,FT K H a b/\b.length<=i⟩
def u5{P:Pv}{w:SL}{K:W0}{A:List Expr}{n:Nat}{G:Pos}(a e f:KB)(Hb:e≠f):Turn P w K (.Tuple A n G) (P5 K a) [e,f] e (λi h=>(∃old,IsEnum h e f i old)/\h.IsListIter f a i) where
 mem:=by simp
 obj:=λi h st b hb=>by
  obtain⟨⟨old,he⟩,o,N,c,d⟩:=st;rcases Zk.mp hb with rfl | hb
  ·exact⟨_,he,λv z=>by cases (z)⟩
  ·rw[Zj.mp hb];exact⟨o,N,λv z=>by rw[d]at z;cases z⟩
 keep:=λi h h' st k=>⟨let ⟨old,he⟩:=st.1;⟨old,k e (by simp) _ he⟩,st.2.at λo x=>k f (by simp) o x⟩
 item:=by
  intro X Q hw R hc i g s J H E I l st hg;refine L2.ar λP_ k_=>?_;subst Q hw R;obtain⟨xs,x,D,M⟩:=hg;obtain⟨cv,F,p,hz⟩:=I.list D;obtain⟨u,hu,ru⟩:=F.get M;obtain⟨⟨old,he⟩,hit⟩:=st;refine k_ ?_;refine wpAny_pyNext_enum_item he hit p.isList (x:=u) (by simpa using hu) Hb λh1 N OY hT hsz hk=>⟨_,rfl,?_⟩
  refine wpAny_letOwnedTupleGo_enum N λh2 O4 C=>?_;have C:=C;have QK:=ZW he;have Rm:=I.oe.fresh (Zm _);have t:∀b o,b∉[e,f]->s.heap.get? b=Z o->h2.get? b=Z o:=λb o hb q=>by
   have Rt:b≠e:=λz=>hb (by simp[z]);exact(C.2 b Rt).trans (hk b o Rt (λz=>hb (by simp[z])) q)
  have Ri:=(C.2 _ (Xi QK)).trans hT;have QG:∀b o,H b=Z o->b∉[e,f]:=λb o q hb=>by rw[(l b hb).1]at q;cases q
  have up:∀b o,H b=Z o->upd H s.heap.objs.size (.tup [.int i,x]) b=Z o:=λb o q=>by rw[aA (cH q Rm)];exact q
  refine⟨.ref s.heap.objs.size,upd H s.heap.objs.size (.tup [.int i,x]),?_,rfl,⟨_,x,Rm,rfl,rfl,λys hy=>by rw[I.Ig hy D];exact M⟩,⟨⟨u,by simpa using O4⟩,OY.at λo y=>(C.2 f Hb.symm).trans y⟩,λb hb=>?_⟩
  ·show Inv X g J _ { s with heap:=h2,gens:=s.gens,drawn:=s.drawn,toks:=s.toks+1 };refine I.step (λb hb=>?_) (λb o _ _ j q _=>t b o j q) (λb o _ _ j q _=>⟨o.slots,t b o j q⟩) (λb o _ q r=>by rw[aA ((λb o q=>Zg (ZW q)) b o q)];exact r) (λb o j q=>⟨o,t b o j q⟩)
    (λb ys q=>up b _ q) (λb o v q=>up b _ q) (λb _ q=>up b _ q) (λm hm=>?_) (λb ob q=>by
   by_cases hb:b=s.heap.objs.size
   ·subst hb;rw[aw]at q;cases q;exact⟨by show 2<=IR;decide,[.int i s.toks,u],.cons ⟨_,rfl⟩ (.cons ru .nil),KD.of Ri Y,⟨_,Ri,rfl,_,rfl⟩⟩
   ·rw[aA hb]at q;refine(I.oe b ob q).I0 (λc v j r=>t c v ?_ r) (λc r=>up c _ r) (λc ys r=>up c _ r) λc _ _ r=>up c _ r;rcases j with z | z
    ·rw[z];exact QG b ob q
    ·exact QG c _ z) I.bare
   ·obtain⟨f0,f1,f2,f3,U,S⟩:=l b hb;exact⟨f3,f1,U,S⟩
   ·obtain⟨o,es,ep,Ii,r⟩:=hm;refine⟨o,es,ep,t _ o (λz=>?_) Ii,r⟩;exact(l _ z).2.1 Y
  ·have:b≠s.heap.objs.size:=by
    rcases Zk.mp hb with rfl | hb
    ·exact Zg QK
    ·rw[Zj.mp hb];exact Zg (let ⟨_,z,_⟩:=hit;ZW z)
   rw[aA this];exact(l b hb).1
 done:=by
  intro X Q hw R hc i g s J H E I l st hg;subst Q hw R;obtain⟨xs,D,M⟩:=hg;obtain⟨cv,F,p,hz⟩:=I.list D;obtain⟨⟨old,he⟩,hit⟩:=st;obtain⟨f0,f1,f2,f3,U,S⟩:=l f (by simp);have hl:=F.length;exact wpAny_pyNext_enum_end (I.ok.hd hc) he hit p.isList (by simp;lia) λh' eb=>⟨rfl,I.turned (λb o hb q=>eb b o hb q) f0 f1 f3 U S⟩
 self:=λ_ _ _ _ _ st h=>let ⟨_,he⟩:=st.1;wpAny_pyIter_enum he h
section
def E9(K:W0)(ta:TA):TI:=λJ H R=>ta J H λe b=>∃l,e=[.ref l]/\(∃d,FT K b l d)/\R (P5 K l) b
def zw(y:Gl X "enumerate")(w:X.mg "enumerate" = L)(z:PA X [a] ta)(u:{`q2,PP [a] X.env=[(O,eval a X.env)]}):PI X (.Tuple f n C) (.Call (.Name "enumerate" p) [a] [] pos) (E9 X.K ta):=by
 intro d s J H R I h;refine Call_ (mw I y w boot_enumerate (XM (thn (z pos d s J H _ I h) λG i A=>?_) u Y));obtain⟨F,D,g,r1,o⟩:=A;obtain⟨l,e,⟨E,v⟩,q⟩:=o;subst e;cases r1 with
 |cons r m =>
  cases m;cases r;obtain⟨Q,M,pl,N⟩:=g.list v;refine call_enumerate_list pl.isList λP he hit t x=>?_;refine wpAny_pyIter_enum he ?_;refine⟨_,_,_,_,D,rfl,g.kept x,u5 l (i.heap.objs.size+1) i.heap.objs.size (Nat.succ_ne_self _),⟨⟨_,he⟩,hit⟩,λb hb=>?_,q⟩;have j:i.heap.objs.size<=b:=by
   rcases Zk.mp hb with rfl | hb
   ·exact YS _ _
   ·rw[Zj.mp hb];exact Zm _
  exact g.JP j (g.oe.fresh j)
end
end L2
namespace VS
open PySem PySem.Spec PyProof.Rows L2
section
theorem qE:∀(l:Vw)(k i:Nat){t:T},(iS k l)[i]?=Z t->∃x,l[i]?=Z x/\t=.tup [.int ((k+i:Nat):Int),x]
 |[],_,_,_,h=>by simp[iS]at h
 |x :: l,k,0,t,h=>by
  simp[iS]at h;exact⟨x,rfl,by rw[← h];rfl⟩
 |x :: l,k,i+1,t,h=>by
  obtain⟨y,d,b⟩:=qE l (k+1) i (by simpa[iS] using h);refine⟨y,by simpa using d,?_⟩;rw[b,show k+1+i=k+(i+1) by lia]
theorem oj:∀(l:Vw)(k:Nat),(iS k l).length=l.length
 |[],_=>rfl
 |x :: l,k=>by simp[iS,oj l (k+1)]
def zO{a:KB}(K:W0)(j:H a=Z (.lst d))(r:RpL G H d e u):Jj G (P5 K a) (iS 0 e) (a :: u.flatten) H:=by
 refine⟨λs k c=>?_,λb hb=>?_⟩
 ·have f:=c a Zw _ j;refine⟨λi t h=>?_,λi h=>⟨d,FT.of f,by rw[oj]at h;rw[r.len.1];exact h⟩⟩;refine L2.ar λN w=>?_;obtain⟨y,A,m⟩:=qE e 0 i h;rw[Xj]at m;obtain⟨v,F,l,M,J⟩:=(r.keep k λb hb o D=>c b (Zx _ hb) o D).get i A;refine w ?_;refine⟨⟨d,v,FT.of f,l⟩,λx P E=>?_⟩;obtain⟨p,z,C,e1,e2,e3⟩:=E;subst e1 e2;have ex:=e3 d (FT.of f);rw[l]at ex;cases ex;have g:aJ s (upd s p (.tup [.int i,v])):=λb o q=>by rw[aA (cH q C)];exact q
  refine⟨g,F,?_,λb hb=>.inl (Zx _ (dc M hb))⟩;rw[m];have:F=([[],F]).flatten:=by simp
  rw[this];exact .tup aw (.cons (.int _) (.cons (J.same g) .nil))
 ·rcases Zk.mp hb with rfl | hb
  ·rw[j];exact λz=>nomatch z
  ·exact FR.lp (r.Ge b hb)
def wG(t:PV G X a ca)(r:Gl X "enumerate")(q:X.mg "enumerate" = L)(j:{`q2,K1 a [] X})(y:{`q2,PP [a] X.env=[(O,eval a X.env)]}) :
  PVI G X (.Tuple elts n Kk) (.Call (.Name "enumerate" p) [a] [] pos) (By ca) :=
 PI.weak (zw r q (dz t iR j) y) λJ H R o=>by
  obtain⟨M,U,m,l,s,e,k⟩:=o;obtain⟨⟨h,x⟩,u,e1⟩:=Zz.mp e;refine⟨M,U,h,x,s,u,λv z F e3 g f3=>?_⟩;cases x with
  |lst A =>
   refine L2.ar λC i=>?_;cases e1;obtain⟨w,d,D,rfl,rfl,b,f⟩:=g.lst_inv;refine i ?_;exact⟨w,rfl,⟨d,FT.of b⟩,k _ z _ e3 (zO X.K b f) f3.c⟩
  |_=>cases e1
end
noncomputable instance {s:Tx}:Decidable (lz s):=inferInstanceAs (Decidable (_/\_))
section
def w_add(f:PV G X a ca)(d:PV G X b cb):PV G X (.BinOp a .Add b pos) (e2 bO ca cb):=gE zP Dk f d
def d4(f:PV G X a ca)(d:PV G X b cb):PV G X (.BinOp a .FloorDiv b pos) (e2 bC ca cb):=gE AH AM f d
def w_mod(f:PV G X a ca)(d:PV G X b cb):PV G X (.BinOp a .Mod b pos) (e2 oMod ca cb):=gE Dv C9 f d
def w_eq{X:Cx}(d:jj k X.A)(g:PV G X a ca)(f:PV G X b cb):PV G X (.Compare a [.Eq] [b] pos) (e2 oEq ca cb):=CV (wx d.units) BA g f (gQ _)
def ku{X:Cx}(d:jj k X.A)(g:PV G X a ca)(f:PV G X b cb):HU G X (.Compare a [.Eq] [b] pos) (e2 oEq ca cb):=dP (wx d.units) BA tells_eq g f (gQ _)
def qr{X:Cx}(d:jj k X.A)(g:PV G X a ca)(f:PV G X b cb):HU G X (.Compare a [.NotEq] [b] pos) (e2 IQ ca cb):=dP (CF d.units) E8 yO g f (gQ _)
def aV(g:PV G X a ca)(f:PV G X b cb)(d:jX b:=by intro _ _;rfl)(i:{`q2,X.K=G.K}):PV G X (.Subscript a b pos) (e2 ay ca cb) :=
 PE.weak (uH pL g f d) λJ H Q h=>by rw[i];exact kU yf h
def eu{X:Cx}(d:X.mg "len" = L)(g:GE G X [e] cs)(f:{`q2,Gl X "len"})(h:{`q2,X.K=G.K})(he:{`q2,K1 e [] X}):PV G X (.Call (.Name "len" p) [e] [] pos) (eN cP cs) :=
 gU (h ▸ vB) Cz f d PySem.boot_len g (he:=he)
def C5:bootBuiltins ("max" : Str)=Z (.builtin "max"):=by decide +kernel
def C7:bootBuiltins ("min" : Str)=Z (.builtin "min"):=by decide +kernel
def t4:bootBuiltins ("list" : Str)=Z (.type "list"):=by decide +kernel
def CJ{X:Cx}(d:X.mg "max" = L)(h:GE G X [a,b] cs)(g:{`q2,X.calm=B})(f:{`q2,Gl X "max"})(he:{`q2,PP [a,b] X.env=(O,eval a X.env) :: PP [b] X.env})(hpl:{`q2,(backTo pos (PP [b] X.env)).any (·.1)=O}):PV G X (.Call (.Name "max" p) [a,b] [] pos) (eN qq cs) :=
 gU (vg g) y9 f d C5 h (he:=he) (hpl:=hpl)
def Cd{X:Cx}(d:X.mg "min" = L)(h:GE G X [a,b] cs)(g:{`q2,X.calm=B})(f:{`q2,Gl X "min"})(he:{`q2,PP [a,b] X.env=(O,eval a X.env) :: PP [b] X.env})(hpl:{`q2,(backTo pos (PP [b] X.env)).any (·.1)=O}):PV G X (.Call (.Name "min" p) [a,b] [] pos) (eN rW cs) :=
 gU (vw g) Ai f d C7 h (he:=he) (hpl:=hpl)
noncomputable def LW:Ty->Str
 |.int => "int" |.str => "str" |.bool => "bool" |.list => "list" |.tuple => "tuple" |.dict => "dict"
def A8(t:Ty):bootBuiltins (LW t)=Z (.type (Jl t)):=by cases t<;>decide +kernel
def w_is{X:Cx}(t:Ty)(f:X.mg "isinstance" = L)(l:X.mg (LW t)=L)(h:PV G X a ca)(g:{`q2,Gl X "isinstance"})(j:{`q2,Gl X (LW t)})(i:{`q2,X.K=G.K})(d:{`q2,PP [a,.Name (LW t) p2] X.env=(O,eval a X.env) :: PP [.Name (LW t) p2] X.env}):PV G X (.Call (.Name "isinstance" p1) [a,.Name (LW t) p2] [] pos) (Hy t ca) :=
 Ee t h g f j l (A8 t) i (by cases t<;>decide) (by cases t<;>decide) d Y Y
def fQ{apos:Pos}(i:Nat)(n:GE G X [e] cs)(q:{`q2,X.K=G.K})(o:{`q2,X.N[i]?=Z x})(g:{`q5,Iw X.env.scope x})(m:{`q1,K3 x})(d:{`q1,K4 x})(s:{`q2,((backTo cp (PP [e] X.env)).all (λx=>!x.1)&&(backToKw cp (Re [] X.env)).all (λx=>x.1.isSome)
   && decide ([e].length+([]:List Keyword).length+(if ([]:List Keyword).isEmpty then 0 else 1)<30))=B})(f:{`q2,(apos.endLine==cp.line)=B})(j:{`q2,K1 e [] X}) :
  PSV G X (.Expr (.Call (.Attribute (.Name x p1) "append" apos) [e] [] cp) pos) (sX (kR i [] aC cs)) :=
 xw i Xn XC XD jd oi (λH v t F l z r h=>lH r h) n q o g m d Y s f j Y Y
end
structure FnAt(P:Pv)(w:SL)(K:W0)(mg:W3)(base:SC)(k:Nat)(x:Str)(ps:List Str)(G:Gx)(g:Fn):Prop where
 ex:∃f fd,FnOk P w K mg base GF k f fd ps (HR G g)/\mg x=some (.ref f)/\PySem.W.keepIn K (.ref f)=true/\Binds K fd ps []
section
def bj{X:Cx}(F:FnAt X.prog X.w X.K X.mg X.base k x ps G g)(b:jj k' X.A)(i:GE G X (e :: es) cs)(d:{`q1,k<=k'})(h:{`q2,Gl X x})(o:{`q1,K3 x})(he:{`q2,K1 e es X})(a:{`q2,K2 pos es X}) :
  PV G X (.Call (.Name x p) (e :: es) [] pos) (aQ g cs):=by
 obtain⟨f,fd,n,m,l,j⟩:=F.ex;exact A5 n (b.mono d) h m l j i o he a
end
section
variable{K:W0}
def dQ(F:xh K x x a f i)(m:mg x=Z (.ref f))(S:bt N b (ai a))(j:b.length=g)(l:N.length=h)(o:∀(kV doc pm:KF)(an:Option KB)(d ct:KF)(e:W5),e.length=b.length->bindArgs (PySem.W.fnOf x x (cG a) (aY a) (ai a) .none kV doc pm an d ct) ⟨e,[]⟩=pure (b.zip e))(n:∀(d:KF)(A:P3)(outer:List PySem.Env)(s:FS)(H:Hp)(E:XK),jj k (A.deeper (envOfC x (ai a) s.heap.objs.size f d))->iJ G (jI GF P w K mg base N x (ai a) f d A outer s H E).IC (aY a) c) :
  FnAt P w K mg base (k+1) x b G (fn g h c) :=
 ⟨f,i,Pf F S j l n,m,F.kp,F.binds o⟩
end
end VS
end
section
namespace L2
open PySem PySem.Spec PyProof.Rows
noncomputable def Iz(x:Str):It:=⟨λi _=>i<x.cps.size,λi H v a=>a=H/\∃c,x.cps[i]?=Z c/\v=.str ⟨#[c]⟩,λi _=>x.cps.size<=i⟩
def oS{P:Pv}{w:SL}{K:W0}{F:Expr}(x:Str)(t:Tok)(a:KB)(f:String)(R:["enumerate", "zip", "dict_itemiterator", "dict_reverseitemiterator", "odict_iterator", "itertools.zip_longest", "itertools.pairwise"].contains f=O)(W:∀A:P3,A.handled=L->Walks P w A a [a] [a] x.cps.size (λi v=>∃c u,x.cps[i]?=Z c/\v=.str ⟨#[c]⟩ u) (λi h=>h.IsStrIter a f x t i))(Y:∀(A:P3),A.handled=L->∀(i:Nat)(s:FS)(Q:W6->FS->Prop)(E:Xz),s.heap.IsStrIter a f x t i->x.cps[i]?=L->(∀j,Heap.ExtBut a s.heap j->Q L { s with heap:=j })->KM (GM P w) A (pyNext (.ref a)) Q E s)(MS:∀(A:P3)(i:Nat)(s:FS)(Q:Xz)(E:Xz),s.heap.IsStrIter a f x t i->Q (.ref a) s->KM (GM P w) A (pyIter (.ref a)) Q E s) :
  Turn P w K F (Iz x) [a] a (λi h=>h.IsStrIter a f x t i) where
 mem:=by simp
 obj:=λi h st b hb=>by
  rw[Zj.mp hb];obtain⟨o,e,c,d⟩:=st;exact⟨o,e,λv z=>by rw[d]at z;cases z⟩
 keep:=λi h j st k=>let ⟨o,e,r⟩:=st;⟨o,k a (by simp) o e,r⟩
 item:=by
  intro X n hw p m i g s J H E I l st hg;subst n hw p;obtain⟨C,f1,f2,f3,y,q⟩:=l a (by simp);refine(W X.A (I.ok.hd m)).item i s _ _ hg st λv j tk N D G=>?_;obtain⟨c,u,HK,rfl⟩:=N;obtain⟨o,e,U,d⟩:=id D;exact⟨_,rfl,qW e U d R ⟨.str ⟨#[c]⟩,H,(I.turned (λb o hb e=>G b o (by simpa using hb) e) C f1 f3 y q),⟨u,rfl⟩,⟨rfl,c,HK,rfl⟩,D,λb hb=>(l b hb).1⟩⟩
 done:=by
  intro X n hw p m i g s J H E I l st hg;subst n hw p;obtain⟨C,f1,f2,f3,y,q⟩:=l a (by simp);have M:x.cps.size<=i:=hg;exact Y X.A (I.ok.hd m) i s _ _ st (by simp[M]) λj S=>⟨rfl,I.turned (λb o hb e=>S b o hb e) C f1 f3 y q⟩
 self:=λA i s Q E st h=>MS A i s Q E st h
def yF{K:W0}(x:Str)(t:Tok)(a:KB):Turn P w K g (Iz x) [a] a (λi h=>h.IsStrIter a (strIterType x) x t i):=by
 cases f:x.cps.all (· < 128)
 ·have e:strIterType x = "str_iterator" := by simp[strIterType,f]
  rw[e];exact oS x t a "str_iterator" rfl (λA b=>Walks.strWide b a x t) (λA b i s Q E st d q=>wpAny_pyNext_wide_end b st d q) λA i s Q E st q=>wpAny_pyIter_striter_wide st q
 ·have e:strIterType x = "str_ascii_iterator" := by simp[strIterType,f]
  rw[e];exact oS x t a "str_ascii_iterator" rfl (λA b=>Walks.strAscii b a x t) (λA b i s Q E st d q=>wpAny_pyNext_ascii_end b st d q) λA i s Q E st q=>wpAny_pyIter_striter_ascii st q
section
def EA(K:W0)(f:TE):TI:=λJ H R=>f J H λx d=>(∃a,x=.ref a/\(∃e,FT K d a e)/\R (P2 K a) d)\/(∃a,x=.ref a/\(∃e,GU K d a e)/\R (P1 K a) d)\/∃z,x=.str z/\R (Iz z) d
def zA(A:PE X l tl):PI X tg l (EA X.K tl):=by
 intro d s J H R I h;refine thn (A d s J H _ I h) λv f C=>?_;obtain⟨x,i,g,r1,u⟩:=C;have m:∀b∈[f.heap.objs.size],n5 X d i b:=λb hb=>by
  rw[Zj.mp hb];exact g.JP (Zm _) (g.oe.fresh (Zm _))
 rcases u with⟨a,e,⟨n,j⟩,q⟩ | ⟨a,e,⟨n,j⟩,q⟩ | ⟨z,e,q⟩
 ·subst e;cases r1;obtain⟨D,r,p,y⟩:=g.list j;exact X5 p.isList ⟨f.heap.objs.size,[f.heap.objs.size],_,_,i,rfl,g.kept λb o e=>Zo _ e,u4 a _,⟨_,Ze _ Y,rfl,rfl⟩,m,q⟩
 ·subst e;cases r1;obtain⟨D,r,p,y⟩:=g.tuple j;exact wpAny_pyIter_tuple (p) ⟨f.heap.objs.size,[f.heap.objs.size],_,_,i,rfl,g.kept λb o e=>Zo _ e,sH a _,⟨_,Ze _ Y,rfl,rfl⟩,m,q⟩
 ·refine L2.ar λE w=>?_;subst e;obtain⟨t,rfl⟩:=r1;refine w ?_;exact wpAny_pyIter_strU ⟨f.heap.objs.size,[f.heap.objs.size],_,_,i,rfl,g.kept λb o e=>Zo _ e,yF z t _,⟨_,Ze _ Y,rfl,rfl⟩,m,q⟩
def uO{s:FS}{d:SC}(g:∀b x,b∉[s.heap.objs.size]->(s.heap.push o).get? b=Z x->d.get? b=Z x)(b:KB)(x:Obj)(e:s.heap.get? b=Z x):d.get? b=Z x :=
 g b x (λf=>YZ _ (by have:=ZW e;rw[Zj.mp f]at this;exact this)) (Zo _ e)
def xg{X:Cx}(F:X.calm=B):cB X (.builtin "sum") (λo H Q=>∃p,∃ns:W8,o=[.ref p]/\FT X.K H p (ns.map V.int)/\Q (.int ns.sum) H):=by
 intro r s J H o M Q I y h;refine L2.ar λS z=>?_;obtain⟨p,ns,rfl,E,q⟩:=h;obtain⟨u,rfl,j⟩:=y.one;cases j;obtain⟨f,g,pl,P⟩:=I.list E;refine z ?_;have w:p<s.heap.objs.size:=by obtain⟨_,e,_⟩:=pl.isList;exact ZW e
 refine call_sum_walkG (X5 pl.isList ⟨s.heap.objs.size,[s.heap.objs.size,p],[s.heap.objs.size],f.toArray.size,_,_,λi=>(ns[i]?).getD 0,rfl,Walks.list (A:=X.A.in1) (I.ok.hd F) _ p (Zg w) f.toArray,
  ⟨⟨_,Ze _ Y,rfl,rfl⟩,pl.isList.push _⟩,λb hb=>?_,λi v G=>?_,λR N x m=>⟨.int ns.sum,H,I.kept (uO m),⟨x,?_⟩,q⟩⟩)
 ·rw[Yj];rcases Zk.mp hb with rfl | hb
  ·exact Z6 _
  ·rw[Zj.mp hb];exact Yo w
 ·have d:f[i]?=Z v:=by simpa using G
  cases e:ns[i]? with
  |none =>
   have:=g.none_of (i:=i) (by rw[ZU,e];rfl);rw[this]at d;cases d
  |some n =>
   obtain⟨u,D,j⟩:=g.get (i:=i) (by rw[ZU,e];rfl);rw[D]at d;cases d;obtain⟨t,rfl⟩:=j;exact⟨t,by simp[e]⟩
 ·have hlen:f.toArray.size=ns.length:=by have:=g.length;simp at this ⊢;exact Eq.symm this
  have:∀k,k<=ns.length->preSum (λi=>(ns[i]?).getD 0) k=(ns.take k).sum:=λk=>by
   induction k with
   |zero=>intro _;simp[preSum]
   |succ k C =>
    intro m;rw[List.take_succ,List.sum_append,preSum,C (by exact Nat.le_of_succ_le m)];cases e:ns[k]? <;> simp
  rw[hlen,this _ (Zm _),List.take_length]
def wc{X:Cx}(C:X.calm=B):cB X (.builtin "all") (λm H Q=>∃p,∃bs:List Bool,m=[.ref p]/\FT X.K H p (bs.map V.bl)/\Q (.bl (bs.all id)) H):=by
 intro o s J H m E Q I t h;refine L2.ar λR w=>?_;obtain⟨p,bs,rfl,y,q⟩:=h;obtain⟨u,rfl,j⟩:=t.one;cases j;obtain⟨f,g,pl,M⟩:=I.list y;refine w ?_;refine call_all_walk (X5 pl.isList ⟨s.heap.objs.size,[s.heap.objs.size,p],[s.heap.objs.size],f.toArray.size,_,_,λi=>(bs[i]?).getD B,rfl,Walks.list (A:=X.A.in1) (I.ok.hd C) _ p (Zg (by obtain⟨_,e,_⟩:=pl.isList;exact ZW e)) f.toArray,
  ⟨⟨_,Ze _ Y,rfl,rfl⟩,pl.isList.push _⟩,λi v G P S D r=>?_,λN F z=>⟨.bl (bs.all id),H,I.kept (uO z),?_,q⟩⟩)
 ·have d:f[i]?=Z v:=by simpa using D
  cases e:bs[i]? with
  |none =>
   have:=g.none_of (i:=i) (by rw[ZU,e];rfl);rw[this]at d;cases d
  |some n =>
   obtain⟨u,x,j⟩:=g.get (i:=i) (by rw[ZU,e];rfl);rw[x]at d;cases d;cases j;simp only[e,YD]at r;exact Yb r
 ·have hlen:f.toArray.size=bs.length:=by have:=g.length;simp at this ⊢;exact Eq.symm this
  rw[hlen,LSm.range_all];rfl
def oN:OpR X (SB .Gt) (λx y H Q=>∃i j,x=.str i/\y=.str j/\Q (.bl (decide (j.cps.toList<i.cps.toList))) H):=by
 intro d s J H x y v u Q I f e h;obtain⟨i,j,rfl,rfl,q⟩:=h;obtain⟨t,rfl⟩:=f;obtain⟨g,rfl⟩:=e;exact PySem.P.gt_str ⟨.bl _,H,I,rfl,q⟩
def oo:OpR X (SB .GtE) (λx y H Q=>∃i j,x=.str i/\y=.str j/\Q (.bl (!decide (i.cps.toList<j.cps.toList))) H):=by
 intro d s J H x y v u Q I f e h;obtain⟨i,j,rfl,rfl,q⟩:=h;obtain⟨t,rfl⟩:=f;obtain⟨g,rfl⟩:=e;exact PySem.P.ge_str ⟨.bl _,H,I,rfl,q⟩
end
end L2
end
section
namespace VS
open PySem PySem.Spec PyProof.Rows L2
section
def BL(H:Hp)(s:Tx)(l:lz s):Jj G (L2.Iz (sx s)) (s.map λc=>T.str [c]) [] H:=by
 have sz:(sx s).cps.size=s.length:=rfl;refine⟨λo _ _=>⟨λi t h=>?_,λi h=>(by rw[Zy]at h;show (sx s).cps.size<=i;lia)⟩,λa h=>by simp at h⟩;rw[ZU]at h;obtain⟨c,f,rfl⟩:=Zu.mp h;refine⟨(by show i<(sx s).cps.size;have:=(ZZ.mp f).1;lia),λx n ⟨e1,g,j,e2⟩=>?_⟩;subst e1;have:g=c:=by
  have m:(sx s).cps[i]?=Z c:=by simp[sx,f]
  rw[m]at j;exact(Zh j).symm
 subst this;rw[e2];exact⟨aJ.refl _,[],.str [g] ⟨(by show 1<=dq;decide),λd hd=>by rw[Zj.mp hd];exact l.2 g (Yf f)⟩,λa h=>by simp at h⟩
def cn(t:PV G X a ca)(y:{`q2,X.K=G.K}):PVI G X tg a (fE ca) :=
 PI.weak (zA t) λJ H R r=>by
  obtain⟨M,U,m,l,s,e,k⟩:=r;obtain⟨⟨q,x⟩,u,e1⟩:=Zz.mp e;refine⟨M,U,q,x,s,u,λv f F e3 j f3=>?_⟩;cases x with
  |lst o =>
   cases e1;obtain⟨n,g,w,rfl,rfl,d,i⟩:=j.lst_inv;exact .inl ⟨n,rfl,⟨g,FT.of d⟩,k _ f _ e3 (zb X.K d i) f3.c⟩
  |tup o =>
   cases e1;obtain⟨n,g,w,rfl,rfl,d,i⟩:=j.GX;exact .inr (.inl ⟨n,rfl,⟨g,GU.of d⟩,k _ f _ e3 (B5 X.K d i) f3.c⟩)
  |str z =>
   cases e1;obtain⟨rfl,ok⟩:=j.str_inv;exact .inr (.inr ⟨_,rfl,k _ f [] e3 (BL f z ok) λa h=>by simp at h⟩)
  |_=>cases e1
theorem ux:∀{d:List V}{l:Vw}{g:Wm}{f:W8},RpL G H d l g->qB l=Z f->d=f.map V.int
 |_,_,_,_,.nil,e=>by cases e;rfl
 |_,_,_,_,.cons (t:=t) r q,e=>by
  cases t with
  |int s =>
   obtain⟨h,e1,e2⟩:=Zu.mp e;subst e2;rw[ux q e1,r.int_inv];rfl
  |_=>cases e
theorem qV:∀{d:List V}{l:Vw}{g:Wm}{f:List Bool},RpL G H d l g->lq l=Z f->d=f.map V.bl
 |_,_,_,_,.nil,e=>by cases e;rfl
 |_,_,_,_,.cons (t:=t) r q,e=>by
  cases t with
  |bl s =>
   obtain⟨h,e1,e2⟩:=Zu.mp e;subst e2;rw[qV q e1,r.GK];rfl
  |_=>cases e
def BS:dE G (λd H Q=>∃p,∃ns:W8,d=[.ref p]/\FT G.K H p (ns.map V.int)/\Q (.int ns.sum) H) zv:=by
 intro M U s H l o u m t Q A e k;unfold zv at e;split at e
 ·rename_i q x;refine L2.ar λr h=>?_;obtain⟨i,e1,e2⟩:=Zz.mp e;cases e2;obtain⟨v,F,rfl,rfl,f⟩:=(A.rp).one;obtain⟨a,n,Gs,rfl,rfl,j,g⟩:=f.lst_inv;refine h ?_;exact⟨a,i,rfl,by rw[← ux g e1];exact FT.of j,bf k (.int _)⟩
 ·cases e
def Dr:dE G (λd H Q=>∃p,∃bs:List Bool,d=[.ref p]/\FT G.K H p (bs.map V.bl)/\Q (.bl (bs.all id)) H) n8:=by
 intro M U s H l o u m t Q A e k;unfold n8 at e;split at e
 ·rename_i q x;refine L2.ar λr h=>?_;obtain⟨i,e1,e2⟩:=Zz.mp e;cases e2;obtain⟨v,F,rfl,rfl,f⟩:=(A.rp).one;obtain⟨a,n,Gs,rfl,rfl,j,g⟩:=f.lst_inv;refine h ?_;exact⟨a,i,rfl,by rw[← qV g e1];exact FT.of j,bf k (.bl _)⟩
 ·cases e
def DF:bootBuiltins ("sum" : Str)=Z (.builtin "sum"):=by decide +kernel
def Cn:bootBuiltins ("all" : Str)=Z (.builtin "all"):=by decide +kernel
def xj:bootBuiltins ("tuple" : Str)=Z (.type "tuple"):=by decide +kernel
def w_sum{X:Cx}(d:X.mg "sum" = L)(h:GE G X [e] cs)(f:{`q2,Gl X "sum"})(i:{`q2,X.K=G.K})(g:{`q2,X.calm=B})(he:{`q2,K1 e [] X}):PV G X (.Call (.Name "sum" p) [e] [] pos) (eN zv cs) :=
 gU (xg g) (i ▸ BS) f d DF h (he:=he)
def w_all{X:Cx}(d:X.mg "all" = L)(h:GE G X [e] cs)(f:{`q2,Gl X "all"})(i:{`q2,X.K=G.K})(g:{`q2,X.calm=B})(he:{`q2,K1 e [] X}):PV G X (.Call (.Name "all" p) [e] [] pos) (eN n8 cs) :=
 gU (wc g) (i ▸ Dr) f d Cn h (he:=he)
def x8:dE G (λg H Q=>∃p d,g=[.ref p]/\((FT G.K H p d/\∀l,H l=L->Q (.ref l) (upd H l (.tup d)))\/(GU G.K H p d/\Q (.ref p) H))) iq:=by
 intro M U z H l s C m t Q A e k;unfold iq at e;split at e
 ·rename_i u x;split at e
  ·rename_i w;refine L2.ar λy j=>?_;cases e;obtain⟨v,F,rfl,rfl,h⟩:=(A.rp).one;obtain⟨a,d,Gs,rfl,rfl,o,i⟩:=h.lst_inv;refine j ?_;refine⟨a,d,rfl,.inl ⟨FT.of o,λq n=>?_⟩⟩;have f:aJ H (upd H q (.tup d)):=cJ n;have r:Rp G (upd H q (.tup d)) (.ref q) (.tup x) Gs.flatten:=.tup aw (i.same f);exact k _ _ _ f r (((A.fp.each 0 _ _ Y Y).sub (Yu _ _)).up r)
  ·cases e
 ·cases e
def oX{X:Cx}(d:X.mg "tuple" = L)(g:GE G X [e] cs)(f:{`q2,Gl X "tuple"})(h:{`q2,X.K=G.K})(he:{`q2,K1 e [] X}):PV G X (.Call (.Name "tuple" p) [e] [] pos) (eN iq cs) :=
 ia nX (h ▸ x8) f d xj g (he:=he)
def SD:R2:=λx y H Q=>IM (λi j=>.bl (decide (j<i))) x y H Q\/(∃i j,x=.str i/\y=.str j/\Q (.bl (decide (j.cps.toList<i.cps.toList))) H)
def SE:R2:=λx y H Q=>IM (λi j=>.bl (decide (j<=i))) x y H Q\/(∃i j,x=.str i/\y=.str j/\Q (.bl (!decide (i.cps.toList<j.cps.toList))) H)
def yC(s t:Tx):decide ((sx s).cps.toList<(sx t).cps.toList)=IE s t:=by rw[ni];exact decide_eq_decide.mpr (by simp[sx])
def Bf:fU G SD L0:=by
 intro M U i H x y u w l j m t Q d e k;obtain⟨h,x⟩:=x;obtain⟨g,y⟩:=y;obtain⟨same,r1,r2,f1,f2,nd⟩:=d;unfold L0 oLt at e;split at e
 ·rename_i e1 e2;cases e1;cases e2;cases e;exact .inl ⟨_,_,r1.int_inv,r2.int_inv,bf k (.bl _)⟩
 ·rename_i s _ f e1 e2;cases e1;cases e2;cases e;refine .inr ⟨_,_,r1.str_inv.1,r2.str_inv.1,?_⟩;rw[yC];exact bf k (.bl _)
 ·cases e
def A6:fU G SE L1:=by
 intro M U i H x y u w l j m t Q d e k;obtain⟨h,x⟩:=x;obtain⟨g,y⟩:=y;obtain⟨same,r1,r2,f1,f2,nd⟩:=d;unfold L1 oLe at e;split at e
 ·rename_i e1 e2;cases e1;cases e2;cases e;exact .inl ⟨_,_,r1.int_inv,r2.int_inv,bf k (.bl _)⟩
 ·rename_i s _ f e1 e2;cases e1;cases e2;cases e;refine .inr ⟨_,_,r1.str_inv.1,r2.str_inv.1,?_⟩;rw[yC];exact bf k (.bl _)
 ·cases e
def qC:Tells L0:=λx y m t e=>iN y x m t e
def qF:Tells L1:=λx y m t e=>rQ y x m t e
def mR(P:fU G r f)(SJ:fU G o g)(h:tE G (gP f g ca cb cc) J H Q):so r o (tE G ca) (tE G cb) (tE G cc) J H Q:=by
 refine L2.ar λP_ S=>?_;obtain⟨M,U,m,t,s,e,k⟩:=h;obtain⟨x,ea,e⟩:=Zz.mp e;obtain⟨y,eb,e⟩:=Zz.mp e;obtain⟨⟨R,z⟩,ez,e⟩:=Zz.mp e;refine S ?_;refine v9 s ea eb λu w H2 F1 A d=>P M U H H2 x y u w F1 A R z _ d ez λv H3 F e1 r1 f1=>?_;cases z with
 |bl q =>
  refine⟨q,r1.GK,?_⟩;cases q with
  |false =>
   cases e;rw[Zn Zc];exact k _ H3 [] (d.same.trans e1) (.bl O) Fp.nil
  |true =>
   rw[Zp Y];obtain⟨l,ec,e⟩:=Zz.mp (e);have i:=d.same.trans e1;refine⟨M,U,l.1,l.2,s.same i,ec,λC H4 F4 n N j=>?_⟩;refine SJ M U H H4 y l w C A F4 m t Q ⟨i.trans n,(d.r2.same e1).same n,N,d.f2,j.back i,λhx hy=>?_⟩ e λD H5 F5 e5 E f5=>k D H5 F5 ((i.trans n).trans e5) E f5;have f2:=d.f2;rw[hx]at f2;rw[hy]at j;refine ZL.mpr ⟨f2.1,j.1,λa ha b hb z=>?_⟩;subst z;exact FR.lp ((d.r2.same e1).Ge a ha) (j.2 a hb)
 |_=>cases e
def jk(i:PV G X a ca)(g:PV G X b cb)(f:PV G X c cc)(d:{`q4,lastMarks [.LtE,.LtE] [b,c]=O}):PV G X (.Compare a [.LtE,.LtE] [b,c] pos) (gP oLe oLe ca cb cc) :=
 PE.weak (vH mY mY i g f d) λJ H Q h=>mR qP qP h
def kx{X:Cx}{i:Int}(h:∃t,X.mg x=Z (.int i t))(f:{`q2,Gl X x})(g:{`q1,K3 x}):PV G X (.Name x pos) (Q3 i):=by
 obtain⟨t,d⟩:=h;exact zt (v:=.int i) f d ⟨t,rfl⟩ (λH=>.int i) g
end
end VS
end
section
namespace VS
open PySem PySem.Spec PyProof.Rows L2
section
def wZ:PV G X (.Dict [] [] pos) (qH 0 []):=PE.weak ye λJ H Q d=>by
 obtain⟨M,U,m,t,s,e,k⟩:=d;cases (e);intro q d;have:Rp G (upd H q (.dK [])) (.ref q) (.dct 0 ((([]).map aT).zip [])) (q :: ([]).flatten):=.dct aw Y .nil;exact k _ _ [q] (cJ d) this ⟨by simp,λb hb=>by rw[Zj.mp hb];exact d⟩
end
section
def lh{X:Cx}(hp:PassesOwn (GM X.prog X.w) X.A X.env X.xe)(hc:HU G X c cc)(hb:iJ G X h C):PSV G X (.While c h [] pos) (nu cc C) :=
 PS.weak (wF hp hc hb) λD J H hq=>by
  obtain⟨M,U,o,s,e,k⟩:=hq;refine⟨λn E F=>∃r m,SR G r m E F/\GA M U H r m F/\fu cc C n m=Z o,⟨xH,M,U,s,GA.refl M U H,e⟩,?_⟩;rintro n E F ⟨r,m,Q,f2,e2⟩;cases n with
  |zero=>cases (e2)
  |succ n =>
   rw[fu]at e2;obtain⟨⟨mx,x⟩,ex,e3⟩:=Zz.mp e2;obtain⟨t,et,z⟩:=Zz.mp e3;refine⟨r,m,mx,x,t,Q,ex,et,λH3 N=>?_⟩;have P:=Q.same N;have f3:=f2.trans (GA.same N);cases t with
   |false =>
    rw[Zn Zc]at z;cases z;show if O=B then _ else _
    rw[Zn Zc];exact k r E H3 P f3
   |true =>
    rw[Zp Y]at z;show if B=B then _ else _
    rw[Zp Y];obtain⟨R,e5,y⟩:=Zz.mp z;refine⟨λi g=>∃d f,SR G d f i g/\GA M U H d f g/\fu cc C n f=Z o,λi g q=>⟨n,Z6 n,q⟩,r,m,R,P,e5,?_⟩;cases R with
    |nx f=>exact λd i g j l=>⟨d,f,j,f3.trans l,y⟩
    |ct f=>exact λd i g j l=>⟨d,f,j,f3.trans l,y⟩
    |bk f =>
     cases (y);exact λd i g j l=>k d i g j (f3.trans l)
    |rt v f =>
     cases (y);exact λu g F4 d i j l S q5=>k u g F4 d i j (f3.trans l) S (q5.back f3)
noncomputable def LY:Sx:=λ_=>L
def mJ:PSV G X f LY:=λd s J H D I ⟨_,_,_,_,e,_⟩=>nomatch (e)
def eV(r:Rp G H v (.dct 0 l) F):∃(a:KB)(f:List Key)(d:List V)(g:Vw)(h:Wm),v=.ref a/\F=a :: h.flatten/\H a=Z (.dK (f.zip d))/\f.length=d.length/\l=(f.map aT).zip g/\RpL G H d g h:=r.inv
def d5(r:Rp G H v t F)(h:jB t=B):∃k:Key,v=kV k/\t=aT k:=by
 cases t with
 |int i=>exact⟨.inl i,r.int_inv,rfl⟩
 |str s=>exact⟨.inr (sx s),r.str_inv.1,by simp[aT,sx]⟩
 |_=>cases h
theorem kc{k:Key}:∀{d:List Key}{f:List V}{ts:Vw}{m:Wm},d.length=f.length->RpL G H f ts m →
  (ft ((d.map aT).zip ts) (aT k)=L/\gu (d.zip f) k=L)\/∃(i:Nat)(v:V)(t:T)(F:W4),ft ((d.map aT).zip ts) (aT k)=Z t/\gu (d.zip f) k=Z v/\f[i]?=Z v/\m[i]?=Z F/\Rp G H v t F
 |[],[],_,_,_,.nil=>.inl ⟨rfl,rfl⟩
 |k' :: d,v :: f,_,_,s,.cons (t:=t) (F:=F) (ts:=ts) r q=>by
  have e:eqT (aT k') (aT k)=decide (k'=k):=by
   rw[X7,decide_eq_true_eq];cases k with
   |inl i=>cases k'<;>simp[aT]
   |inr x =>
    obtain⟨⟨x⟩⟩:=x;cases k' with
    |inl j=>simp[aT]
    |inr y=>obtain⟨⟨y⟩⟩:=y;simp[aT]
  by_cases g:k'=k
  ·refine .inr ⟨0,v,t,F,?_,iK g,rfl,rfl,r⟩;have l:eqT (aT k') (aT k)=B:=by rw[e];exact decide_eq_true g
   simp only[ft,Zi,ZV,Ys,l];rfl
  ·have w:ft (((k' :: d).map aT).zip (t :: ts)) (aT k)=ft ((d.map aT).zip ts) (aT k):=by
    have l:eqT (aT k') (aT k)=O:=by rw[e];exact ZK g
    simp only[ft,Zi,ZV,Ys,l]
   have u:gu ((k' :: d).zip (v :: f)) k=gu (d.zip f) k:=by simp[gu,g]
   rw[w,u];rcases kc (k:=k) (by simpa using s) q with h | ⟨i,n,o,J,E,D,C,A,z⟩
   ·exact .inl h
   ·exact .inr ⟨i+1,n,o,J,E,D,by simpa using C,by simpa using A,z⟩
def p7{X:Cx}(m:X.A.units+1<cLine):Ji X (λx y H Q=>∃a v,x=.ref a/\hJ H a y (Z v)/\Q v H):=by
 intro value slice d s J H x y v u Q I l j h n;obtain⟨a,w,rfl,g,q⟩:=h;cases l;have f:=rO I g;refine Zv ?_;rw[getitemInPython_of_ne f.not_modules];refine Zv (wpAny_specialOf f PySem.F.slot_dict_getitem.lookup ?_);have fin:KM (GM X.prog X.w) X.A (subscripted slice O (.ref a) u) (λr i=>KM (GM X.prog X.w) X.A (letTemporaryGo value (.ref a) r >>= λ_=>pure r) (EP X d J Q) X.xe i) X.xe s:=by
  rw[n];exact wpAny_operating (u9 m I g j λz C t o=>Zv (wpAny_letTemporaryGo (Zl ⟨w,H,t,o,q⟩)))
 first
  |exact Zl (Zv fin)
  |exact Zv (Zl (Zv fin))
  |exact Zv fin
def D9(K:W0):R2:=λx y H Q=>Os K x y H Q\/∃a v,x=.ref a/\hJ H a y (Z v)/\Q v H
def DJ:fU G (D9 G.K) HI:=by
 intro M U C H x y u w E D m t Q d e k;obtain⟨g,x⟩:=x;by_cases hd:∃l,x=.dct 0 l
 ·obtain⟨l,rfl⟩:=hd;simp only[HI]at e;split at e
  ·rename_i j;obtain⟨P,e1,e2⟩:=Zu.mp e;obtain⟨a,R,J,N,Fs,rfl,rfl,n,h,rfl,q⟩:=eV d.r1;obtain⟨S,rfl,r⟩:=d5 d.r2 j;rw[r]at e1;rcases kc h q with⟨o,_⟩ | ⟨i,v,t2,F,A,z,a3,s,f⟩
   ·rw[o]at e1;cases e1
   ·rw[A]at e1;cases e1;cases e2;refine .inr ⟨a,v,rfl,by rw[← z];exact hJ.k n,?_⟩;exact k v H F (aJ.refl _) f (((d.f1.sub (Yu _ _)).sub (du s)).up f)
  ·cases e
 ·exact .inl (yf M U C H (g,x) y u w E D m t Q d (by
   simp only[HI]at e;split at e
   ·rename_i l Y;exact absurd ⟨_,rfl⟩ hd
   ·exact e) k)
def xA{X:Cx}(f:jj k X.A)(i:PV G X a ca)(g:PV G X b cb)(d:jX b:=by intro _ _;rfl)(j:{`q2,X.K=G.K}):PV G X (.Subscript a b pos) (e2 HI ca cb) :=
 PE.weak (uH (Ji.or pL (p7 (kh f))) i g d) λJ H Q h=>by rw[j];exact kU DJ h
def fV:T->V
 |.bl b=>.bl b
 |.int i=>.int i
 |.str s=>.str (sx s)
 |_=>.non
def Ba(r:Rp G H v t F)(h:flat t=B):v=fV t/\gC v=B:=by
 cases r with
 |non=>exact⟨rfl,rfl⟩
 |bl b=>exact⟨rfl,rfl⟩
 |int i=>exact⟨rfl,rfl⟩
 |str s d=>exact⟨rfl,rfl⟩
 |_=>cases h
theorem Ep:∀{t u:T},flat t=B->flat u=B->Kb (fV t) (fV u)=eqT t u
 |.non,.non,_,_=>rfl
 |.non,.bl _,_,_=>rfl
 |.non,.int _,_,_=>rfl
 |.non,.str _,_,_=>rfl
 |.bl _,.non,_,_=>rfl
 |.bl _,.bl _,_,_=>rfl
 |.bl _,.int _,_,_=>rfl
 |.bl _,.str _,_,_=>rfl
 |.int _,.non,_,_=>rfl
 |.int _,.bl _,_,_=>rfl
 |.int _,.int _,_,_=>rfl
 |.int _,.str _,_,_=>rfl
 |.str _,.non,_,_=>rfl
 |.str _,.bl _,_,_=>rfl
 |.str _,.int _,_,_=>rfl
 |.str _,.str _,_,_=>xR
def wY(r:Rp G H v t F)(g:Rp G H w u h)(f:flat t=B)(d:flat u=B):Kb v w=eqT t u/\gC v=B/\gC w=B:=by
 obtain⟨e1,f1⟩:=Ba r f;obtain⟨e2,f2⟩:=Ba g d;refine⟨?_,f1,f2⟩;rw[e1,e2];exact Ep f d
theorem pd(r:Rp G H x t F)(g:flat t=B):∀{d:List V}{f:Vw}{m:Wm},RpL G H d f m->f.all flat=B->d.all gC=B/\MR x d=f.any λy=>eqT y t
 |_,_,_,.nil,_=>⟨rfl,rfl⟩
 |_,_,_,.cons j q,h=>by
  rw[XB,Ye]at h;obtain⟨l,i⟩:=pd r g q h.2;obtain⟨e1,e2,e3⟩:=wY j r h.1 g;refine⟨by rw[XB,e2,l];rfl,?_⟩;unfold MR at i ⊢;rw[YV,YV,i,e1]
def FD(K:W0):R2:=λx y H Q=>NG K O x y H Q\/∃a o,y=.ref a/\hJ H a x o/\Q (.bl o.isSome) H
def yZ(K:W0):R2:=λx y H Q=>NG K B x y H Q\/∃a o,y=.ref a/\hJ H a x o/\Q (.bl (!o.isSome)) H
def zr{X:Cx}(j:X.A.units+1<cLine):OpR X (SB .In) (λx y H Q=>∃a o,y=.ref a/\hJ H a x o/\Q (.bl o.isSome) H):=by
 intro d s J H x y v u Q I i f h;obtain⟨a,o,rfl,g,q⟩:=h;cases f;exact FA j I g i λm l=>⟨.bl o.isSome,H,l,rfl,q⟩
def yH{X:Cx}(j:X.A.units+1<cLine):OpR X (SB .NotIn) (λx y H Q=>∃a o,y=.ref a/\hJ H a x o/\Q (.bl (!o.isSome)) H):=by
 intro d s J H x y v u Q I i f h;obtain⟨a,o,rfl,g,q⟩:=h;cases f;exact y0 j I g i λm l=>⟨.bl (!o.isSome),H,l,rfl,q⟩
def qL(f:Nt G M U N H x y u w Q P)(e:mE x y=Z (m,t)) :
  ∃b,m=.fr/\t=.bl b/\((∃p n,w=.ref p/\(FT G.K H p n\/GU G.K H p n)/\gC u=B/\n.all gC=B/\MR u n=b)\/∃a o,w=.ref a/\hJ H a u o/\o.isSome=b):=by
 obtain⟨S,y⟩:=y;simp only[mE]at e;split at e
 ·split at e
  ·rename_i d;cases e;obtain⟨a,z,g,R,s,rfl,rfl,h,C,rfl,q⟩:=eV f.r2;obtain⟨A,rfl,D⟩:=d5 f.r1 d;refine⟨_,rfl,rfl,.inr ⟨a,gu (z.zip g) A,rfl,hJ.k h,?_⟩⟩;rw[D];rcases kc C q with⟨l,j⟩ | ⟨i,v,t2,F,J,E,_⟩
   ·rw[l,j];rfl
   ·rw[J,E];rfl
  ·cases e
 ·split at e
  ·rename_i d;cases e;rw[Ye]at d;obtain⟨a,g,s,rfl,rfl,h,r⟩:=f.r2.lst_inv;obtain⟨l,j⟩:=pd f.r1 d.1 r d.2;exact⟨_,rfl,rfl,.inl ⟨a,g,rfl,.inl (FT.of h),((wY f.r1 f.r1 d.1 d.1).2.1),l,j⟩⟩
  ·cases e
 ·split at e
  ·rename_i d;cases e;rw[Ye]at d;obtain⟨a,g,s,rfl,rfl,h,r⟩:=f.r2.GX;obtain⟨l,j⟩:=pd f.r1 d.1 r d.2;exact⟨_,rfl,rfl,.inl ⟨a,g,rfl,.inr (GU.of h),((wY f.r1 f.r1 d.1 d.1).2.1),l,j⟩⟩
  ·cases e
 ·cases e
def EE:fU G (FD G.K) mE:=by
 intro M U j H x y u w n l m t Q f e k;obtain⟨b,rfl,rfl,h⟩:=qL f e;rcases h with⟨p,d,rfl,i,f1,f2,hb⟩ | ⟨a,o,rfl,g,hb⟩
 ·refine .inl ⟨p,d,rfl,i,f1,f2,?_⟩;rw[hb];exact bf k (.bl b)
 ·refine .inr ⟨a,o,rfl,g,?_⟩;rw[hb];exact bf k (.bl b)
def BH:fU G (yZ G.K) dy:=by
 intro M U r H x y u w v s m t Q i e k;unfold dy at e;split at e
 ·rename_i q d l;cases e;obtain⟨b,rfl,n,h⟩:=qL i l;cases n;rcases h with⟨p,f,rfl,j,f1,f2,hb⟩ | ⟨a,o,rfl,g,hb⟩
  ·refine .inl ⟨p,f,rfl,j,f1,f2,?_⟩;rw[hb];exact bf k (.bl (!d))
  ·refine .inr ⟨a,o,rfl,g,?_⟩;rw[hb];exact bf k (.bl (!d))
 ·cases e
def vO:Tells mE:=by
 intro x y m t e;simp only[mE]at e;split at e
 all_goals first | (split at e<;>first | (cases e;exact⟨_,rfl⟩) | cases e) | cases e
def vf:Tells dy:=by
 intro x y m t e;unfold dy at e;split at e
 ·cases e;exact⟨_,rfl⟩
 ·cases e
def EL{X:Cx}(d:jj k X.A)(h:PV G X a ca)(g:PV G X b cb)(f:{`q4,behindInMarks .In b=O})(i:{`q2,X.K=G.K}):HU G X (.Compare a [.In] [b] pos) (e2 mE ca cb):=dP (vt.or (zr (kh d))) (i ▸ EE) vO h g f
def xn{X:Cx}(d:jj k X.A)(h:PV G X a ca)(g:PV G X b cb)(f:{`q4,behindInMarks .NotIn b=O})(i:{`q2,X.K=G.K}):HU G X (.Compare a [.NotIn] [b] pos) (e2 dy ca cb):=dP (pJ.or (yH (kh d))) (i ▸ BH) vf h g f
end
end VS
end
section
open PySem PyProof.Rows
namespace TS
def og{a:Array On}(e:a.Perm (pairsOf d)):(a.map (·.2)).toList.Perm d/\(a.map (·.2)).toList.map (λv=>(v,v))=a.toList:=by
 have b:=Array.perm_iff_toList_perm.mp e;rw[pairsOf_toList]at b;constructor
 ·rw[Array.toList_map];refine(b.map _).trans ?_;rw[show (λx:On=>x.2)=Prod.snd from rfl,List.map_snd_zip (Zm _)]
 ·rw[Array.toList_map,ZF]
  conv=>rhs;rw[← Wy a.toList]
  apply XR;intro p f;have:=mem_zip_self (b.mem_iff.mp f);exact Prod.ext this.1.symm Y
end TS
end
section
namespace L2
open PySem PySem.Spec PyProof.Rows TS
section
theorem qZ:∀{b:List Str}{a:W5},aK (b.map V.str) a->(∀v∈a,∃x t,v=Value.str x t)/\a.map strOf=b
 |[],[],_=>⟨λv h=>by simp at h,rfl⟩
 |s :: b,u :: a,h=>by
  cases h with
  |cons r q =>
   obtain⟨f,e⟩:=qZ q;obtain⟨t,rfl⟩:=r;refine⟨λv d=>?_,?_⟩
   ·rcases Zk.mp d with rfl | d
    ·exact⟨s,t,rfl⟩
    ·exact f v d
   ·rw[Zi,e];rfl
theorem nh:∀{a:W5},(∀v∈a,∃x t,v=Value.str x t)->aK ((a.map strOf).map V.str) a
 |[],_=>.nil
 |u :: a,h=>by
  obtain⟨x,t,rfl⟩:=h u (Zw ..);exact .cons ⟨t,rfl⟩ (nh λv b=>h v (Zx _ b))
end
end L2
end
section
namespace VS
mutual
theorem rG:∀(n:Nat)(t:T),GD n t=B->eqT t t=B
 |n,.non,_=>by simp
 |n,.bl _,_=>by simp
 |n,.int _,_=>by simp
 |n,.str _,_=>by simp
 |n+1,.tup l,h=>by
  exact lr n l (ZE.mp h)
 |n+1,.lst l,h=>by
  exact lr n l (ZE.mp h)
 |0,.tup _,h=>nomatch h
 |0,.lst _,h=>nomatch h
 |0,.scr _,h=>nomatch h
 |_+1,.scr _,h=>nomatch h
 |0,.dct _ _,h=>nomatch h
 |_+1,.dct _ _,h=>nomatch h
 |0,.obj _ _,h=>nomatch h
 |_+1,.obj _ _,h=>nomatch h
theorem lr:∀(n:Nat)(l:Vw),(∀t∈l,GD n t=B)->rE l l=B
 |_,[],_=>rfl
 |n,t :: r,h=>by
  exact Zb.mpr ⟨rG n t (h t Zw),lr n r λu a=>h u (Zx _ a)⟩
end
def eZ{tg:Tg}{it:Iz}{body:Sx}{U:Env}{m:Md}{l:Vw}(e:it U=Z (m,l))(h:QE m=B):ji tg it body U=forL tg body l U:=by
 unfold ji;rw[e];exact Zp h
def aN{b:Gf}{U:Env}{t:T}(h:b U=Z a)(d:g (trees a)=Z (.fr,t)):aQ g b U=Z (.fr,t):=by
 simp only[aQ,h,Zs,d]
def ax{i:Nat}{e:Ex}{U:Env}{m:Md}{t:T}(h:e U=Z (m,t))(a:m ≠ .bo)(b:i<U.length):aB i e U=Z (.nx (U.set i (Z (.pu t)))):=by
 simp only[aB,h,Zs];cases m with
 |bo=>exact absurd Y a
 |_=>simp[b]
def wq:bO (m,.lst s) (n,.lst t)=Hu (m.join n) (s++t):=rfl
end VS
end
section
namespace VS
open PySem PySem.Spec PyProof.Rows L2
def E7{a b c:Tx}(h:a<b)(d:¬c<b):a<c:=by
 by_cases e:a<c
 ·exact e
 ·exact absurd (List.lt_of_le_of_lt (List.not_lt.mp e) h) d
theorem jK(x:Tx):∀l:List Tx,(oA x l).Perm (x :: l)
 |[]=>YQ _
 |y :: r=>by
  unfold oA;split
  ·exact((jK x r).cons y).trans (List.Perm.swap _ _ _)
  ·exact YQ _
theorem iW:∀l:List Tx,(d7 l).Perm l
 |[]=>YQ _
 |x :: l=>(jK x _).trans ((iW l).cons x)
theorem q8(x:Tx):∀{l:List Tx},l.Pairwise (λa b=>¬b<a)->(oA x l).Pairwise (λa b=>¬b<a)
 |[],_=>List.pairwise_singleton _ _
 |y :: r,h=>by
  unfold oA;rw[ni];obtain⟨e,g⟩:=Xp.mp h;split
  ·rename_i c;refine Xp.mpr ⟨λz d=>?_,q8 x g⟩;rcases Zk.mp ((jK x r).mem_iff.mp d) with rfl | d
   ·exact λz=>List.lt_irrefl _ (List.lt_trans (by simpa using c) z)
   ·exact e z d
  ·rename_i c;have f:¬y<x:=by simpa using c
   refine Xp.mpr ⟨λz d=>?_,h⟩;rcases Zk.mp d with rfl | d
   ·exact f
   ·exact λw=>e z d (E7 w f)
theorem oH:∀l:List Tx,(d7 l).Pairwise (λa b=>¬b<a)
 |[]=>List.Pairwise.nil
 |x :: l=>q8 x (oH l)
def kQ{d:List Tx}(h:d.Perm l)(e:d.Pairwise (λa b=>¬b<a)):d=d7 l :=
 List.Perm.eq_of_pairwise (λa b _ _ g f=>List.le_antisymm (List.not_lt.mp g) (List.not_lt.mp f)) e (oH l) (h.trans (iW l).symm)
def xJ(s:Tx):(sx s).cps.toList=s:=rfl
def wU{f:List Tx}{d:List Str}(h:d.Perm (f.map sx))(i:d.Pairwise (λa b=>¬b.cps.toList<a.cps.toList)):d=(d7 f).map sx:=by
 have e:d=(d.map λx=>x.cps.toList).map sx:=by
  rw[ZF]
  conv=>lhs;rw[← Wy d]
  apply XR;intro x g;obtain⟨s,_,rfl⟩:=Z0.mp (h.mem_iff.mp g);show sx s=sx (sx s).cps.toList;rw[xJ]
 have e2:(d.map λx=>x.cps.toList)=d7 f:=by
  refine kQ ?_ ?_
  ·have:=h.map λx:Str=>x.cps.toList;rw[ZF]at this;have e3:((λx:Str=>x.cps.toList) ∘ sx)=id:=by
    funext s;exact xJ s
   rw[e3,Wy]at this;exact this
  ·rw[Y8];exact i
 rw[e,e2]
def Lb(s:Tx):Bool:=decide (s.length<=dq)&&s.all (λc=>decide (c<1114112))
def sJ(h:Lb s=B):lz s:=by
 unfold Lb at h;simp at h;exact h
section
theorem o9{H:Hp}:∀{ss:List Tx},(∀s∈ss,lz s)->RpL G H (ss.map λs=>V.str (sx s)) (ss.map T.str) (ss.map λ_=>[])
 |[],_=>.nil
 |s :: ss,h=>.cons (.str s (h s (Zw ..))) (o9 λx a=>h x (Zx _ a))
theorem nI{α β:Type}:∀(l:List α),(l.map λ_=>([]:List β)).flatten=[]
 |[]=>rfl
 |_ :: l=>by simp
theorem t9:∀{d:List V}{l:Vw}{f:Wm}{b:List Tx},RpL G H d l f->strs? l=Z b->∀s∈b,lz s
 |_,_,_,_,.nil,e,s,a=>by cases e;simp at a
 |_,_,_,_,.cons (t:=t) r q,e,s,a=>by
  cases t with
  |str x =>
   obtain⟨g,e1,e2⟩:=Zu.mp e;subst e2;rcases Zk.mp a with rfl | a
   ·exact r.str_inv.2
   ·exact t9 q e1 s a
  |_=>cases e
def qx{G:Gx}{M:FP}{U:VS.Env}{i H:Hp}{d:List Tx}{Q:VK}(k:∀v g F,aJ H g->Rp G g v (.lst ((d7 d).map T.str)) F->Fp M U i .fr F->Q v g)(m:aJ i H)(j:∀s∈d,lz s) :
  ∀(l:KB)(f:List Str),H l=L->f.Perm (d.map sx)->f.Pairwise (λa b=>¬b.cps.toList<a.cps.toList)->Q (.ref l) (upd H l (.lst (f.map V.str))):=λq f h o hw=>by
 rw[wU o hw];have r:Rp G (upd H q (.lst (((d7 d).map sx).map V.str))) (.ref q) (.lst ((d7 d).map T.str)) (q :: ((d7 d).map λ_=>[]).flatten):=.lst (by rw[aw,ZF];rfl) (o9 (G:=G) (H:=upd H q (.lst (((d7 d).map sx).map V.str))) λs n=>j s ((iW d).mem_iff.mp n));rw[nI]at r;exact k _ _ _ (cJ h) r (Fp.new (m.free h) (by simp) Fp.nil)
theorem keys_str:∀{a:List Key}{b:List Tx},strs? (a.map aT)=Z b->a=(b.map sx).map Sum.inr
 |[],_,e=>by cases e;rfl
 |.inl i :: a,_,e=>by cases e
 |.inr x :: a,b,e=>by
  obtain⟨d,e1,e2⟩:=Zu.mp (e);subst e2;rw[keys_str e1];simp[sx]
def oq:bootBuiltins ("sorted" : Str)=Z (.builtin "sorted"):=by decide +kernel
end
end VS
end
section
namespace VS
open PySem PySem.Builtin.Str PySem.StrLaws
noncomputable def aZ(c:Nat):Tx->List Tx
 |[]=>[[]]
 |a :: r=>if a=c then [] :: aZ c r else match aZ c r with
  |[]=>[[a]]
  |h :: t=>(a :: h) :: t
theorem eK(c:Nat):∀s:Tx,∃h t,aZ c s=h :: t
 |[]=>⟨[],[],rfl⟩
 |a :: r=>by
  unfold aZ;split
  ·exact⟨_,_,rfl⟩
  ·obtain⟨h,t,e⟩:=eK c r;rw[e];exact⟨_,_,rfl⟩
def subAt_one(s:Tx)(c i:Nat):subAt ⟨s.toArray⟩ ⟨#[c]⟩ i=decide (s[i]?=Z c):=by
 show ((s.toArray.extract i (i+1)) == #[c])=_;rw[List.extract_toArray,List.extract_eq_drop_take];have e:i+1-i=1:=by exact Nat.add_sub_cancel_left _ _
 rw[e];by_cases h:i<s.length
 ·rw[XG h,Zq h];simp[List.take];rfl
 ·rw[List.drop_eq_nil_of_le (by exact ZP h),ZI (by exact ZP h)];simp
theorem nQ(s:Tx)(c:Nat):∀(m a:Nat)(found:Array Nat)(free:Nat),free<=a->found.size<=a->a+m<=s.length+1 →
  (forIn (List.range' a m) (found,free) (occBody ⟨s.toArray⟩ ⟨#[c]⟩ s.length (s.length+1))).run.fst.toList=found.toList++(List.range' a m).filter λi=>decide (s[i]?=Z c)
 |0,a,found,free,_,_,_=>by simp
 |m+1,a,found,free,e,d,f=>by
  rw[List.range'_succ,List.forIn_cons];unfold occBody;by_cases b:s[a]?=Z c
  ·rw[Zp ⟨⟨⟨by lia,e⟩,by exact Nat.succ_le_of_lt (by
    rcases Nat.lt_or_ge a s.length with h | h
    ·exact h
    ·rw[ZI h]at b;cases b)⟩,by rw[subAt_one];exact decide_eq_true b⟩]
   have:=nQ s c m (a+1) (found.push a) (a+1) (Zm _) (by rw[Array.size_push];exact Yl d) (by lia);rw[WZ,Zp (by simpa using b)];refine Eq.trans this ?_;simp
  ·rw[Zn (λh=>b (by have:=h.2;rw[subAt_one]at this;exact of_decide_eq_true this))];have:=nQ s c m (a+1) found free (by exact X2 e) (by exact X2 d) (by lia);rw[WZ,Zn (by simpa using b)];exact this
def zT(s:Tx)(c:Nat):occurrences ⟨s.toArray⟩ ⟨#[c]⟩ 0 s.length (s.length+1)=(List.range' 0 (s.length+1)).filter λi=>decide (s[i]?=Z c):=by
 rw[occ_eq];have:=nQ s c (s.length+1) 0 #[] 0 (Zm _) (Zm _) (by lia);simpa using this
theorem mS(s:Tx)(c:Nat):∀(m a st:Nat),a+m=s.length->st<=a →
  (((st :: ((List.range' a (m+1)).filter λi=>decide (s[i]?=Z c)).map (·+1)).zip (((List.range' a (m+1)).filter λi=>decide (s[i]?=Z c))++[s.length])).map λ(i,j)=>(s.drop i).take (j-i)) =
   (match aZ c (s.drop a) with | []=>[] | h :: t=>(((s.drop st).take (a-st))++h) :: t)
 |0,a,st,o,g=>by
  have b:s[a]?=L:=ZI (by lia);have n:s.length=a:=by lia
  rw[(List.drop_eq_nil_of_le (by lia))];simp[aZ,b,n]
 |m+1,a,st,o,g=>by
  have b:a<s.length:=by lia
  have l:=mS s c m (a+1);rw[List.range'_succ,WZ,XG b];by_cases f:s[a]=c
  ·rw[Zp (by simpa[Zq b] using f)];have d:=l (a+1) (by lia) (Zm _);obtain⟨h,t,e⟩:=eK c (s.drop (a+1));rw[e]at d;simp only[aZ,f,if_true,e,Zi,YR,ZV,ZJ];rw[d];simp
  ·rw[Zn (by simpa[Zq b] using f)];have d:=l st (by lia) (by exact X2 g);obtain⟨h,t,e⟩:=eK c (s.drop (a+1));rw[e]at d;simp only[aZ,f,if_false,e];rw[d];have:(s.drop st).take (a+1-st)=(s.drop st).take (a-st)++[s[a]]:=by
    have e2:a+1-st=(a-st)+1:=by lia
    rw[e2,List.take_succ,List.getElem?_drop];have e3:st+(a-st)=a:=by exact Wj g
    rw[e3,Zq b];rfl
   rw[this];simp
def yq(s:Tx)(c:Nat)(d:c<256):Txt.split (sx s) (sx [c])=(aZ c s).map sx:=by
 have l:Builtin.Str.strKind (sx [c])=1:=by unfold Builtin.Str.strKind sx;simp[d]
 have g:1<=Builtin.Str.strKind (sx s):=by
  unfold Builtin.Str.strKind;split
  ·exact Zm _
  ·split<;>exact Nat.le_add_left _ _
 have key:partsBetween (sx s) (occurrences (sx s) (sx [c]) 0 (sx s).length ((sx s).length+1)) (sx [c]).length=(aZ c s).map sx:=by
  have e1:(sx s).length=s.length:=rfl;have e2:(sx [c]).length=1:=rfl;have e3:occurrences (sx s) (sx [c]) 0 s.length (s.length+1)=_:=zT s c;rw[e1,e2,e3];unfold partsBetween;rw[e1];have p:=mS s c s.length 0 0 (by exact Xj _) (Zm _);obtain⟨h,t,e⟩:=eK c s;rw[Wx,e]at p;simp only[List.take_zero,Nat.sub_self,YK]at p;rw[e,← p,ZF];apply XR;rintro⟨i,j⟩ _;unfold strSub sx;simp[List.extract_eq_drop_take]
 unfold Txt.split;by_cases b:(decide ((sx s).length<(sx [c]).length)||decide (Builtin.Str.strKind (sx s)<Builtin.Str.strKind (sx [c])))=B
 ·rw[Zp b];have f:s=[]:=by
   have e1:(sx s).length=s.length:=rfl;have e2:(sx [c]).length=1:=rfl;exact List.eq_nil_of_length_eq_zero (by lia)
  subst f;rfl
 ·rw[Zn b];by_cases a:(occurrences (sx s) (sx [c]) 0 (sx s).length ((sx s).length+1)).isEmpty=B
  ·rw[Zp a];rw[List.isEmpty_iff.mp a]at key;rw[← key];simp[partsBetween,strSub,sx,Str.length]
  ·rw[Zn a];exact key
end VS
end
section
namespace VS
open PySem PySem.Spec PyProof.Rows L2
theorem i6(c:Nat):∀s:Tx,(aZ c s).length<=s.length+1
 |[]=>by simp[aZ]
 |a :: r=>by
  have b:=i6 c r;obtain⟨h,t,e⟩:=eK c r;unfold aZ;rw[e]at b ⊢;split<;>simp at b ⊢ <;> omega
theorem iT(c:Nat):∀(s:Tx),∀p∈aZ c s,p.length<=s.length/\∀x∈p,x∈s
 |[],p,h=>by simp[aZ]at h;subst h;simp
 |a :: r,p,h=>by
  have f:=iT c r;obtain⟨i,t,e⟩:=eK c r;unfold aZ at h;rw[e]at h f;split at h
  ·rcases Zk.mp h with rfl | h
   ·simp
   ·obtain⟨g,d⟩:=f p h;exact⟨by rw[Zf];lia,λx b=>Zx _ (d x b)⟩
  ·rcases Zk.mp h with rfl | h
   ·obtain⟨g,d⟩:=f i (Zw ..);refine⟨by rw[Zf,Zf];lia,λx b=>?_⟩;rcases Zk.mp b with rfl | b
    ·exact Zw ..
    ·exact Zx _ (d x b)
   ·obtain⟨g,d⟩:=f p (Zx _ h);exact⟨by rw[Zf];lia,λx b=>Zx _ (d x b)⟩
section
def wW:V->List V->Hp->VK->Prop:=λx b H Q=>∃s c,x=.str (sx s)/\b=[.str (sx [c])]/\c<256/\s.length<dq/\∀l,H l=L->Q (.ref l) (upd H l (.lst (((aZ c s).map sx).map V.str)))
theorem rT:∀(l:List (Str×Tok)),aK ((l.map (·.1)).map V.str) (strValues l)
 |[]=>.nil
 |p :: l=>.cons ⟨p.2,rfl⟩ (rT l)
def wa:LV X "str.split" wW:=by
 intro f s J H x C v D Q I n A h;obtain⟨z,c,rfl,rfl,r,E,q⟩:=h;obtain⟨t,rfl⟩:=n;obtain⟨u,rfl,p⟩:=vals1 A;obtain⟨i,rfl⟩:=p;have e1:(sx z).length=z.length:=rfl;have e2:((sx [c]).length==0)=O:=rfl;have M:=YO;have N:dq=16777216:=rfl;have sp:=yq z c r;have fin:∀(l:List (Str×Tok))(j:Nat),l.map (·.1)=Txt.split (sx z) (sx [c])->EP X f J Q (.ref s.heap.objs.size) { s with heap:=s.heap.push { cls:=.type "list",data:=.seq (strValues l).toArray },toks:=j }:=λl j y=>by
  refine⟨.ref s.heap.objs.size,_,I.laid (λb o e=>Zo _ e) (Zm _) (show c9 X.prog X.w _ _ _ (.lst (((aZ c z).map sx).map V.str)) from⟨?_,strValues l,0,?_,Ze _ Y⟩),rfl,q _ (I.oe.fresh (Zm _))⟩
  ·have:=i6 c z;rw[Zy,Zy];lia
  ·rw[← sp,← y];exact rT l
 cases d:(decide ((sx z).length<(sx [c]).length)||decide (Builtin.Str.strKind (sx z)<Builtin.Str.strKind (sx [c])))
 ·cases g:(Builtin.Str.occurrences (sx z) (sx [c]) 0 (sx z).length ((sx z).length+1)).isEmpty
  ·have m:Txt.split (sx z) (sx [c])=Builtin.Str.partsBetween (sx z) (Builtin.Str.occurrences (sx z) (sx [c]) 0 (sx z).length ((sx z).length+1)) (sx [c]).length:=by
    unfold Txt.split;rw[d,g];simp
   refine call_meets F.slot_str_split (Ww _ _ _) F.entry_str_split (F.args_str_split_2 _ _) (meets_str_split_sep _ _ t i d e2 g (by lia) (by
    rw[← m,sp,Zy];have:=i6 c z;lia)) ?_
   have:=fin (numbered s.toks (Builtin.Str.partsBetween (sx z) (Builtin.Str.occurrences (sx z) (sx [c]) 0 (sx z).length ((sx z).length+1)) (sx [c]).length)) (s.toks+(Builtin.Str.partsBetween (sx z) (Builtin.Str.occurrences (sx z) (sx [c]) 0 (sx z).length ((sx z).length+1)) (sx [c]).length).length) (by rw[numbered_texts,m]);rw[← strsFrom_eq]at this;exact this
  ·exact call_meets F.slot_str_split (Ww _ _ _) F.entry_str_split (F.args_str_split_2 _ _) (meets_str_split_not_found _ _ t i d e2 g) (fin [(sx z,t)] s.toks (by
    unfold Txt.split;rw[d,g];simp))
 ·exact call_meets F.slot_str_split (Ww _ _ _) F.entry_str_split (F.args_str_split_2 _ _) (meets_str_split_cannot_occur _ _ t i d) (fin [(sx z,t)] s.toks (by
   unfold Txt.split;rw[d];simp))
def gK:Val->Vy->Vx
 | (_,.str s),[(_,.str [c])]=>if c<256/\s.length<dq then Z (.fr,.lst ((aZ c s).map .str)) else L
 |_,_=>L
def xo:Dy G wW gK:=by
 intro M U D C H x v F l w E m t Q o r f A e k;unfold gK at e;split at e
 ·rename_i z s y c;split at e
  ·rename_i h;cases e;obtain⟨u,J,rfl,rfl,i⟩:=(A.rp).one;have b:=r.str_inv.2;refine⟨s,c,r.str_inv.1,by rw[i.str_inv.1],h.1,h.2,λq d=>?_⟩;have j:=o9 (G:=G) (H:=upd H q (.lst (((aZ c s).map sx).map V.str))) (λp g=>⟨ZY (iT c s p g).1 b.1,λx n=>b.2 x ((iT c s p g).2 x n)⟩);have r:Rp G (upd H q (.lst (((aZ c s).map sx).map V.str))) (.ref q) (.lst ((aZ c s).map T.str)) (q :: ((aZ c s).map λ_=>[]).flatten):=.lst (by rw[aw,ZF];rfl) j;rw[nI]at r;exact k _ _ _ (cJ d) r (Fp.new (o.free (A.same.free d)) (by simp) Fp.nil)
  ·cases e
 ·cases e
def mL{b:Pos}(h:PV G X a ca)(i:GE G X [e] cs)(j:{`q2,X.K=G.K})(o:{`q2,SZ a "split" X.env (eval a X.env)=eval a X.env})(m:{`q2,((backTo d (PP [e] X.env)).all (λx=>!x.1)&&(backToKw d (Re [] X.env)).all (λx=>x.1.isSome)
   && decide ([e].length+([]:List Keyword).length+(if ([]:List Keyword).isEmpty then 0 else 1)<30))=B})(f:{`q2,(b.endLine==d.line)=B})(g:{`q2,K1 e [] X})(n:{`q2,(backTo d (PP [] X.env)).any (·.1)=O}) :
  PV G X (.Call (.Attribute a "split" b) [e] [] d) (eM gK ca cs) :=
 Bo PySem.F.plainAttrs_str PySem.F.slot_str_split PySem.F.type_str_split wa xo (λH v x F l z r e=>rg r (by
  unfold gK at e;split at e
  ·exact⟨_,rfl⟩
  ·cases e)) h i j o m f g n
end
end VS
end
section
namespace ST
open PySem PySem.Spec PyProof.Rows
noncomputable def Kd(w:SL):Bool:=w.params.followText "set-order"
structure Tb(w:SL)(n:Nat)(t:SetTable):Prop where
 fit:t.fits n=true
 led:t.led=!Kd w
 pl:n≠0->t.plain=false
noncomputable def Nv(w:SL)(l:List (Int×KF)):Prop:=∀e∈l,∃x a,e=(hashStr w x,Value.str x a)
noncomputable def nm(l:List (Int×KF)):List Str:=l.map λe=>strOf e.2
structure Ts(w:SL)(h:SC)(a:KB)(ss:List Str)(es:Array (Int×KF))(ep:Nat)(t:SetTable):Prop where
 at_:h.get? a=some { cls:=.type "set",dict:=none,data:=.set es ep t }
 tb:Tb w es.size t
 Kc:Nv w es.toList
 pm:(nm es.toList).Perm ss
 nd:ss.Nodup
 GB:es.size<scanBound
def Nv.of(h:Nv w l):ElemsOf (strKind prog w) l:=λe he=>by
 obtain⟨x,a,rfl⟩:=h e he;exact⟨⟨x,strKind_is prog w x a,rfl⟩,rfl⟩
def yx(h:Nv w l)(he:e∈l):(strKind prog w).is k e.2=B↔strOf e.2=k:=by
 obtain⟨x,b,rfl⟩:=h e he;constructor
 ·intro a;obtain⟨u,e⟩:=Wc (show Value.isStrOf k (.str x b)=B from a);cases e;rfl
 ·intro a;cases a;exact strKind_is prog w _ b
def Di(t:SetTable)(n:Nat):(t.orStandIn n).led=t.led/\(t.plain=O->(t.orStandIn n).plain=O):=by
 unfold SetTable.orStandIn;by_cases a:t.fits n=B
 ·rw[Zp a];exact⟨rfl,λq=>q⟩
 ·rw[Zn a];exact⟨rfl,λ_=>rfl⟩
def za(t:SetTable)(a:Array (Int×KF))(h:Int)(x:KF):(layNew t a h x).2.1.led=t.led/\(t.plain=O->(layNew t a h x).2.1.plain=O):=by
 unfold layNew;split
 ·exact Di _ _
 ·exact⟨rfl,λ_=>rfl⟩
def vE(t:SetTable)(b:Array (Int×KF))(n:Nat):(relayAll t b n).2.1.led=t.led/\(t.plain=O->(relayAll t b n).2.1.plain=O):=by
 unfold relayAll;cases a:t.relaid (b.map λy=>y.1) n with
 |none=>exact⟨rfl,λ_=>rfl⟩
 |some p =>
  obtain⟨d,ord⟩:=p;have e:d.led=t.led/\d.plain=t.plain:=by
   unfold SetTable.relaid SetTable.laid at a;cases f:SetTable.layClean (SetTable.sizeAbove n-1) (b.map λy=>y.1) with
   |none=>rw[f]at a;cases a
   |some o =>
    rw[f]at a;cases a;exact⟨rfl,rfl⟩
  dsimp only;split
  ·exact⟨e.1,λq=>by rw[e.2];exact q⟩
  ·exact⟨rfl,λ_=>rfl⟩
def wI{s:FS}(T:Ts w s.heap a i u U t)(hr:i.length+1<scanBound)(h:∀l FN Iv JQ t' b,Heap.SameBut a s.heap l->Ts w l a FN Iv JQ t'->(∀y,y∈FN↔y∈i\/y=x)->FN.length<=i.length+1->Q b { s with heap:=l }) :
  KM (GM prog w) A (setAddHashed a (.str x n) (hashStr w x)) Q E s:=by
 have Rf:=T.Kc.of (prog:=prog);refine YB (Zv (YF T.at_ Y T.tb.fit ?_));dsimp only;rw[byScan_of Y T.GB Rf,Zp Y];refine Zv (Zv (wpAny_rule (Zv (wpAny_setScan_of (strKind_is prog w x n) T.at_ Y T.tb.fit Rf ?_))));cases G:List.findIdx? (λe=>(strKind prog w).is x e.2) u.toList with
 |some j =>
  obtain⟨hj,Ti,_⟩:=List.findIdx?_eq_some_iff_getElem.mp G;refine Zl (Zl ?_);exact h s.heap i u U t _ (Heap.SameBut.refl a s.heap) T (λy=>⟨.inl,λz=>z.elim id λe=>e ▸ (T.pm.mem_iff.mp (Z0.mpr ⟨_,Z7 hj,(yx T.Kc (Z7 hj)).mp Ti⟩))⟩) (Xm _)
 |none =>
  have hx:x∉i:=λv=>by
   obtain⟨e,he,q⟩:=Z0.mp (T.pm.mem_iff.mpr v);have:=List.findIdx?_eq_none_iff.mp G e he;rw[(yx T.Kc he).mpr q]at this;cases this
  have H:=layNew_perm t u (hashStr w x) (.str x n);have JK:=layNew_fits t u (hashStr w x) (.str x n);have Lx:=za t u (hashStr w x) (.str x n);generalize layNew t u (hashStr w x) (.str x n)=L at H JK Lx ⊢;obtain⟨d,J,wd,gv⟩:=L;rw[Array.toList_push]at H;have PL:Nv w d.toList:=λe he=>by
   rcases Zd.mp (H.mem_iff.mp he) with q | q
   ·exact T.Kc e q
   ·exact⟨x,n,Zj.mp q⟩
  have QA:(nm d.toList).Perm (i++[x]):=(H.map _).trans (by
   rw[Z3];exact T.pm.append_right _)
  have Su:d.size=i.length+1:=by
   have:=QA.length_eq;simpa[nm] using this
  have LK:d.size<scanBound:=by rw[Su];exact hr
  have fin:∀(p:Array (Int×KF))(M8:Nat)(t2:SetTable)(l:SC)(b:Bool),p.toList.Perm d.toList->t2.fits p.size=B->t2.led=t.led->t2.plain=O->Heap.SameBut a s.heap l →
    l.get? a=Z { cls:=.type "set",dict:=none,data:=.set p M8 t2 }->Q b { s with heap:=l }:=λp M8 t2 l b P f2 F D sb C =>
   h l (i++[x]) p M8 t2 b sb ⟨C,⟨f2,F.trans T.tb.led,λ_=>D⟩,λe he=>PL e (P.mem_iff.mp he),(P.map _).trans QA,(ZL.mpr ⟨T.nd,by simp,λy hy z hz e=>hx (by rw[← Zj.mp hz,← e];exact hy)⟩),by
    rw[← Z4,P.length_eq,Z4];exact LK⟩ (λy=>by simp) (by simp)
  have rest:∀(t2:SetTable),t2.fits d.size=B->t2.led=t.led->t2.plain=O->KM (GM prog w) A (do
    storeSet a d t2
    if (!wd&&t2.tooFull)=B then
     let r:=relayAll t2 d (SetTable.grown d.size)
     (match r.2.2 with
      |true=>rule "set.scan.the-table-gave-way"
      |false=>pure ())
     storeSet a r.1 r.2.1
     pure (Z B)
    else pure (Z B)) (λo g=>∃b,o=Z b/\Q b g) E s:=λt2 f2 F D=>by
   refine Zv (wpAny_storeSet_of T.at_ Y ?_ (X6 LK));have C:(s.heap.update a (Obj.putSet d t2)).get? a=Z { cls:=.type "set",dict:=none,data:=.set d (U+1) t2 }:=Yx _ T.at_ Y;have Qt:Heap.SameBut a s.heap (s.heap.update a (Obj.putSet d t2)):=Y2 ..;by_cases hq:(!wd&&t2.tooFull)=B
   ·rw[Zp hq];have rp:=relayAll_perm t2 d (SetTable.grown d.size);have rf:=relayAll_fits t2 d (SetTable.grown d.size);have N:=vE t2 d (SetTable.grown d.size);generalize relayAll t2 d (SetTable.grown d.size)=R at rp rf N ⊢;obtain⟨p,t3,Ub⟩:=R;have st:KM (GM prog w) A (storeSet a p t3 >>= λ_=>pure (Z B)) (λo g=>∃b,o=Z b/\Q b g) E { s with heap:=s.heap.update a (Obj.putSet d t2) } :=
     Zv (wpAny_storeSet_of C Y (Zl ⟨B,rfl,fin p _ t3 _ _ rp rf (N.1.trans F) (N.2 D) (Qt.trans (Y2 ..)) (Yx _ C Y)⟩) (X6 (by rw[← Z4,rp.length_eq,Z4];exact LK)))
    cases Ub with
    |true=>exact Zv (wpAny_rule st)
    |false=>exact Zv (Zl st)
   ·rw[Zn hq];exact Zl ⟨B,rfl,fin d _ t2 _ _ (YQ _) f2 F D Qt C⟩
  have out:∀(m:Sem (Option Bool)),KM (GM prog w) A m (λo g=>∃b,o=Z b/\Q b g) E s->KM (GM prog w) A m (λo g=>KM (GM prog w) A (match o with | some added=>pure added | none=>setAddHashedIn a (.str x n) (hashStr w x) 99999) Q E g) E s:=λm v =>
   YU v (λo g ⟨b,e,q⟩=>by subst e;exact Zl q) λ_ _ e=>e
  refine out _ ?_;have mid:∀(m:Sem Unit),(∀(M:FS)(X:Unit->FS->Prop),X () M->KM (GM prog w) A m X E M)->∀(f:Unit->Sem (Option Bool)),KM (GM prog w) A (f ()) (λo g=>∃b,o=Z b/\Q b g) E s->KM (GM prog w) A (m>>=f) (λo g=>∃b,o=Z b/\Q b g) E s:=λm v f G=>Zv (v s _ G);refine mid _ (λM X q1=>by cases gv<;>first | exact Zl q1 | exact wpAny_rule q1) _ ?_;by_cases S:J.plain=B
  ·rw[Zp S];refine Zv (Zl ?_);exact rest { J with plain:=false } (SetTable.fits_plain_off JK) Lx.1 rfl
  ·rw[Zn S];refine Zv (Zl ?_);exact rest J JK Lx.1 (by simpa using S)
theorem rh{prog:Pv}{w:SL}{A:P3}{R:Result->FS->Prop}{I S:KB}{Y M:W4}{G:Array GenState->Array GenState->Prop}{n:Nat}{P:Nat->KF->Prop}{St:Nat->FS->Prop}{m:List Str}(W:WalksS prog w A.in1 I Y M G n P St)(a:S∉Y)(Q:n=m.length)(X:∀i v,P i v->∃x t,v=.str x t/\m[i]?=Z x)(j:n+1<scanBound) :
  ∀(k i:Nat)(s:FS)(d:List Str)(p:Array (Int×KF))(q:Nat)(t:SetTable),i+k=n->St i s->Ts w s.heap S d p q t->(∀y,y∈d↔y∈m.take i)->d.length<=i →
   (∀f l J H r,Moved (S :: M) G s f->Ts w f.heap S l J H r->(∀y,y∈l↔y∈m)->l.length<=n->R (.ok (.ret .none)) f) →
   codeAny (GM prog w) A (.builtin "set.update.loop" ⟨[.ref S,.ref I],[]⟩) R s
 |0,i,s,d,p,q,t,hk,st,T,u,U,C=>by
  have hi:i=n:=by omega
  subst hi;refine Xd F.entry_set_update_loop ?_;rw[Xr We];refine Zv (W.done s _ _ st λf g=>Zl (C f d p q t (g.mono λb j=>Zx _ j) ⟨g.heap S _ (λh=>a (W.sub _ h)) T.at_,T.tb,T.Kc,T.pm,T.nd,T.GB⟩ (λy=>?_) U));rw[u y,Q,List.take_length]
 |k+1,i,s,d,p,q,t,hk,st,T,u,U,C=>by
  refine Xd F.entry_set_update_loop ?_;rw[Xr We];refine Zv (W.item i s _ _ (by lia) st λv s1 pv Sv g=>?_);obtain⟨x,tk,rfl,hx⟩:=X i v pv;refine Zv (YB ?_);refine YB (Zv (wpAny_pyHash_str (wI (⟨g.heap S _ (λh=>a (W.sub _ h)) T.at_,T.tb,T.Kc,T.pm,T.nd,T.GB⟩) (by lia) λh' l J H r b N T2 Ku HJ=>?_)));refine Zl ⟨plainId_quiet We _,rh W a Q X j k (i+1) _ l J H r (by lia) (W.frame _ s1 _ _ Sv (Xm _) λc z o e=>?_) T2 (λy=>?_) (by lia) λs2 Sw Ka M8 t2 SS T3 Tt KU=>?_⟩
  ·rw[N.2 c λD=>a (D ▸ z)];exact e
  ·rw[Ku y,u y,List.take_add_one,hx,Zd];simp
  ·refine C s2 Sw Ka M8 t2 (Moved.trans W.gtrans (Moved.then_heap (g.mono λb j=>Zx _ j) (Xm _) λc o z e=>?_) SS) T3 Tt KU;rw[N.2 c λD=>z (by rw[D];exact Zw)];exact e
abbrev bare(w:SL):Obj:={ cls:=.type "set",dict:=L,data:=.set #[] 0 (.fresh 0 0 (!Kd w)) }
def Au{s:FS}(v:KF){Q:Xz}(h:Q (.ref s.heap.objs.size) { s with heap:=s.heap.push (bare w) }) :
  codeAny (GM prog w) A (.call (.builtin "set.__new__") ⟨[.type "set",v],[]⟩) (wants Q E) s:=by
 refine codeAny_of_tree (Zv (wpAny_of_eq (F.newCall_set_1 v) (Zl ⟨plainId_quiet F.plain_set_new _,Xd F.entry_set_new ?_⟩)));rw[Xr F.plain_set_new];have own:=sub_set_self;cases s;unfold Builtin.«set.__new__» Builtin.Frozenset.newClass
 wp_walk
 refine XQ (Zl ?_);exact Zv (wpAny_alloc (Zl (Zl h)))
theorem Ts.bare(h:SC):Ts w (h.push (ST.bare w)) h.objs.size [] #[] 0 (.fresh 0 0 (!Kd w)) :=
 ⟨Ze _ Y,⟨rfl,rfl,λe=>absurd Y e⟩,λe he=>by simp at he,YQ _,YY,by decide⟩
def xQ{A:P3}{s:FS}{n:List Str}(hh:A.handled=L)(X:s.heap.IsList l j)(S:∀(i:Nat)(v:KF),j[i]?=Z v->∃x t,v=.str x t/\n[i]?=Z x)(P:j.size=n.length)(hb:n.length+1<scanBound)(h:∀(m:SC)(J:Nat) ss es ep t,Ts w m s.heap.objs.size ss es ep t->(∀y,y∈ss↔y∈n)->(∀b o,s.heap.get? b=Z o->m.get? b=Z o)->Q (.ref s.heap.objs.size) { s with heap:=m,toks:=J }) :
  KM (GM prog w) A (call (.type "set") [.ref l]) Q E s:=by
 have f:=F.called_set;obtain⟨c,tl,mro⟩:=f.mro;have made:=f.made;have sub:=f.sub;have tc:=F.typeCall_set_1 (.ref l);refine wpAny_call (codeAny_of_tree (Zl (⟨Code.quiet_builtin _ (by decide +kernel),Xd F.entry_type_call ?_⟩)));rw[Around.under_plain (weight_type_call_type "set" [.ref l] []) Y]
 repeat any_goals first | assumption | wp_step
 refine XU (Au (.ref l) (E:=E) (Q:=λv C=>v=.ref s.heap.objs.size/\C={ s with heap:=s.heap.push (bare w) }) ⟨rfl,rfl⟩) λr C a=>?_
 match r,a with
 |.error e,a=>exact a
 |.ok (.ret v),⟨e1,e2⟩ =>
  subst e1 e2;have g:=Ts.bare (w:=w) s.heap;have il:=f.init.lookup;have ib:=f.init.bind (.ref s.heap.objs.size)
  repeat any_goals first | assumption | wp_step
  refine XU (codeAny_call_builtin (R:=wants (λv z=>v=.none/\Q (.ref s.heap.objs.size) z) E) f.init.plain F.entry_set_init (check_set_init_1 (⟨_,g.at_,rfl⟩) ?_)) λr2 z d=>?_
  ·obtain⟨ol,D,O6,nl,TV⟩:=X;cases ol;subst O6 TV;have H:=ZW D;have lst:(s.heap.push (bare w)).IsList l j:=⟨_,(Zo (bare w) D),rfl,nl,rfl⟩
   have n1:=F.sub_list_set;have n2:=F.sub_list_frozenset;unfold Builtin.«set.__init__» noKeywords Builtin.Frozenset.updateFrom;generalize eP:pyIter=Ve
   wp_walk
   subst eP;refine X5 lst (Zv (wpAny_runValue ?_));have out:l≠(s.heap.push (bare w)).objs.size:=by rw[Yj];exact Zg (Yo H)
   refine rh ((Walks.list (by simp[hh]) _ l out j).toS) (by
    rw[Yj];simp only[Zk,X1,or_false,not_or];exact⟨Zg (Z6 _),Xi H⟩) P S (by lia) j.size 0 _ [] #[] 0 _ (by exact Xj _) ⟨⟨_,Ze _ Y,rfl,rfl⟩,lst.push _⟩ (⟨Zo _ g.at_,g.tb,g.Kc,g.pm,g.nd,g.GB⟩) (by simp) (Zm _) λN FN Iv JQ M p T U _=>?_
   obtain⟨m,g',d',Sk,QC⟩:=N;have e1:=p.gens;have e2:=p.drawn;have e3:=p.os;subst e1 e2 e3;refine Zl (Zl ⟨rfl,h m Sk FN Iv JQ M T U λb o e=>p.heap b o (λu=>?_) (Zo _ (Zo _ e))⟩);have G:=ZW e;rw[Yj]at u;simp only[Zk,X1,or_false]at u;rcases u with q | q
   ·exact Zg G q
   ·exact Zg (Yo G) q
  ·match r2,d with
   |.error e,d=>exact d
   |.ok (.ret v),⟨e1,e2⟩ =>
    subst e1
    repeat any_goals first | assumption | wp_step
   |.ok .next,d=>exact d.elim
   |.ok .brk,d=>exact d.elim
   |.ok .cont,d=>exact d.elim
 |.ok .next,a=>exact a.elim
 |.ok .brk,a=>exact a.elim
 |.ok .cont,a=>exact a.elim
end ST
end
section
namespace ST
open PySem PySem.Spec PyProof.Rows
def lT:Slot "set_iterator" "__next__" "set_iterator.__next__" := .of (owner := "set_iterator") (n := "__next__") (by rw[typeLookup_type,builtinLookup_eq_fast];kernel_rfl) (by decide +kernel) (by decide +kernel)
 (by decide +kernel) (by first | exact .inl (by decide +kernel) | exact .inr (by decide +kernel)) (by rw[isSubtype_type];kernel_rfl)
def uD:Slot "set_iterator" "__iter__" "set_iterator.__iter__" := .of (owner := "set_iterator") (n := "__iter__") (by rw[typeLookup_type,builtinLookup_eq_fast];kernel_rfl) (by decide +kernel) (by decide +kernel)
 (by decide +kernel) (by first | exact .inl (by decide +kernel) | exact .inr (by decide +kernel)) (by rw[isSubtype_type];kernel_rfl)
def zi:entryFor table "set_iterator.__next__" = Z Builtin.«set_iterator.__next__» := entryFor_of_fast (by kernel_rfl)
def AB:entryFor table "set_iterator.__iter__" = Z Builtin.«dict_keyiterator.__iter__» := entryFor_alias (id' := "dict_keyiterator.__iter__") (by kernel_rfl) Y (by decide +kernel) (by kernel_rfl)
def zd:entryFor table "set.__iter__" = Z Builtin.«frozenset.__iter__» := entryFor_alias (id' := "frozenset.__iter__") (by kernel_rfl) Y (by decide +kernel) (by kernel_rfl)
def zQ(v:KF):argsOk "set_iterator.__next__" ⟨[v],[]⟩:=by kernel_rfl
def zF(v:KF):argsOk "set_iterator.__iter__" ⟨[v],[]⟩:=by kernel_rfl
def wp_choose(b:n≠0)(h:∀i d,i<n->Q i { s with drawn:=d }):KM (GM prog w) A (choose a n) Q E s:=λΓ p _=>by
 exact⟨b,h _ _ (Nat.mod_lt _ (Xq b))⟩
theorem pB{α:Type}:∀(l:List α){i:Nat}(h:i<l.length),(l[i] :: l.eraseIdx i).Perm l
 |a :: l,0,_=>YQ _
 |a :: l,i+1,h=>((List.Perm.swap _ _ _).trans ((pB l (by simpa using h)).cons a))
def zz{α:Type}:∀(n:Nat)(a:List α)(s:FS)(Q:List α->FS->Prop),n=a.length->(∀b d,b.Perm a->Q b { s with drawn:=d })->KM (GM prog w) A (drawOrder n a) Q E s:=by
 intro n
 induction n with
 |zero =>
  intro a s Q e h;cases a with
  |nil=>exact Zl (h [] s.drawn (YQ _))
  |cons x a=>exact absurd e (by simp)
 |succ n f =>
  intro a s Q e h;cases a with
  |nil=>exact absurd e (by simp)
  |cons x a =>
   refine Zv (wp_choose (by simp) λi d hi=>?_);rw[Zq hi];refine Zv (f _ _ _ (by rw[List.length_eraseIdx,Zp hi];omega) λb j g=>Zl (h _ j ?_));exact(List.Perm.cons _ g).trans (pB _ hi)
noncomputable abbrev Kr(first:KF)(i:Nat)(a:KB)(n b:Nat):Obj:={ cls:=.type "set_iterator",data:=.fields #[first,.int i 0,.ref a,.int n 0,.int b 0] }
def yh{t:SetTable}(h:t.fits n=B):¬((t.place.size != n||decide (t.fill > t.mask))=B):=by
 unfold SetTable.fits at h;simp at h;simp[h.1];exact h.2
def xB{A:P3}{s:FS}(f:A.handled=L)(h:∀(a:SC)(x:KB),(∀b o,s.heap.get? b=Z o->a.get? b=Z o)->(∃o,a.get? x=Z o/\o.cls=.type "StopIteration")->d (.ref x) { s with heap:=a }) :
  KM (GM prog w) A (newExc (.type "StopIteration") [] >>= λe=>raiseNew e) Q d s:=by
 refine Zv (Zv (YE (Zv (wpAny_of_eq (by first | rfl | (rfl)) (YE ?_ (by size_fits)))) (by size_fits)));refine Zv (wpAny_handled ?_);rw[f];exact Zv (Zl (wpAny_throw (h _ _ (λb o e=>Zo _ (Zo _ e)) ⟨_,Ze _ Y,rfl⟩)))
def uA{A:P3}{s:FS}(i:s.heap.get? I=Z { cls:=.type "set_iterator",data:=.fields j })(h:KM (GM prog w) A.in1 (Builtin.«set_iterator.__next__» ⟨[.ref I],[]⟩) (λf a=>∃v,f=.done (.ret v)/\Q (Z v) a) (λe a=>∃x,e=.ref x/\(∃o,a.heap.get? x=Z o/\o.cls=.type "StopIteration")/\Q L a) s) :
  KM (GM prog w) A (pyNext (.ref I)) Q E s:=by
 have ty:s.TypeIs (.ref I) "set_iterator" := ⟨_,i,rfl⟩
 refine Zv (wpAny_attempt (wpAny_callSpecial?_slot ty lT (Y4 lT ty zi (YU h (λf a d=>?_) λe a he=>?_) (zQ _))))
 ·obtain⟨v,rfl,q⟩:=d;exact⟨v,rfl,Zl q⟩
 ·obtain⟨x,rfl,⟨o,b,g⟩,q⟩:=he;exact Zv (wpAny_isInstance ⟨o,b,g⟩ isSubtype_stop (Zl q))
noncomputable abbrev qy(a:Array (Int×KF))(b:Nat)(t:SetTable):Obj:={ cls:=.type "set",dict:=L,data:=.set a b t }
def nW{A:P3}{s:FS}{q:W7}(z:A.handled=L)(v:s.heap.get? a=Z (qy f m t))(r:t.fits f.size=B)(l:s.heap.get? I=Z (Kr (.ref p) i a f.size m))(y:s.heap.get? p=Z n)(C:n.data=.seq (q.map λ(k:Nat)=>rawInt k).toArray u)(G:∀j x,q[i]?=Z j->f[j]?=Z x->∀d,Heap.SameBut I s.heap d->d.get? I=Z (Kr (.ref p) (i+1) a f.size m)->Q (Z x.2) { s with heap:=d })(F:∀j,q[i]?=Z j->j<f.size)(D:q[i]?=L->∀d,(∀b o,b≠I->s.heap.get? b=Z o->d.get? b=Z o)->Q L { s with heap:=d }) :
  KM (GM prog w) A (pyNext (.ref I)) Q E s:=by
 refine uA l ?_
 wp_walk
 rw[Zn (yh r)];refine Zl (Zl ?_);rw[Zn (by simp)];refine Zv (wpAny_seqItems y C ?_);dsimp only;rw[Z9];cases g:q[i]? with
 |some j =>
  have e1:(q.map λ(k:Nat)=>rawInt k).toArray[i]?=Z (rawInt j):=by simp[g]
  rw[e1];refine Zv (Zv (YF v Y r ?_));dsimp only;rw[Z9,Zn (by simp)];rw[Z9];cases h:f[j]? with
  |none=>rw[Yc (F j g)]at h;cases h
  |some x =>
   refine Zl (Zv (Y3 l Y (by show 1<5;decide) (Zl ⟨_,rfl,G j x g h _ (Y2 ..) ?_⟩)));exact Yx _ l Y
 |none =>
  have e1:(q.map λ(k:Nat)=>rawInt k).toArray[i]?=L:=by simp at g ⊢;exact g
  rw[e1];refine Zv (Y3 l Y (by show 0<5;decide) (Zv (Y3 (Yx (Obj.mapFields (·.setIfInBounds 0 (rawInt 0))) l Y) Y (by show 2<5;decide) (xB z λd x kp h=>⟨x,rfl,h,D g d λb o hb e=>kp b o ?_⟩))));exact(Yh _ _ (Ya hb)).trans ((Yh _ _ (Ya hb)).trans e)
def hV{prog:Pv}{w:SL}{A:P3}{s:FS}{I a:KB}{i h m:Nat}{g:Array (Int×KF)}{t:SetTable}{r:Option (KF×Nat)}{Q:W6->FS->Prop}(u:A.handled=L)(y:s.heap.get? a=Z (qy g h t))(v:t.fits g.size=B)(f:s.heap.get? I=Z (Kr (.int m 0) i a g.size h))(q:∀(Q:Option (KF×Nat)->FS->Prop)(E:Xz),Q r s->KM (GM prog w) A.in1 (setNext a m i h) Q E s)(l:∀x nx,r=Z (x,nx)->∀d,Heap.SameBut I s.heap d->d.get? I=Z (Kr (.int nx 0) (i+1) a g.size h)->Q (Z x) { s with heap:=d })(j:r=L->∀d,(∀b o,b≠I->s.heap.get? b=Z o->d.get? b=Z o)->Q L { s with heap:=d }) :
  KM (GM prog w) A (pyNext (.ref I)) Q E s:=by
 refine uA f ?_
 wp_walk
 rw[Zn (yh v)];refine Zl (Zl ?_);rw[Zn (by simp)];refine Zv (q _ _ ?_)
 match r,l,j with
 |some (x,nx),l,_ =>
  have n:=Yx (Obj.mapFields (·.setIfInBounds 0 (rawInt nx))) f Y;exact Zv (Y3 f Y (by show 0<5;decide) (Zv (Y3 n Y (by show 1<5;decide) (Zl ⟨x,rfl,l x nx Y _ (Heap.SameBut.trans (Y2 ..) (Y2 ..)) (Yx (Obj.mapFields (·.setIfInBounds 1 (rawInt ((i:Int)+1)))) n Y)⟩))))
 |none,_,j =>
  refine Zv (Y3 f Y (by show 2<5;decide) (xB u λd x kp p=>⟨x,rfl,p,j Y d λb o hb e=>kp b o ?_⟩));exact(Yh _ _ (Ya hb)).trans e
theorem t8{α:Type}(f:Nat->Nat):∀(n k:Nat)(l:List α)(out:Array α),l.length=n->(pickOrder.go f n k l out).toList.Perm (out.toList++l)
 |0,k,l,out,h=>by
  cases l with
  |nil=>unfold pickOrder.go;simp
  |cons a l=>simp at h
 |n+1,k,l,out,h=>by
  have b:f k%l.length<l.length:=Nat.mod_lt _ (by lia);unfold pickOrder.go;rw[Zq b];refine(t8 f n (k+1) _ _ (by rw[List.length_eraseIdx,Zp b];lia)).trans ?_;rw[Array.toList_push,Z2];exact List.Perm.append_left _ (pB l b)
def kW{α:Type}(f:Nat->Nat)(a:Array α):(pickOrder f a).toList.Perm a.toList:=by
 unfold pickOrder;simpa using t8 f a.size 0 a.toList #[] Y
def tQ{s:FS}(m:Kd w=B)(j:s.heap.get? a=Z (qy b d t))(l:t.fits b.size=B)(Q:Option (KF×Nat)->FS->Prop)(E:Xz)(h:Q (((pickOrder (w.params.setOrder a d) b)[i]?).map λe=>(e.2,f)) s):KM (GM prog w) A (setNext a f i d) Q E s:=by
 have g:∀(Q:Bool->FS->Prop),Q B s->KM (GM prog w) A setsByText Q E s:=λQ q=>Zv (XQ (Zl (by show Q (Kd w) s;rw[m];exact q)));refine Zv (YF j Y l (Zv (g _ ?_)));rw[Zp Y,Zn (by simp)];refine Zv (Zv (YF j Y l (Zv (g _ ?_))));rw[Zp Y];exact Zv (XQ (Zl (Zl h)))
def xW{s:FS}(o:Kd w=O)(l:s.heap.get? a=Z (qy d f t))(n:t.fits d.size=B)(m:t.led=B)(r:d.size<=1)(Q:Option (KF×Nat)->FS->Prop)(E:Xz)(h:Q (match d[SetTable.below t.place e]?,t.place[SetTable.below t.place e]? with | some (_,x),some j=>some (x,j+1) | _,_=>none) s):KM (GM prog w) A (setNext a e i f) Q E s:=by
 have g:∀(Q:Bool->FS->Prop),Q O s->KM (GM prog w) A setsByText Q E s:=λQ q=>Zv (XQ (Zl (by show Q (Kd w) s;rw[o];exact q)));refine Zv (YF l Y n (Zv (g _ ?_)));rw[Zn Zc];have p:∀b:Bool,¬((b&&decide (d.size > 1))=B):=λb=>by cases b<;>simp<;>omega
 refine(show KM _ _ (if (!t.plain&&decide (d.size > 1))=B then _ else _) _ _ _ from ?_);rw[Zn (p _)];refine Zv (show KM _ _ (if (!t.led && !d.isEmpty)=B then _ else _) _ _ _ from ?_);rw[Zn (by rw[m];simp)];exact Zl (Zl h)
end ST
end
section
namespace ST
open PySem PySem.Spec PyProof.Rows
def yr{α:Type}{a:Array α}(h:a.size=1):∃x,a=#[x]:=by
 obtain⟨l⟩:=a
 match l,h with
 |[x],_=>exact⟨x,rfl⟩
noncomputable abbrev Gs:Array GenState->Array GenState->Prop:=λa b=>b=a
def jh{prog:Pv}{w:SL}{A:P3}{I a:KB}{r:W4}{j:Array (Int×KF)}{l:Nat}{t:SetTable}{m:W5}(first:Nat->KF)(d:SC->Prop)(y:I∈r)(C:a∈r)(D:a≠I)(x:∀h f:SC,d h->(∀b∈r,b≠I->∀o,h.get? b=Z o->f.get? b=Z o)->d f)(step:∀(i:Nat)(s:FS)(Q:W6->FS->Prop)(E:Xz),i<j.size->s.heap.get? a=Z (qy j l t)->s.heap.get? I=Z (Kr (first i) i a j.size l)->d s.heap →
   (∀v f,m[i]?=Z v->Heap.SameBut I s.heap f->f.get? I=Z (Kr (first (i+1)) (i+1) a j.size l)->Q (Z v) { s with heap:=f })->KM (GM prog w) A (pyNext (.ref I)) Q E s)(stop:∀(s:FS)(Q:W6->FS->Prop)(E:Xz),s.heap.get? a=Z (qy j l t)->s.heap.get? I=Z (Kr (first j.size) j.size a j.size l)->d s.heap →
   (∀f,(∀b o,b≠I->s.heap.get? b=Z o->f.get? b=Z o)->Q L { s with heap:=f })->KM (GM prog w) A (pyNext (.ref I)) Q E s) :
  WalksS prog w A I r [I] Gs j.size (λi v=>m[i]?=Z v) (λi s=>s.heap.get? a=Z (qy j l t)/\s.heap.get? I=Z (Kr (first i) i a j.size l)/\d s.heap) where
 sub:=λb hb=>by rw[Zj.mp hb];exact y
 grefl:=λ_=>rfl
 gtrans:=λ_ _ _ p q=>q.trans p
 frame:=λi s f F st _ kp=>⟨kp a C _ st.1,kp I y _ st.2.1,x _ _ st.2.2 λb hb _ o e=>kp b hb o e⟩
 item:=λi s Q E hi st n=>step i s Q E hi st.1 st.2.1 st.2.2 λv f z u g=>n v _ z ⟨(u.2 a D).trans st.1,g,x _ _ st.2.2 λb _ hb o e=>(u.2 b hb).trans e⟩ ⟨λb o hb e=>(u.2 b λq=>hb (by rw[q];exact Zj.mpr Y)).trans e,rfl,rfl,rfl,Zm _⟩
 done:=λs Q E st n=>stop s Q E st.1 st.2.1 st.2.2 λf kp=>n _ ⟨λb o hb e=>kp b o (λq=>hb (by rw[q];exact Zj.mpr Y)) e,rfl,rfl,rfl,Zm _⟩
 self:=λi s Q E st n=>X4 ⟨_,st.2.1,rfl⟩ uD (Y4 uD ⟨_,st.2.1,rfl⟩ AB (Zl ⟨_,rfl, "set_iterator",_,⟨_,st.2.1,rfl⟩,lT.lookup,n⟩) (zF _))
def Ready(b:Pv)(w:SL)(d:Nat)(a:KB)(e:Array (Int×KF))(I:KB)(s:FS):Prop :=
 ∃(ord:W5)(p:KB),ord.Perm (e.toList.map (·.2))/\d<=I/\d<=p/\∃St:Nat->FS->Prop,(∀A:P3,A.handled=L->WalksS b w A I [I,a,p] [I] Gs e.size (λi v=>ord[i]?=Z v) St)/\St 0 s
def yL{s:FS}(T:Ts w s.heap a ss l N t)(h:∀(I:KB)(p:SC) d,(∀b o,s.heap.get? b=Z o->p.get? b=Z o)->Ready prog w s.heap.objs.size a l I { s with heap:=p,drawn:=d }->I<p.objs.size->Q (.ref I) { s with heap:=p,drawn:=d }) :
  KM (GM prog w) A (pyIter (.ref a)) Q E s:=by
 have H:=T.at_;have G7:=ZW H;have ty:s.TypeIs (.ref a) "set" := ⟨_,H,rfl⟩
 refine X4 ty F.slot_set_iter (Y4 F.slot_set_iter ty zd ?_ (F.args_set_iter_1 _));refine Zv (Zl ?_);refine Zv (Zv (Zv (YF H Y T.tb.fit (Zl (Zl ?_)))));have z:∀(Q:Bool->FS->Prop)(E:Xz),Q (Kd w) s->KM (GM prog w) A.in1 setsByText Q E s:=λQ E q=>Zv (XQ (Zl q));refine Zv (Zv (YF H Y T.tb.fit (Zv (z _ _ (Zl ?_)))));refine(show KM _ _ (if (!Kd w&&(!t.plain&&decide (l.size > 1)))=B then _ else _) _ _ _ from ?_);have fin:∀(first:KF)(m:SC)(d:_),(∀b o,s.heap.get? b=Z o->m.get? b=Z o)->Ready prog w s.heap.objs.size a l m.objs.size { s with heap:=m.push (Kr first 0 a l.size N),drawn:=d } →
   KM (GM prog w) A.in1 (do
    let e ← setEpoch a
    let v ← newFields "set_iterator" [first,rawInt 0,Value.ref a,rawInt l.size,rawInt e]
    ret v) (λf s'=>∃v,f=.done (.ret v)/\∃T' r,s'.TypeIs v T'/\typeLookup (Value.type T') (Str.ofString "__next__")=pure (Z r)/\Q v s') E { s with heap:=m,drawn:=d }:=λfirst m d kp rd=>by
  refine Zv (wpAny_setEpoch_of (kp _ _ H) Y T.tb.fit (Zv (YE (Zl ⟨_,rfl, "set_iterator",_,⟨_,Ze _ Y,rfl⟩,lT.lookup,?_⟩))));exact h m.objs.size _ d (λb o e=>Zo _ (kp b o e)) rd (by rw[Yj];exact Z6 _)
 have Hb:=Zg G7;cases hb:Kd w with
 |true =>
  rw[Zn (by simp)];refine Zv (Zl (fin (rawInt 0) s.heap s.drawn (λb o e=>e) ⟨(pickOrder (w.params.setOrder a N) l).toList.map (·.2),s.heap.objs.size,(kW _ _).map _,Zm _,Zm _,_,λP D =>
   jh (t:=t) (λ_=>rawInt 0) (λ_=>True) (by simp) (by simp) Hb (λ_ _ _ _=>trivial) ?step ?stop,⟨Zo _ H,Ze _ Y,trivial⟩⟩))
  case step =>
   intro i n J M hi m h2 _ q;have hl:(pickOrder (w.params.setOrder a N) l).size=l.size:=by rw[← Z4,(kW _ l).length_eq,Z4]
   refine hV D m T.tb.fit h2 (λQ E C=>tQ hb m T.tb.fit Q E C) (λx nx e p z g=>?_) λe=>?_
   ·rw[Yc (by lia)]at e;cases e;exact q _ p (by rw[ZU,Z8,Yc (by lia)];rfl) z g
   ·rw[Yc (by lia)]at e;cases e
  case stop =>
   intro n J M m h2 _ q;refine hV D m T.tb.fit h2 (λQ E C=>tQ hb m T.tb.fit Q E C) (λx nx e p z g=>?_) λe=>q;rw[Xe (by exact Xu (by rw[← Z4,(kW _ l).length_eq,Z4]))]at e;cases e
 |false =>
  by_cases m:l.size > 1
  ·rw[Zp (by rw[T.tb.pl (by exact Nat.ne_zero_of_lt m)];simp[m])];refine Zv (zz _ _ _ _ (by simp) λq d C=>Zv (YE (fin _ _ d (λb o e=>Zo _ e) ?_) ?_))
   ·have QT:q.length=l.size:=by rw[C.length_eq,Z1]
    have QS:∀j∈q,j<l.size:=λj hj=>YX.mp (C.mem_iff.mp hj);refine⟨q.map λj=>((l[j]?).map (·.2)).getD .none,s.heap.objs.size,?_,by rw[Yj];exact Xm _,Zm _,_,λP D =>
     jh (t:=t) (λ_=>.ref s.heap.objs.size) (λh=>h.get? s.heap.objs.size=Z { cls:=.type "tuple",data:=.seq (q.map λ(k:Nat)=>rawInt k).toArray }) (by simp) (by simp)
      (by rw[Yj];exact Zg (Yo G7)) (λx y e k=>k _ (by simp) (by rw[Yj];exact Zg (Z6 _)) _ e) ?step ?stop,⟨Zo _ (Zo _ H),Ze _ Y,Zo _ (Ze _ Y)⟩⟩
    case step =>
     intro i n J M hi u G g3 X;refine nW D u T.tb.fit G g3 Y (λj x e1 e2 p z g=>X _ p ?_ z g) (λj e=>QS j (Yf e)) λe=>?_
     ·rw[ZU,e1];simp[e2]
     ·rw[Zq (by lia)]at e;cases e
    case stop =>
     intro n J M u G g3 X;refine nW D u T.tb.fit G g3 Y (λj x e1 e2 p z g=>?_) (λj e=>QS j (Yf e)) λe=>X;rw[ZI (by exact Xu QT)]at e1;cases e1
    refine(C.map _).trans (List.Perm.of_eq ?_);apply Wg;intro i;rw[ZU,ZU];by_cases hi:i<l.size
    ·rw[List.getElem?_range hi,Z8,Yc hi];simp[hi]
    ·rw[ZI (by rw[Z1];exact ZP hi),Z8,Xe (by exact ZP hi)];rfl
   ·show _<=IR;have QT:q.length=l.size:=by rw[C.length_eq,Z1]
    have:=X6 T.GB;simp;lia
  ·rw[Zn (by simp[m])];have Tf:t.place.size=l.size:=by
    have:=T.tb.fit;unfold SetTable.fits at this;simp at this;exact this.1
   have O7:∀(i R:Nat)(n:FS),n.heap.get? a=Z (qy l N t)->∀(P:P3)(Q:Option (KF×Nat)->FS->Prop)(E:Xz),Q (match l[SetTable.below t.place R]?,t.place[SetTable.below t.place R]? with | some (_,x),some j=>some (x,j+1) | _,_=>none) n →
     KM (GM prog w) P (setNext a R i N) Q E n:=λi R n g P Q E C=>xW hb g T.tb.fit (by rw[T.tb.led,hb];rfl) (by exact ZP m) Q E C
   by_cases h0:l.size=0
   ·refine Zv (Zl (fin (rawInt 0) s.heap s.drawn (λb o e=>e) ⟨[],s.heap.objs.size,by rw[(Array.eq_empty_of_size_eq_zero h0)];exact YQ _,Zm _,Zm _,_,λP D =>
     jh (t:=t) (λ_=>rawInt 0) (λ_=>True) (by simp) (by simp) Hb (λ_ _ _ _=>trivial) ?step ?stop,⟨Zo _ H,Ze _ Y,trivial⟩⟩))
    case step=>exact λi n J M hi=>absurd hi (by lia)
    case stop =>
     intro n J M u G _ q;refine hV D u T.tb.fit G (O7 l.size 0 n u _) (λx nx e p z g=>?_) λe=>q;rw[Xe (by lia)]at e;cases e
   ·have U:l.size=1:=by lia
    obtain⟨x0,L6⟩:∃x,l=#[x]:=yr U;obtain⟨j0,S⟩:∃j,t.place=#[j]:=yr (by exact Eq.trans Tf U);have b0:SetTable.below t.place 0=0:=by rw[S];simp[SetTable.below,SetTable.below.go]
    have b1:SetTable.below t.place (j0+1)=1:=by rw[S];simp[SetTable.below,SetTable.below.go]
    refine Zv (Zl (fin (rawInt 0) s.heap s.drawn (λb o e=>e) ⟨[x0.2],s.heap.objs.size,by rw[L6];exact YQ _,Zm _,Zm _,_,λP D =>
     jh (t:=t) (λi=>.int ((if i=0 then 0 else j0+1:Nat):Int) 0) (λ_=>True) (by simp) (by simp) Hb (λ_ _ _ _=>trivial) ?step ?stop,⟨Zo _ H,Ze _ Y,trivial⟩⟩))
    case step =>
     intro i n J M hi u G _ q;have TL:i=0:=by lia
     subst TL;refine hV D u T.tb.fit G (O7 0 0 n u _) (λx nx e p z g=>?_) λe=>?_
     ·rw[b0,L6,S]at e;cases e;exact q x0.2 p Y z g
     ·rw[b0,L6,S]at e;cases e
    case stop =>
     intro n J M u G _ q;rw[U]at G;refine hV D u T.tb.fit (by rw[U];exact G) (O7 1 (j0+1) n u _) (λx nx e p z g=>?_) λe=>q;rw[b1,Xe (by exact ZP m)]at e;cases e
def v7{s:FS}(d:s.TypeIs (.ref a) "set")(h:Q O s):KM (GM prog w) A (Builtin.List.listLengthHint (.ref a)) Q E s:=by
 refine Zv (wpAny_specialOf d PySem.F.slot_set_len.lookup ?_);generalize f:("set.__len__" : String)=nm
 wp_delta
 rw[show splitId nm=Z ("set", "__len__") from by subst f;decide +kernel];subst f;exact Zv (wpAny_isInstance (T := "set") (b:=B) d sub_set_self (wpAny_ite_split (λe=>absurd e (by decide)) λ_=>wpAny_ite_split (λ_=>Zv (wpAny_typeOf d (Zl h))) λe=>absurd (by decide +kernel) e))
def zq{A:P3}{s:FS}(hh:A.handled=L)(T:Ts w s.heap a C n S t)(h:∀(P:SC) d (tk:Nat) (z:W5),(∀b o,s.heap.get? b=Z o->P.get? b=Z o)->(∀v∈z,∃x u,v=Value.str x u)->(z.map strOf).Perm C->R z { s with heap:=P,drawn:=d,toks:=tk }) :
  KM (GM prog w) A (collect (.ref a)) R E s:=by
 have M:=T.at_;have G7:=ZW M;have hz:=X6 T.GB;refine Zv (wpAny_runValue (Xd entry_proto_collect' ?_));rw[Xr PySem.F.plain_proto_collect];refine Zv (YE (Zl ⟨plainId_quiet PySem.F.plain_list_iadd _,Xd entry_list_iadd' ?_⟩));rw[Xr PySem.F.plain_list_iadd];refine(show KM _ A.in1 (Builtin.List.listExtendWith (.ref s.heap.objs.size) (.ref a) (.ref s.heap.objs.size)) _ _ _ from ?_);have G:Ts w (s.heap.push { cls:=.type "list",data:=.seq ([]).toArray }) a C n S t:=⟨Zo _ M,T.tb,T.Kc,T.pm,T.nd,T.GB⟩
 refine Zv (wpAny_typeOf (⟨_,G.at_,rfl⟩) ?_);rw[Zn (by
  have:Builtin.List.listSameRef (.ref s.heap.objs.size) (.ref a)=O:=by simp[Builtin.List.listSameRef];exact Xi G7
  rw[this];decide)]
 refine Zv (yL G λI h1 d kp rd hI=>?_);obtain⟨ord,p,H,T6,To,St,W,st⟩:=rd;refine Zv (YB (v7 (⟨_,kp _ _ G.at_,rfl⟩) ?_));have Rk:=ZS (by rw[Yj];exact Z6 _) T6;have off:s.heap.objs.size∉[I,a,p]:=by
  simp only[Zk,X1,or_false,not_or];exact⟨Zg Rk,Xi G7,Zg (ZS (by rw[Yj];exact Z6 _) To)⟩
 have X:=W A.in1 hh;have loop:∀(g:SC)(c:Nat),(∀b o,b≠s.heap.objs.size->h1.get? b=Z o->g.get? b=Z o)->g.get? s.heap.objs.size=Z { cls:=.type "list",data:=.seq #[] c } →
   codeAny (GM prog w) A (.builtin "list.extend.loop" ⟨[.ref s.heap.objs.size,.ref I,.ref s.heap.objs.size],[]⟩) (λr f=>∃acc y,r=.ok (.ret (.ref s.heap.objs.size))/\f.heap.get? s.heap.objs.size=Z { cls:=.type "list",data:=.seq acc y }/\R acc.toList f) { s with heap:=g,drawn:=d }:=λg c m j=>by
  refine codeAny_extend_loopS X hz s.heap.objs.size off _ n.size 0 _ #[] c Y (Yw _) (X.frame 0 _ g s.toks st (Zm _) λb hb o e=>m b o (λq=>off (q ▸ hb)) e) j (ItemsOf.nil _) λf acc y l D N=>⟨acc,y,rfl,D,?_⟩
  obtain⟨h3,g3,U,Sj,Va⟩:=f;have e1:=l.gens;have e2:U=d:=l.drawn;have e3:=l.os;subst e1 e2 e3;have Na:acc.toList=ord:=by
   apply Wg;intro i;rw[Z8];cases e:acc[i]? with
   |some v=>exact(N.2 i v e).symm
   |none =>
    have h5:ord.length=n.size:=by rw[H.length_eq];simp
    exact(ZI (by rw[h5,← N.1];exact(Array.getElem?_eq_none_iff.mp e))).symm
  refine h h3 U Sj acc.toList (λb o e=>?_) (λv J=>?_) ?_
  ·have hb:=ZW e;refine l.heap b o (λHx=>?_) (m b o (Zg hb) (kp b o (Zo _ e)));simp only[Zk,X1,or_false]at Hx;rcases Hx with q | q
   ·exact Zg hb q
   ·exact Zg (Wk hb Rk) q
  ·rw[Na]at J;obtain⟨e,he,rfl⟩:=Z0.mp (H.mem_iff.mp J);obtain⟨x,u,rfl⟩:=T.Kc e he;exact⟨x,u,rfl⟩
  ·rw[Na];refine(H.map strOf).trans (List.Perm.trans (List.Perm.of_eq ?_) T.pm);rw[ZF];rfl
 have Q:=kp _ _ (Ze _ Y);rw[Zp (by decide)];have j:=Yx (Obj.mapSeq (·.push Value.none)) Q Y;refine Zv (wpAny_rule (Zv ?_));refine(?_);refine Zv (wpAny_updateSeq Q Y (wpAny_updateSeq j Y (Zl ⟨plainId_quiet PySem.F.plain_extend_loop _,(λg c m j =>
  XU (loop g c m j) (R':=λr f=>match r with | .ok (.ret v)=>KM (GM prog w) A (match v with | .ref a=>load a >>= λo=>(match o.data with | .seq xs _=>pure xs.toList | _=>unsupported "internal:collect") | _=>unsupported "internal:collect") R E f | .ok _=>False | .error e=>E e f) λr f hq=>by
   obtain⟨acc,y,e,D,q⟩:=hq;subst e;exact Zv (wpAny_load D (Zl q))) _ _ (λb o hb e=>?_) (Yx (Obj.mapSeq (·.pop)) j Y)⟩)))
 exact(Yh _ _ (Ya hb)).trans ((Yh _ _ (Ya hb)).trans e)
end ST
end
section
namespace L2
open PySem PySem.Spec PyProof.Rows TS
section
noncomputable def zV(w:SL)(a:KB)(d:List Str):HO:=.ext λ_ h=>∃b e f t,ST.Ts w h a b e f t/\∀y,y∈b↔y∈d
def Inv.drew(I:Inv X a J H s)(d:Drawn):Inv X a J H { s with drawn:=d } :=
 ⟨I.ok,I.os,I.bare,I.base,I.loc,I.cell,I.free,I.GI,I.pin,I.oe,I.len⟩
def vC{X:Cx}(y:X.calm=B):cB X (.type "set") (λd H Q=>∃p,∃b:List Str,d=[.ref p]/\FT X.K H p (b.map V.str)/\b.length+1<scanBound/\∀l,H l=L->Q (.ref l) (upd H l (zV X.w l b))):=by
 intro f s J H d R Q I g h;refine L2.ar λP_ m=>?_;obtain⟨p,b,rfl,o,hb,q⟩:=h;obtain⟨u,rfl,j⟩:=g.one;cases j;obtain⟨cv,e,pl,U⟩:=I.list o;obtain⟨n,A⟩:=qZ e;refine m ?_;refine ST.xQ (I.ok.hd y) pl.isList (λi v hi=>?_) (by simpa using(by have:=e.length;simpa using this.symm)) hb λz S P N C t T r kp=>?_
 ·rw[List.getElem?_toArray]at hi;obtain⟨x,t,rfl⟩:=n v (Yf hi);refine⟨x,t,rfl,?_⟩;rw[← A,ZU,hi];rfl
 ·refine⟨.ref s.heap.objs.size,_,I.laid kp (Zm _) (show c9 X.prog X.w _ z _ (zV X.w s.heap.objs.size b) from⟨⟨P,N,C,t,T,r⟩,⟨_,T.at_⟩,λh1 Y ⟨M,G,F,E,a,D⟩ k=>⟨M,G,F,E,⟨k _ a.at_,a.tb,a.Kc,a.pm,a.nd,a.GB⟩,D⟩⟩),rfl,q _ (I.oe.fresh (Zm _))⟩
end
end L2
namespace VS
open PySem PySem.Spec PyProof.Rows L2
section
theorem h9:∀(l:List Tx)(x:Tx),x∈dedup l↔x∈l
 |[],x=>by simp[dedup]
 |a :: l,x=>by
  simp only[dedup,Zk,XS,h9 l x,ne_eq,decide_not,Bool.not_eq_eq_eq_not,Bool.not_true,decide_eq_false_iff_not];by_cases h:x=a
  ·simp[h]
  ·simp[h]
theorem iL:∀(l:List Tx),(dedup l).Nodup
 |[]=>by simp[dedup]
 |a :: l=>by
  simp only[dedup,ZX];exact⟨by simp,(iL l).filter _⟩
def CA:bootBuiltins ("set" : Str)=Z (.type "set"):=by decide +kernel
def Eu{a b:Tx}(h:sx a=sx b):a=b:=by
 have:=congrArg (λs:Str=>s.cps.toList) h;simpa[sx] using this
end
inductive Hf(G:Gx)(H:Hp):List Ky->V->V->Prop
 |nil (v:V):Hf G H [] v v
 |fld {c k:Nat} {a dx:KB} {fs:List (Str×V)} {u w:V} {ks:List Ky}:H a=some (.ins (G.ct (c+1)).1 dx fs)->fs.lookup ((G.ct (c+1)).2 k)=some u->Hf G H ks u w->Hf G H (.fld k :: ks) (.ref a) w
 |ix {a:KB} {vs:List V} {i:Int} {j:Nat} {u w:V} {ks:List Ky}:H a=some (.lst vs)->G8 vs.length i=some j->vs[j]?=some u->Hf G H ks u w->Hf G H (.at (.int i) :: ks) (.ref a) w
 |key {a:KB} {cg:List (Key×V)} {k:Key} {u w:V} {ks:List Ky}:H a=some (.dK cg)->gu cg k=some u->Hf G H ks u w->Hf G H (.at (aT k) :: ks) (.ref a) w
 |un {v w:V} {ks:List Ky}:Hf G H ks v w->Hf G H (.un :: ks) v w
section
def uc{f:Wm}{i j:Nat}{F h:W4}(d:f.flatten.Nodup)(b:f[i]?=Z F)(e:f[j]?=Z h)(n:i≠j){a:KB}(g:a∈F):a∉h:=by
 intro hb
 induction f generalizing i j with
 |nil=>simp at b
 |cons G Gs l =>
  rw[ZR,ZL]at d;cases i with
  |zero =>
   simp at b;subst b;cases j with
   |zero=>exact n Y
   |succ j=>exact d.2.2 a g a (dc (by simpa using e) hb) Y
  |succ i =>
   cases j with
   |zero =>
    simp at e;subst e;exact d.2.2 a hb a (dc (by simpa using b) g) Y
   |succ j=>exact l d.2.1 (by simpa using b) (by simpa using e) (by lia)
def cF{d:Wm}(h:a∈(d.set j g).flatten):a∈g\/∃i F,i≠j/\d[i]?=Z F/\a∈F:=by
 obtain⟨i,F,b,f⟩:=gr h;by_cases e:i=j
 ·subst e;rw[List.getElem?_set_self' ]at b;cases q:d[i]? with
  |none=>rw[q]at b;cases b
  |some _=>rw[q]at b;cases b;exact .inl f
 ·rw[YI (Ya e)]at b;exact .inr ⟨i,F,e,b,f⟩
theorem dJ:∀{p:Wm}{j:Nat}{f:W4},p.flatten.Nodup->f.Nodup->(∀i F,i≠j->p[i]?=Z F->∀a∈F,a∉f)->(p.set j f).flatten.Nodup
 |[],_,_,h,_,_=>by simpa using h
 |G :: Gs,0,f,h,o,d=>by
  rw[ZR,ZL]at h;rw[List.set_cons_zero,ZR,ZL];refine⟨o,h.2.1,λa g b hb e=>?_⟩;subst e;obtain⟨i,F,m,l⟩:=gr hb;exact d (i+1) F (by lia) (by simpa using m) a l g
 |G :: Gs,j+1,f,h,o,d=>by
  rw[ZR,ZL]at h;rw[List.set_cons_succ,ZR,ZL];refine⟨h.1,dJ h.2.1 o λi F n hi=>d (i+1) F (by lia) (by simpa using hi),λa g b hb e=>?_⟩;subst e;rcases cF hb with z | ⟨i,F,n,m,l⟩
  ·exact d 0 G (by lia) Y a g z
  ·exact h.2.2 a g a (dc m l) Y
def RpL.each:∀{f:List V}{e:Vw}{g:Wm},RpL G H f e g->(∀(i:Nat) v t F,f[i]?=Z v->e[i]?=Z t->g[i]?=Z F->Rp G H v t F->Rp G h v t F)->RpL G h f e g:=by
 intro f e
 induction e generalizing f with
 |nil=>intro g r k;cases r;exact .nil
 |cons t e j =>
  intro g r k;cases r with
  |cons r q=>exact .cons (k 0 _ _ _ Y Y Y r) (j q λi v t F a b c d=>k (i+1) v t F a b c d)
theorem RpL.setAt:∀{e:List V}{f:Vw}{m:Wm}{j:Nat}{u:V}{o:T}{p:W4},RpL G H e f m->e[j]?=Z u->Rp G l u o p->(∀(i:Nat) v t F,i≠j->e[i]?=Z v->f[i]?=Z t->m[i]?=Z F->Rp G H v t F->Rp G l v t F)->RpL G l e (f.set j o) (m.set j p)
 |_,_,_,_,_,_,_,.nil,h,_,_=>by simp at h
 |_,_,_,0,_,_,_,.cons r q,h,g,k=>by
  simp at h;subst h;exact .cons g (RpL.each q λi v t F a b c d=>k (i+1) v t F (by lia) (by simpa using a) (by simpa using b) (by simpa using c) d)
 |_,_,_,j+1,_,_,_,.cons r q,h,g,k=>.cons (k 0 _ _ _ (by lia) Y Y Y r) (RpL.setAt q (by simpa using h) g λi v t F n a b c d=>k (i+1) v t F (by lia) (by simpa using a) (by simpa using b) (by simpa using c) d)
def oT(J:H a=Z o)(E:RpL G H s D d)(e:(a :: d.flatten).Nodup)(M:s[j]?=Z u)(y:d[j]?=Z A)(g:Chg G H u A C q m):q a=Z o/\RpL G q s (D.set j C) (d.set j m)/\(a :: (d.set j m).flatten).Nodup/\(∀b∈a :: (d.set j m).flatten,b∈a :: d.flatten\/H b=L)/\∀b o,b∉a :: d.flatten->H b=Z o->q b=Z o:=by
 rw[ZX]at e;have p:∀b∈A,b∈d.flatten:=λb hb=>dc y hb;refine⟨g.keep a o (λz=>e.1 (p a z)) J,E.setAt M g.rp (λi v t F n l f N r=>r.keep g.kept λb hb w x=>g.keep b w (uc e.2 N y n hb) x),?_,λb hb=>?_,λb w hb x=>g.keep b w (λz=>hb (Zx _ (p b z))) x⟩
 ·rw[ZX];refine⟨λh=>?_,dJ e.2 g.nd (λi F n hi b hb P=>by
  rcases g.sub b P with z | z
  ·exact uc e.2 hi y n hb z
  ·exact FR.lp (E.Ge b (dc hi hb)) z)⟩
  rcases cF h with z | ⟨i,F,n,l,f⟩
  ·rcases g.sub a z with z | z
   ·exact e.1 (p a z)
   ·rw[J]at z;cases z
  ·exact e.1 (dc l f)
 ·rcases Zk.mp hb with rfl | hb
  ·exact .inl Zw
  ·rcases cF hb with z | ⟨i,F,n,l,f⟩
   ·rcases g.sub b z with z | z
    ·exact .inl (Zx _ (p b z))
    ·exact .inr z
   ·exact .inl (Zx _ (dc l f))
theorem pK{α β:Type}:∀(d:List α)(bs:List β)(i:Nat)(a:α)(y:β),d[i]?=Z a->(d.zip bs).set i (a,y)=d.zip (bs.set i y)
 |[],_,_,_,_,h=>by simp at h
 |a :: d,[],i,_,_,_=>by cases i<;>simp
 |a :: d,b :: bs,0,_,y,h=>by simp at h;subst h;rfl
 |a :: d,b :: bs,i+1,_,y,h=>by
  have:=pK d bs i _ y (by simpa using h);simp[this]
theorem jR{α β:Type}(p:α->Bool):∀{e:List α}{bs:List β}{i:Nat},e.length=bs.length->(e.zip bs).findIdx? (λq=>p q.1)=Z i->∃a b,e[i]?=Z a/\bs[i]?=Z b/\p a=B/\(e.zip bs).find? (λq=>p q.1)=Z (a,b)
 |[],[],_,_,h=>by simp at h
 |a :: e,b :: bs,i,g,h=>by
  rw[ZV,Wp]at h;by_cases d:p a=B
  ·rw[Zp d]at h;cases h;exact⟨a,b,rfl,rfl,d,by simp[d]⟩
  ·rw[Zn d]at h;refine L2.ar λu f=>?_;obtain⟨j,l,rfl⟩:=Zu.mp h;obtain⟨t,s,r,o,n,m⟩:=jR p (by simpa using g) l;refine f ?_;exact⟨t,s,by simpa using r,by simpa using o,n,by simp[d,m]⟩
def ke(k a:Key):eqT (aT a) (aT k)=B↔a=k:=by
 cases k with
 |inl i=>cases a<;>simp[aT]
 |inr x =>
  obtain⟨⟨x⟩⟩:=x;cases a with
  |inl j=>simp[aT]
  |inr y=>obtain⟨⟨y⟩⟩:=y;simp[aT]
theorem um:∀{ns:List Key}{d:Vw}{a:List V}{i:Nat},ns.length=d.length->ns.length=a.length->((ns.map aT).zip d).findIdx? (λq=>eqT q.1 (aT k))=Z i->a[i]?=Z u->gu (ns.zip a) k=Z u
 |[],_,_,_,_,_,h,_=>by simp at h
 |n :: ns,t :: d,v :: a,i,m,l,h,e=>by
  rw[Zi,ZV,Wp]at h;by_cases b:eqT (aT n) (aT k)=B
  ·rw[Zp b]at h;cases h;simp at e;subst e;exact iK ((ke k n).mp b)
  ·rw[Zn b]at h;obtain⟨j,g,rfl⟩:=Zu.mp h;have f:n≠k:=λz=>b ((ke k n).mpr z);have:gu ((n :: ns).zip (v :: a)) k=gu (ns.zip a) k:=by simp[gu,f]
   rw[this];exact um (by simpa using m) (by simpa using l) g (by simpa using e)
 |_ :: _,[],_,_,h,_,_,_=>by simp at h
 |_ :: _,_ :: _,[],_,_,h,_,_=>by simp at h
def dW(r:Rp G H v (.obj (c+1) (h :: i)) F):∃(f:Nat)(a l:KB)(b:Bool)(e:W7)(d:List V)(g:Vw)(j:Wm),c+1=f+1/\v=.ref a/\h=(0,.bl b)/\i=e.zip g/\F=a :: j.flatten ∧
  H a=Z (.ins (G.ct (f+1)).1 l ((e.map (G.ct (f+1)).2).zip d))/\e.length=d.length/\(b=B->G.me 0=Z (.ref a))/\RpL G H d g j:=r.inv
def Du(r:Rp G H v (.obj 0 [(0,.bl B),(m,t)]) F):∃a,v=.ref a/\G.me m=Z (.ref a)/\Rp G H (.ref a) t F:=r.inv _ _ Y
def q9{G:Gx}{c a:Nat}(h:∀c k m:Nat,(G.ct c).2 k=(G.ct c).2 m->k=m){e:W7}{d:List V}{f:Vw}{u:V}{i:Nat}(n:e.length=d.length)(b:(e.zip f).findIdx? (λq=>q.1==a)=Z i)(o:e[i]?=Z a)(g:d[i]?=Z u):((e.map (G.ct c).2).zip d).lookup ((G.ct c).2 a)=Z u:=by
 induction e generalizing d f i with
 |nil=>simp at o
 |cons l v p =>
  cases d with
  |nil=>simp at n
  |cons t bs =>
   cases f with
   |nil=>simp at b
   |cons s f =>
    rw[Zi,ZV,Yq];rw[ZV,Wp]at b;by_cases q:(l==a)=B
    ·rw[Zp q]at b;cases b;have:l=a:=by simpa using q
     subst this;simp at g;simp[g]
    ·rw[Zn q]at b;obtain⟨j,r,rfl⟩:=Zu.mp b;have:((G.ct c).2 a==(G.ct c).2 l)=O:=by
      rw[ZO];intro z;exact q (by simpa using(h c _ _ z).symm)
     rw[this];exact p (by simpa using n) r (by simpa using o) (by simpa using g)
def Eb{α:Type}{f:T->Option (T×α)}{y:α}(e:pm f (.un :: d) t=Z (a,y)):∃m x z,t=.obj 0 [(0,.bl B),(m,x)]/\pm f d x=Z (z,y)/\a=.obj 0 [(0,.bl B),(m,z)]:=by
 cases t with
 |obj c fs =>
  cases c with
  |succ c=>cases e
  |zero =>
   cases fs with
   |nil=>cases e
   |cons q fs =>
    obtain⟨n,v⟩:=q;cases n with
    |succ n=>cases e
    |zero =>
     cases v with
     |bl b =>
      cases b with
      |false=>cases e
      |true =>
       cases fs with
       |nil=>cases e
       |cons g fs =>
        obtain⟨m,x⟩:=g;cases fs with
        |cons _ _=>cases e
        |nil =>
         obtain⟨⟨z,h⟩,e1,e2⟩:=Zu.mp e;cases e2;exact⟨_,_,_,rfl,e1,rfl⟩
     |_=>cases e
 |_=>cases e
noncomputable abbrev PmC(G:Gx)(H:Hp){α:Type}(f:T->Option (T×α))(g:List Ky)(v:V)(e:T)(F:W4)(y:α):Prop:=∃w x a b,Hf G H g v w/\Rp G H w x a/\a.Nodup/\f x=Z (b,y)/\∀d h,Chg G H w a b d h->∃i,Chg G H v F e d i
def mK{G:Gx}{α:Type}{f:T->Option (T×α)}:∀(ks:List Ky){v:V}{t t':T}{F:W4}{y:α},(∀c k k':Nat,(G.ct c).2 k=(G.ct c).2 k'->k=k')->Rp G H v t F->F.Nodup->pm f ks t=Z (t',y) →
  PmC G H f ks v t' F y:=by
 intro ks
 induction ks with
 |nil=>intro v t t' F y _ r nd e;exact⟨v,t,F,t',.nil v,r,nd,e,λJ o g=>⟨o,g⟩⟩
 |cons ky ks ih =>
 intro v t t' F y inj r nd e;cases ky with
 |fld k =>
  cases t with
  |obj c Ru =>
   cases c with
   |zero=>cases e
   |succ c =>
   cases Ru with
   |nil=>cases e
   |cons q0 fs =>
   refine L2.ar λP_ U=>?_;obtain⟨i,h1,e⟩:=Zz.mp e;obtain⟨p,Y,e⟩:=Zz.mp e;obtain⟨⟨z,y'⟩,e1,e2⟩:=Zu.mp e;cases e2;obtain⟨c',a,dx,b,ns,vs,ts,Fs,ec,rfl,rfl,rfl,rfl,E,X,hb,d⟩:=dW r;cases ec;obtain⟨D,q,g1,g2,g3,g4⟩:=jR (λn=>n==k) (X.trans d.len.1) h1;have ek:D=k:=by simpa using g3
   subst ek;have ep:p=(D,q):=by
    have:(ns.zip ts)[i]?=Z (D,q):=by rw[YM];exact⟨g1,g2⟩
    rw[this]at Y;exact(Zh Y).symm
   subst ep;obtain⟨u,Fi,C,A,u3⟩:=d.get i g2;obtain⟨w,x,F1,M,S,R,Q,P,N⟩:=ih inj u3 (((ZX.mp nd).2).sublist (du A)) e1;refine U ?_;refine⟨w,x,F1,M,.fld (c:=c) E (q9 inj X h1 g1 C) S,R,Q,P,λJ o g=>?_⟩;obtain⟨R7,h⟩:=N J o g;obtain⟨s1,s2,s3,s4,s5⟩:=oT E d nd C A h;refine⟨_,h.kept,s5,h.Ge,?_,s3,s4⟩;rw[pK ns ts i D z g1];exact .ins s1 X hb s2
  |_=>cases e
 |un =>
  refine L2.ar λP_ U=>?_;obtain⟨m,x,z,rfl,e1,rfl⟩:=Eb e;obtain⟨a,rfl,hm,rx⟩:=Du r;obtain⟨w,q,F1,M,S,R,Q,P,N⟩:=ih inj rx nd e1;refine U ?_;refine⟨w,q,F1,M,.un S,R,Q,P,λJ o g=>?_⟩;obtain⟨F',g'⟩:=N J o g;exact⟨F',g'.kept,g'.keep,g'.Ge,.mk hm g'.rp,g'.nd,g'.sub⟩
 | «at» k =>
  cases t with
  |lst l =>
   cases k with
   |int i =>
    refine L2.ar λP_ U=>?_;obtain⟨j,h1,e⟩:=Zz.mp e;obtain⟨q,Y,e⟩:=Zz.mp e;obtain⟨⟨z,y'⟩,e1,e2⟩:=Zu.mp e;cases e2;obtain⟨a,vs,Fs,rfl,rfl,E,d⟩:=r.lst_inv;obtain⟨u,Fi,C,A,u3⟩:=d.get j Y;obtain⟨w,x,F1,M,S,R,Q,P,N⟩:=ih inj u3 (((ZX.mp nd).2).sublist (du A)) e1;refine U ?_;refine⟨w,x,F1,M,.ix E (by rw[d.len.1];exact h1) C S,R,Q,P,λJ o g=>?_⟩;obtain⟨R7,h⟩:=N J o g;obtain⟨s1,s2,s3,s4,s5⟩:=oT E d nd C A h;exact⟨_,h.kept,s5,h.Ge,.lst s1 s2,s3,s4⟩
   |_=>cases e
  |dct kd l =>
   cases kd with
   |zero =>
    have hk:jB k=B/\((l.findIdx? λp=>eqT p.1 k).bind λi=>(l[i]?).bind λp=>(pm f ks p.2).map λz=>(T.dct 0 (l.set i (p.1,z.1)),z.2))=Z (t',y):=by
     cases k with
     |int i=>exact⟨rfl,e⟩
     |str s=>exact⟨rfl,e⟩
     |_=>cases e
    obtain⟨hk,e⟩:=hk;obtain⟨i,h1,e⟩:=Zz.mp e;obtain⟨p,Y,e⟩:=Zz.mp e;obtain⟨⟨z,y'⟩,e1,e2⟩:=Zu.mp e;cases e2;obtain⟨a,ns,vs,ts,Fs,rfl,rfl,E,X,rfl,d⟩:=eV r;have Li:(ns.map aT).length=ts.length:=by rw[Zy];exact X.trans d.len.1
    obtain⟨D,q,g1,g2,g3,g4⟩:=jR (λn=>eqT n k) Li h1;have ep:p=(D,q):=by
     have:((ns.map aT).zip ts)[i]?=Z (D,q):=by rw[YM];exact⟨g1,g2⟩
     rw[this]at Y;exact(Zh Y).symm
    subst ep;obtain⟨kk,Kw⟩:∃kk:Key,k=aT kk:=by
     cases k with
     |int i=>exact⟨.inl i,rfl⟩
     |str s=>exact⟨.inr (sx s),by simp[aT,sx]⟩
     |_=>cases hk
    refine L2.ar λP_ U=>?_;subst Kw;obtain⟨u,Fi,C,A,u3⟩:=d.get i g2;obtain⟨w,x,F1,M,S,R,Q,P,N⟩:=ih inj u3 (((ZX.mp nd).2).sublist (du A)) e1;refine U ?_;refine⟨w,x,F1,M,.key E ?_ S,R,Q,P,λJ o g=>?_⟩
    ·exact um (by simpa using Li) X h1 C
    ·obtain⟨R7,h⟩:=N J o g;obtain⟨s1,s2,s3,s4,s5⟩:=oT E d nd C A h;refine⟨_,h.kept,s5,h.Ge,?_,s3,s4⟩;rw[pK (ns.map aT) ts i D z g1];exact .dct s1 X s2
   |succ kd=>cases e
  |_=>cases e
end
section
def Hf.same{H:Hp}(e:aJ H d)(p:Hf G H b v w):Hf G d b v w:=by
 induction p with
 |nil v=>exact .nil v
 |fld h l _ a=>exact .fld (e _ _ h) l a
 |ix h l m _ a=>exact .ix (e _ _ h) l m a
 |key h l _ a=>exact .key (e _ _ h) l a
 |un _ a=>exact .un a
theorem Hf.split:∀{d:List Ky}{v:V},Hf G H (d++[k]) v w->∃u,Hf G H d v u/\Hf G H [k] u w
 |[],v,p=>⟨v,.nil v,p⟩
 |_ :: d,_,.fld h l p=>let ⟨u,a,b⟩:=Hf.split p;⟨u,.fld h l a,b⟩
 |_ :: d,_,.ix h l m p=>let ⟨u,a,b⟩:=Hf.split p;⟨u,.ix h l m a,b⟩
 |_ :: d,_,.key h l p=>let ⟨u,a,b⟩:=Hf.split p;⟨u,.key h l a,b⟩
 |_ :: d,_,.un p=>let ⟨u,a,b⟩:=Hf.split p;⟨u,.un a,b⟩
theorem g7:∀{way:List Ip}{j:List Ky},keys (way++[s]) U=Z j->∃f k,keys way U=Z f/\keys [s] U=Z [k]/\j=f++[k]
 |[],j,e=>by
  cases s with
  |fld k=>cases e;exact⟨[],.fld k,rfl,rfl,rfl⟩
  |un=>cases e;exact⟨[],.un,rfl,rfl,rfl⟩
  |ix c =>
   obtain⟨x,i,g⟩:=Zz.mp (e);cases g;exact⟨[],.at x.2,rfl,by show ((_:Option _).bind _)=_;rw[i];rfl,rfl⟩
 |.fld k :: way,j,e=>by
  refine L2.ar λo l=>?_;obtain⟨n,i,g⟩:=Zu.mp (e);obtain⟨f,m,a,b,c⟩:=g7 i;refine l ?_;exact⟨.fld k :: f,m,by show ((keys _ _).map _)=_;rw[a];rfl,b,by rw[← g,c];rfl⟩
 |.un :: way,j,e=>by
  refine L2.ar λo l=>?_;obtain⟨n,i,g⟩:=Zu.mp (e);obtain⟨f,m,a,b,c⟩:=g7 i;refine l ?_;exact⟨.un :: f,m,by show ((keys _ _).map _)=_;rw[a];rfl,b,by rw[← g,c];rfl⟩
 |.ix c :: way,j,e=>by
  refine L2.ar λo l=>?_;obtain⟨x,p,h⟩:=Zz.mp (e);obtain⟨n,i,g⟩:=Zu.mp h;obtain⟨f,m,a,b,d⟩:=g7 i;refine l ?_;exact⟨.at x.2 :: f,m,by show ((_:Option _).bind _)=_;rw[p];rw[a];rfl,b,by rw[← g,d];rfl⟩
def NA(G:Gx)(i:Nat)(a:List Ip):TE:=λJ H Q=>∃M U t b v w,SR G M U J H/\U[i]?=Z (Z (.ow t))/\J[i]?=Z (Z v)/\keys a U=Z b/\Hf G H b v w/\∀d,aJ H d->Q w d
def II(G:Gx)(X:Cx)(e:Expr)(i:Nat)(a:List Ip):Prop:=PE X e (NA G i a)
def PE.Jv(h:PE X e t)(w:∀J H Q,NA G i a J H Q->t J H Q):II G X e i a:=λb s J H Q I q=>h b s J H Q I (w J H Q q)
def bL{X:Cx}(i:Nat)(h:{`q8,X.N[i]?=Z x})(d:Iw X.env.scope x:=by exact .inl Y)(g:{`q8,K3 x})(a:{`q8,K4 x}):II G X (.Name x pos) i [] :=
 PE.Jv (fZ h d g a) λJ H Q f=>by
  obtain⟨M,U,t,o,v,w,s,p,n,m,l,j⟩:=f;cases (m);cases l;exact⟨v,n,j H (aJ.refl _)⟩
structure GT(G:Gx)(K:W0)(k:Nat)(f:Str):Prop where
 nm:∀c,(G.ct (c+1)).2 k=f
 cl:∀c,G6 K (G.ct (c+1)).1
 no:∀c,aS K (G.ct (c+1)).1 f
def fo{X:Cx}(k:Nat)(F:GT G X.K k f)(h:II G X e i way)(n:{`q8,SZ e f X.env (eval e X.env)=eval e X.env}):II G X (.Attribute e f pos) i (way++[.fld k]) :=
 PE.Jv (we h n) λJ H Q m=>by
  refine L2.ar λR l=>?_;obtain⟨M,U,t,N,v,w,s,z,y,x,r,p⟩:=m;obtain⟨C,P,a,b,rfl⟩:=g7 x;cases (b);obtain⟨u,p1,j⟩:=r.split;refine l ?_;refine⟨M,U,t,C,v,u,s,z,y,a,p1,λD d=>?_⟩;cases j with
  |@fld c _ a A fs E _ _ o g q =>
   cases q;rw[F.nm c]at g;exact⟨a,_,A,fs,w,rfl,d a _ o,F.cl c,F.no c,g,p D d⟩
def Bk{X:Cx}(Y:jj E X.A)(h:II G X e i way)(hb:PV G X b c)(S:jX b)(hK:X.K=G.K):II G X (.Subscript e b pos) i (way++[.ix c]) :=
 PE.Jv (uH (Ji.or pL (p7 (kh Y))) h hb S) λJ H Q hq=>by
  refine L2.ar λP_ F=>?_;obtain⟨M,U,t,ks,v,w,s,h1,h2,h3,h4,h5⟩:=hq;obtain⟨Jn,k',a,b',rfl⟩:=g7 h3;obtain⟨⟨D,x⟩,ec,e2⟩:=Zz.mp (b');cases e2;obtain⟨u,p1,C⟩:=h4.split;refine F ?_;refine⟨M,U,t,Jn,v,u,s,h1,h2,a,p1,λH1 d=>⟨M,U,D,x,s.same d,ec,λy H2 F2 o r2 f2=>?_⟩⟩;have q:=h5 H2 (d.trans o);cases ((C.same d).same o) with
  |@ix a p N j r _ _ l g R f =>
   cases f;refine .inl (.inl ⟨a,p,N,w,rfl,r2.int_inv,FT.of l,mQ g R,q⟩)
  |@key a cg m r _ _ l g f =>
   cases f;refine .inr ⟨a,w,rfl,?_,q⟩;have P:y=kV m:=by
    cases m with
    |inl n=>exact r2.int_inv
    |inr z =>
     have:=r2.str_inv.1;rw[this];simp[kV,sx]
   rw[P,← g];exact hJ.k l
@[simp] def iD(i:Nat)(a:List Ip)(f:T->Vy->Option (T×Val))(h:Gf)(U:VS.Env):Option (Val×VS.Env):=match U[i]? with
 |some (some (.ow t))=>(keys a U).bind λg=>(h U).bind λd=>(pm (λx=>f x d) g t).map λz=>(z.2,U.set i (Z (.ow z.1)))
 |_=>L
noncomputable def jL(G:Gx):Prop:=∀c k a:Nat,(G.ct c).2 k=(G.ct c).2 a->k=a
def wu{pos apos:Pos}(Jq:jL G)(pa:PlainAttrs p)(d:Slot p a m)(Kt:typeOf (.builtin m)=pure (.type "method_descriptor"))(hm:LV X m r)(ok:wN G r f)(hT:∀H v t F l z,Rp G H v t F->f t l=Z z->Ki G.K p v H)(ho:II G X o i way)(ha:GE G X (e :: es) cs)(hK:X.K=G.K)(FO:SZ o a X.env (eval o X.env)=eval o X.env)(Gw:((backTo cp (PP (e :: es) X.env)).all (λx=>!x.1)&&(backToKw cp (Re [] X.env)).all (λx=>x.1.isSome)
   && decide ((e :: es).length+([]:List Keyword).length+(if ([]:List Keyword).isEmpty then 0 else 1)<30))=B)(S:(apos.endLine==cp.line)=B)(hs:K1 e es X)(FQ:K2 cp es X)(Ih:swapsWith (.Call (.Attribute o a apos) (e :: es) [] cp) L pos.line X.env=pure O) :
  PSV G X (.Expr (.Call (.Attribute o a apos) (e :: es) [] cp) pos) (sX (iD i way f cs)) :=
 PS.weak (jg (uI pa d Kt hm ho ha FO Gw S hs FQ) Ih) λD J H hq=>by
  obtain⟨M,U,out,s,e,k⟩:=hq;refine L2.ar λP_ k_=>?_;unfold sX iD at e;obtain⟨⟨x',U'⟩,e1,e2⟩:=Zu.mp e;split at e1
  ·rename_i t h;obtain⟨E,ek,e3⟩:=Zz.mp e1;obtain⟨l,el,e4⟩:=Zz.mp e3;obtain⟨⟨t',x2⟩,e5,e6⟩:=Zu.mp e4;cases e6;cases e2;obtain⟨v,N,h2⟩:=s.rp _ _ h;obtain⟨w,x,F1,Y,w1,A,w3,y,w5⟩:=mK E Jq h2 (s.nd i t h) e5;refine k_ ?_;refine⟨M,U,t,E,v,w,s,h,N,ek,w1,λH0 j=>⟨by rw[hK];exact hT H0 w x _ l _ (A.same j) y,M,U,l,s.same j,el,λvs H' Fs q1 q2 C=>?_⟩⟩;refine ok M U H H' w x Y F1 l vs Fs x2 _ A w3 ⟨j.trans q1,q2,⟨λn v' q a1 a2=>(C.each n v' q a1 a2).back j,C.nd⟩⟩ y λu P q g=>?_;obtain⟨F2,g2⟩:=w5 P q g;obtain⟨R,Q⟩:=s.mut h N g2;exact k _ J P R Q
  ·cases e1
end
section
def jA(k v:Val):T->Option (T×Unit)
 |.lst l=>match k.2 with
  |.int n=>(fit v).bind λt=>(G8 l.length n).map λj=>(.lst (l.set j t),())
  |_=>L
 |.dct 0 l=>if jB k.2/\FW v.2/\l.length<dq then Z (.dct 0 (dput l k.2 v.2),()) else L
 |_=>L
def fL(i:Nat)(a:List Ip)(k e:Ex)(U:VS.Env):Option Out:=(e U).bind λv=>match U[i]? with
 |some (some (.ow t))=>(keys a U).bind λf=>(k U).bind λd=>(pm (jA d v) f t).map λz=>.nx (U.set i (Z (.ow z.1)))
 |_=>L
theorem RpL.putAt:∀{d:List V}{f:Vw}{g:Wm}(j:Nat){u:V}{x:T}{F:W4},RpL G H d f g->Rp G H u x F->RpL G H (d.set j u) (f.set j x) (g.set j F)
 |_,_,_,_,_,_,_,.nil,_=>.nil
 |_,_,_,0,_,_,_,.cons r q,a=>.cons a q
 |_,_,_,j+1,_,_,_,.cons r q,a=>.cons r (RpL.putAt j q a)
theorem uN(u:Rp G H m t []):∀{a:List Key}{j:List V}{s:Vw}{D:Wm},a.length=j.length->RpL G H j s D →
  ∃f g h,(a.zip j).map (λn=>if n.1=d then (n.1,m) else n)=a.zip f/\a.length=f.length/\((a.map aT).zip s).map (λp=>if eqT p.1 (aT d) then (p.1,t) else p)=(a.map aT).zip g/\RpL G H f g h/\h.flatten.Sublist D.flatten
 |[],[],_,_,_,.nil=>⟨[],[],[],rfl,rfl,rfl,.nil,Xf _⟩
 |k :: a,v :: j,_,_,M,.cons (t:=E) (F:=F) r q=>by
  refine L2.ar λN J=>?_;obtain⟨f,g,h,C,A,y,x,w⟩:=uN u (by simpa using M) q;refine J ?_;by_cases l:k=d
  ·refine⟨m :: f,t :: g,[] :: h,?_,by simp[A],?_,.cons u x,?_⟩
   ·rw[ZV,Zi,C,ZV];simp[l]
   ·rw[Zi,ZV,Zi,y,ZV];simp[((ke d k).mpr l)]
   ·rw[ZR,ZR];exact w.trans (YN _ _)
  ·have e:¬eqT (aT k) (aT d)=B:=λz=>l ((ke d k).mp z);refine⟨v :: f,E :: g,F :: h,?_,by simp[A],?_,.cons r x,?_⟩
   ·rw[ZV,Zi,C,ZV];simp[l]
   ·rw[Zi,ZV,Zi,y,ZV];simp[e]
   ·rw[ZR,ZR];exact List.Sublist.append (Xf _) w
theorem rn{kk:Key}:∀{a:List Key}{d:List V}{f:Vw},a.length=d.length->a.length=f.length->((a.zip d).any λg=>decide (g.1=kk))=(((a.map aT).zip f).any λp=>eqT p.1 (aT kk))
 |[],_,_,_,_=>by simp
 |k :: a,v :: d,t :: f,l,j=>by
  rw[Zi,ZV,ZV,YV,YV,rn (by simpa using l) (by simpa using j)];have:decide (k=kk)=eqT (aT k) (aT kk):=by rw[X7,decide_eq_true_eq];exact(ke kk k).symm
  rw[this]
 |_ :: _,[],_,h,_=>by simp at h
 |_ :: _,_ :: _,[],_,h=>by simp at h
def sC(u:Rp G H q t []){a:List Key}{g:List V}(d:a.length=g.length)(l:RpL G H g j s) :
  ∃(r:List Key)(f:List V)(m:Vw)(n:Wm),putK (a.zip g) kk q=r.zip f/\r.length=f.length/\dput ((a.map aT).zip j) (aT kk) t=(r.map aT).zip m/\RpL G H f m n/\n.flatten.Sublist s.flatten:=by
 unfold putK dput;rw[(rn (kk:=kk) d (d.trans l.len.1))];by_cases h:(((a.map aT).zip j).any λp=>eqT p.1 (aT kk))=B
 ·rw[Zp h,Zp h];refine L2.ar λC v=>?_;obtain⟨f,m,n,A,z,y,x,w⟩:=uN u d l;refine v ?_;exact⟨a,f,m,n,A,z,y,x,w⟩
 ·rw[Zn h,Zn h];refine⟨a++[kk],g++[q],j++[t],s++[[]],?_,by simp[d],?_,l.append (.cons u .nil),by simp⟩
  ·rw[List.zip_append d];rfl
  ·rw[Z3,List.zip_append (by rw[Zy];exact d.trans l.len.1)];rfl
def Bi:zj:=λo i v H Q=>Bl o i v H Q\/∃a d,o=.ref a/\sA H a i v d/\Q d
def yK{X:Cx}(m:X.A.units+1<cLine):B3 X Bi:=by
 intro d s J H o i v l iv u Q I ro j f h;rcases h with h | ⟨a,p,rfl,g,q⟩
 ·exact set_list d s J H o i v l iv u Q I ro j f h
 ·cases ro;exact u0 m I g j f λr n=>⟨p,n,q⟩
def jV{X:Cx}{pos:Pos}(Jq:jL G)(hr:jj kr X.A)(ho:II G X o i way)(hk:PV G X b ck)(he:PV G X e ce)(ha:∀v,assign (.Subscript o b pos') X.env v=(do
   let R ← holding [v] (eval o X.env)
   let iv ← holding [v,R] (eval b X.env)
   standAt pos'
   holding [v,R,iv] (setItem R iv v)
   release [v,R,iv] []):=by exact λ_=>rfl)(hs:{`q8,swapsWithSole [.Subscript o b pos'] e pos.line X.env=pure O})(hw:{`q8,swappedStores [.Subscript o b pos'] e X.env=pure L})(E:{`q8,(assignEach [.Subscript o b pos'] X.env).map (·.2)=[assign (.Subscript o b pos') X.env]}):PSV G X (.Assign [.Subscript o b pos'] e pos) (fL i way ck ce) :=
 PS.weak (sY he (sZ ho hk (yK (kh hr)) ha) hs hw E) λD J H hq=>by
  obtain⟨M,U,out,s,e,k⟩:=hq;refine L2.ar λP_ S=>?_;obtain⟨⟨mv,C⟩,ev,e⟩:=Zz.mp e;split at e
  ·rename_i t Y;obtain⟨ks,ek,e⟩:=Zz.mp e;obtain⟨⟨mk,f⟩,Kw,e⟩:=Zz.mp e;obtain⟨⟨t',y'⟩,e5,e6⟩:=Zu.mp e;cases e6;obtain⟨v,g1,g2⟩:=s.rp _ _ Y;obtain⟨w,x,F1,x3,w1,w2,w3,y,w5⟩:=mK ks Jq g2 (s.nd i t Y) e5;refine S ?_;refine⟨M,U,mv,C,s,ev,λxv H1 Fv He rv fv=>?_⟩;refine⟨M,U,t,ks,v,w,s.same He,Y,g1,ek,w1.same He,λH2 GO=>⟨M,U,mk,f,(s.same He).same GO,Kw,λkv H3 Fk Ib rk fk=>?_⟩⟩;have m:=(He.trans GO).trans Ib;have JV:=(rv.same GO).same Ib;have fin:∀N u,Chg G H w F1 x3 N u->D.nx J N:=λN u g=>by
    obtain⟨F2,Mf⟩:=w5 N u g;obtain⟨z1,z2⟩:=s.mut Y g1 Mf;exact k _ J N z1 z2
   refine L2.ar λP_ S=>?_;cases x with
   |lst l =>
    cases f with
    |int n =>
     obtain⟨tt,et,e7⟩:=Zz.mp (y);obtain⟨j,ej,e8⟩:=Zu.mp e7;cases e8;cases (l6 et);obtain⟨a,vs,Fs,rfl,rfl,P,p⟩:=w2.lst_inv;have F:=m a _ P;have nd:=ZX.mp w3;have na:a∉Fv:=λz=>by rw[fv.2 a z]at P;cases P
     have q:FR (H3 a):=by rw[F];exact True.intro
     have off:=λd hb hv=>FR.lp (p.Ge d hb) (fv.2 d hv);refine S ?_;refine .inl ⟨a,vs,n,j,rfl,rk.int_inv,F,by rw[← sv,p.len.1];exact ej,fin _ (a :: (Fs.set j Fv).flatten) ?_⟩;refine Chg.upd m Zw q (.lst aw ((((p.same m).off q nd.1)).putAt j ((λr hn=>r.keep (Kept.upd (.inl q)) λd hb o' Ii=>by rw[aA (λz=>hn (by rw[← z];exact hb))];exact Ii) JV na))) ?_ ?_
     ·rw[ZX];refine⟨λh=>?_,dJ nd.2 fv.1 λi' u _ hi d hb=>off d (dc hi hb)⟩;rcases cF h with z | ⟨i',u,_,E,h2⟩
      ·exact na z
      ·exact nd.1 (dc E h2)
     ·intro d hb;rcases Zk.mp hb with rfl | hb
      ·exact .inl Zw
      ·rcases cF hb with z | ⟨i',u,_,E,h2⟩
       ·exact .inr (fv.2 d z)
       ·exact .inl (Zx _ (dc E h2))
    |_=>cases y
   |dct kd l =>
    cases kd with
    |zero =>
     have hc:(jB f=B/\FW C=B/\l.length<dq)/\x3=.dct 0 (dput l f C):=by
      have La:(if jB f/\FW C/\l.length<dq then Z (T.dct 0 (dput l f C),()) else L)=Z (x3,y'):=y;split at La
      ·rename_i hc;cases La;exact⟨hc,rfl⟩
      ·cases La
     obtain⟨⟨c1,c2,c3⟩,rfl⟩:=hc;have eF:=JV.FW c2;subst eF;obtain⟨a,ns,vs,ts,Fs,rfl,rfl,P,hl,rfl,p⟩:=eV w2;obtain⟨kk,rfl,JR⟩:=d5 rk c1;subst JR;have F:=m a _ P;have q:FR (H3 a):=by rw[F];exact True.intro
     have nd:=ZX.mp w3;obtain⟨L4,Iq,IA,HV,q1,q2,q3,q4,Q⟩:=sC JV hl (p.same m);refine S ?_;refine .inr ⟨a,_,rfl,sA.k F (by
      have:((ns.map aT).zip ts).length<16777216:=c3;rw[Yn,Zy]at this;rw[Yn];have:=p.len.1;have:(IR:Nat)=16777216:=rfl;lia),fin _ (a :: HV.flatten) ?_⟩
     rw[q1,q3];refine Chg.upd m Zw q (.dct aw q2 (q4.off q λz=>nd.1 (Q.subset z))) ?_ ?_
     ·exact ZX.mpr ⟨λz=>nd.1 (Q.subset z),nd.2.sublist Q⟩
     ·intro d hb;rcases Zk.mp hb with rfl | hb
      ·exact .inl Zw
      ·exact .inl (Zx _ (Q.subset hb))
    |succ n=>cases y
   |_=>cases y
  ·cases e
end
def B1{K:W0}{b:W8}(e:xI H)(d:FT K H a (b.map V.int)):jS K H a b:=by
 rcases d with h | h
 ·rcases h with h | h
  ·rcases e a with z | ⟨o,f,z⟩
   ·rw[z]at h;cases h
   ·rw[z]at h;cases h
  ·exact .inl h
 ·exact .inr h
def CS{G:Gx}(d:g [.scr b]=Z (.fr,.bl B))(f:xI H)(e:FT G.K H a (b.map V.int)):HR G g [.ref a] H (λv _=>v=.bl B) E :=
 ⟨[.scr b],[[]],.fr,.bl B,.cons (.scr (B1 f e)) .nil,d,λv h F _ r _=>r.GK⟩
noncomputable def Pd(K:W0):Gx:=⟨K,λ_=>(0,λk=>⟨#[k]⟩),λ_=>L⟩
def xk{l:PySem.W.OpenLaw}{d:DefRec}{K:Params->W0}{g:Fn}{x:Str}{k:Nat}(m:l.most=Z 63)(t:d.params.defaults=[])(j:jj k callerA)(n:∀ns:W8,g [.scr ns]=Z (.fr,.bl B))(F:∀(w:SL)(mg:W3)(e:KB)(h:SC),(K w.params).In h->h.Ns mainGlobals mg->mg d.name=Z (.ref e) →
   ∃fd:Pi,(∀(s:FS)(u:KF),BindsTo s fd ⟨[u],[]⟩ [(x,u)])/\∀base:SC,(K w.params).In base->base.Ns mainGlobals mg->FnOk l.prog w (K w.params) mg base GF k e fd [x] (HR (Pd (K w.params)) g)) :
  PySem.W.WalkO q b r (λw h=>(K w.params).In h) l.row.toRowW d [] (λf i=>PySem.call f i) :=
 L2.jh (k:=k) (x:=x) m (by decide) t j (λ_ _ h=>h) F (λw H a ns _ p o=>CS (n ns) p o) λ_ _ _ _ _ z=>z
end VS
end
section
namespace L2
open PySem PySem.Spec PyProof.Rows
section
def tf{X:Cx}(r:X.calm=B):cB X (.type "list") (λf H Q=>∃x:Str,f=[.str x]/\x.cps.size<=IR/\∀l,H l=L->Q (.ref l) (upd H l (.lst (x.cps.toList.map λc=>V.str ⟨#[c]⟩)))):=by
 intro j s J H f z Q I o h;obtain⟨x,rfl,m,q⟩:=h;obtain⟨u,rfl,t,rfl⟩:=vals1 o;refine call_list_str (I.ok.hd r) x t (λy A acc c kp g n=>?_) m;refine⟨.ref s.heap.objs.size,_,I.laid kp (Zm _) (show c9 X.prog X.w _ y _ (.lst (x.cps.toList.map λc=>V.str ⟨#[c]⟩)) from⟨by rw[Zy,Z4];exact m,acc.toList,c,(by
  have key:∀(b:W7)(a:W5),b.length=a.length->(∀(i:Nat)(v:KF),a[i]?=Z v->∃c u,b[i]?=Z c/\v=.str ⟨#[c]⟩ u)->aK (b.map λc=>V.str ⟨#[c]⟩) a:=by
   intro b
   induction b with
   |nil =>
    intro a e _;cases a with
    |nil=>exact .nil
    |cons v a=>simp at e
   |cons c b p =>
    intro a e hg;cases a with
    |nil=>simp at e
    |cons v a =>
     obtain⟨d,u,e1,e2⟩:=hg 0 v Y;cases e1;exact .cons ⟨u,e2⟩ (p a (by simpa using e) λi w hw=>by simpa using hg (i+1) w (by simpa using hw))
  refine key _ _ (by rw[Z4,Z4,n.1]) λi v hi=>?_;rw[Z8]at hi;obtain⟨d,u,e1,e2⟩:=n.2 i v hi;exact⟨d,u,by rw[Z8];exact e1,e2⟩),g⟩),rfl,q _ (I.oe.fresh (Zm _))⟩
end
end L2
namespace VS
open PySem PySem.Spec PyProof.Rows L2
section
def lj:Vy->Vx
 |[(m,.lst l)]=>Hu m l
 |[(m,.tup l)]=>Hu m l
 |[(_,.str s)]=>Hu .fr (s.map λc=>.str [c])
 |_=>L
def wJ:dE G (λd H Q=>A9 G.K d H Q\/∃x:Str,d=[.str x]/\x.cps.size<=IR/\∀l,H l=L->Q (.ref l) (upd H l (.lst (x.cps.toList.map λc=>V.str ⟨#[c]⟩)))) lj:=by
 intro M U i H l f j m t Q A e k;unfold lj at e;split at e
 ·exact .inl (uy M U i H _ f j m t Q A e k)
 ·exact .inl (uy M U i H _ f j m t Q A e k)
 ·rename_i C x;obtain⟨v,F,rfl,rfl,h⟩:=(A.rp).one;have g:=h.str_inv.2;refine .inr ⟨sx x,by rw[h.str_inv.1],?_,λq r=>?_⟩
  ·have:=g.1;exact this
  ·have z:(sx x).cps.toList.map (λc=>V.str ⟨#[c]⟩)=(x.map λc=>[c]).map λs=>V.str (sx s):=by
    simp[sx]
   have w:(x.map λc=>T.str [c])=(x.map λc=>[c]).map T.str:=by simp
   rw[z];rw[w]at e;refine jb A.same e (o9 (G:=G) (H:=H) (ss:=x.map λc=>[c]) λs o=>by
    obtain⟨c,u,rfl⟩:=Z0.mp o;exact⟨by show 1<=dq;decide,λy n=>by rw[Zj.mp n];exact g.2 c u⟩) ?_ k q r
   rw[nI];exact Fp.nil
 ·cases e
def pY{X:Cx}(d:X.mg "list" = L)(h:GE G X [e] cs)(f:{`q2,Gl X "list"})(i:{`q2,X.K=G.K})(g:{`q2,X.calm=B})(he:{`q2,K1 e [] X}):PV G X (.Call (.Name "list" p) [e] [] pos) (eN lj cs) :=
 ia (pC.or (tf g)) (i ▸ wJ) f d t4 h (he:=he)
end
end VS
end
section
namespace ST
open PySem PySem.Spec PyProof.Rows
noncomputable abbrev dO(a:Array DictEntry)(b:Nat):Obj:={ cls:=.type "dict",data:=.dict a b }
noncomputable abbrev kO(d:KB)(i n a:Nat):Obj:={ cls:=.type "dict_keyiterator",data:=.fields #[.ref d,.int i 0,.int n 0,.int a 0] }
def vX{s:FS}(f:(d==sysModules)=O)(a:s.heap.get? d=Z (dO b e))(q:Q (.ref s.heap.objs.size) { s with heap:=s.heap.push (kO d 0 b.size e) }) :
  KM (GM prog w) A (pyIter (.ref d)) Q E s:=by
 have ty:s.TypeIs (.ref d) "dict" := ⟨_,a,rfl⟩
 refine X4 ty F.slot_dict_iter (Y4 F.slot_dict_iter ty F.entry_dict_iter (?_) (F.args_dict_iter_1 _));unfold Builtin.«dict.__iter__» Builtin.Dict.dictSlotNone Builtin.Dict.showsAll;refine Zv (Zv (wpAny_notOrdered_dict ty (Zl (Zv (Zl ?_)))));rw[Zn (by rw[f];exact Zc)];exact Zv (Zl (Zv (wpAny_dictEntries a Y (Zv (wpAny_dictEpoch a Y (Zv (YE (Zl ⟨_,rfl, "dict_keyiterator",_,⟨_,Ze _ Y,rfl⟩,Xy.lookup,q⟩))))))))
def rZ{A:P3}{s:FS}{h:Array DictEntry}(t:A.handled=L)(l:s.heap.get? I=Z (kO d i h.size m))(n:s.heap.get? d=Z (dO h m))(y:∀e,h[i]?=Z e->∀a,Heap.SameBut I s.heap a->a.get? I=Z (kO d (i+1) h.size m)->Q (Z e.key) { s with heap:=a })(u:h[i]?=L->∀a,(∀b o,b≠I->s.heap.get? b=Z o->a.get? b=Z o)->Q L { s with heap:=a }):KM (GM prog w) A (pyNext (.ref I)) Q E s:=by
 have ty:s.TypeIs (.ref I) "dict_keyiterator" := ⟨_,l,rfl⟩
 refine Zv (wpAny_attempt (wpAny_callSpecial?_slot ty Xy (Y4 Xy ty F.entry_dict_keyiterator_next (YU
  (Q:=λf j=>∃v,f=.done (.ret v)/\Q (Z v) j) (E:=λe j=>∃x,e=.ref x/\(∃o,j.heap.get? x=Z o/\o.cls=.type "StopIteration")/\Q L j) ?_ (λf j ⟨v,e,q⟩=>⟨v,e,Zl q⟩) λe j ⟨x,e1,⟨o,g,c⟩,q⟩=>?_) (F.args_dict_keyiterator_next_1 _))))
 ·refine Zv (Zl (Zv (Zv (Zv (XJ ty (Zl (Zv (wpAny_fieldsOf l Y ?_))))))));have own:Builtin.Dict_items.ownsTuple "dict_keyiterator" = O:=rfl;refine(show KM _ _ (if (Value.ref d==Value.none)=B then _ else _) _ _ s from ?_);rw[Zn (λe:(Value.ref d==Value.none)=true=>Zc e)];refine Zv (Zl (Zv (wpAny_dictEntries n Y ?_)));rw[Zn (by simp)];refine Zv (Zl (Zv (wpAny_dictEpoch n Y ?_)));rw[Zn (by simp)];refine Zl ?_;simp only[show ¬((i:Int)<0) from by lia,↓reduceIte,Z9];cases he:h[i]? with
  |some e =>
   have p:(s.heap.update I (Obj.mapFields (·.setIfInBounds 1 (rawInt ((i:Int)+1))))).get? I=Z (kO d (i+1) h.size m):=Yx _ l Y;refine Zv (Zv (XJ ty (Zl (Zv (wpAny_isOneOf_keyiter ty ?_)))));refine(Zv (Y3 l Y (by show 1<4;decide) (Zv (YB ?_))));refine Zv (wpAny_isOneOf_keyiter ⟨_,p,rfl⟩ ?_);refine(Zl (Zl ⟨_,rfl,y e he _ (Y2 ..) p⟩))
  |none =>
   refine Zv (Zv (XJ ty (Zl ?_)));refine(Zv (Y3 l Y (by show 0<4;decide) (xB t λa x kp r=>⟨x,rfl,r,u he a λb o hb e=>kp b o ?_⟩)));rw[Yh _ _ (Ya hb)];exact e
 ·subst e1;exact Zv (wpAny_isInstance ⟨o,g,c⟩ isSubtype_stop (Zl q))
end ST
end
section
namespace L2
open PySem PySem.Spec PyProof.Rows
section
def vJ{o:Obj}(h:o.ExactDict)(e:o.data=.dict a b):o=ST.dO a b:=by
 obtain⟨c,d,l,j⟩:=o;obtain⟨i,g,f⟩:=h;subst i g f e;rfl
end
end L2
end
section
namespace VS
open PySem PySem.Spec PyProof.Rows L2
section
def nR{b:Expr}(s:PV G X a i)(o:PV G X b f)(n:PV G X c d)(l:lastMarks [.LtE,.Lt] [b,c]=O):HU G X (.Compare a [.LtE,.Lt] [b,c] pos) (gP oLe oLt i f d) :=
 PT.weak (qG mY p8 s o n l) λJ H Q h=>nV h (λU m r e=>by
  obtain⟨x,A,e⟩:=Zz.mp e;obtain⟨y,w,e⟩:=Zz.mp e;obtain⟨⟨t,z⟩,u,e⟩:=Zz.mp e;cases z with
  |bl q =>
   cases q with
   |false=>cases e;exact⟨_,rfl⟩
   |true =>
    obtain⟨j,v,e⟩:=Zz.mp (e);exact iN y j m r e
  |_=>cases e) λQ h=>mR qP uk h
def Cq{pos:Pos}(h:PV G X e a)(i:swapsWith e L pos.line X.env=pure O):PSV G X (.Expr e pos) (sX (xP a)) :=
 PS.weak (jg h i) λD J H d=>by
  obtain⟨M,U,out,s,e,k⟩:=d;obtain⟨⟨v,l⟩,e1,e2⟩:=Zu.mp e;obtain⟨⟨m,t⟩,e3,f⟩:=Zu.mp e1;cases f;cases e2;exact⟨M,U,m,t,s,e3,λv j F e1 r1 f1=>k M J j (s.same e1) (GA.same e1)⟩
end
section
def sR{j pos'}(g:PV G X a ca):HU G X (.Compare a [.Is] [.Constant .none j pos'] pos) (vm ca) :=
 PT.weak (yy (B4 g)) λJ H Q h=>Bd h (λU m r e=>by
  obtain⟨x,_,e⟩:=Zz.mp e;cases e;exact⟨_,rfl⟩) λQ f=>by
   obtain⟨M,U,m,r,s,e,q⟩:=f;obtain⟨⟨n,x⟩,i,e⟩:=Zz.mp e;cases e;refine⟨M,U,n,x,s,i,λv d F e1 r1 f1=>?_⟩;show Q (.bl (decide (v=.non))) d;rw[tV r1];exact q _ d _ e1 (.bl _) Fp.nil
def l8{j pos'}(g:PV G X a ca):HU G X (.Compare a [.IsNot] [.Constant .none j pos'] pos) (ie ca) :=
 PT.weak (yy (zS g)) λJ H Q h=>Bd h (λU m r e=>by
  obtain⟨x,_,e⟩:=Zz.mp e;cases e;exact⟨_,rfl⟩) λQ f=>by
   obtain⟨M,U,m,r,s,e,q⟩:=f;obtain⟨⟨n,x⟩,i,e⟩:=Zz.mp e;cases e;refine⟨M,U,n,x,s,i,λv d F e1 r1 f1=>?_⟩;show Q (.bl (!decide (v=.non))) d;rw[tV r1];exact q _ d _ e1 (.bl _) Fp.nil
def ue(i:Nat)(k e:Ex)(U:VS.Env):Option Out:=(e U).bind λv=>match U[i]? with
 |some (some (.ow (.dct 0 l)))=>(k U).bind λd=>if jB d.2/\FW v.2/\l.length<dq then Z (.nx (U.set i (Z (.ow (.dct 0 (dput l d.2 v.2)))))) else L
 |_=>L
def BB{X:Cx}{pos:Pos}(i:Nat)(hr:jj kr X.A)(hk:PV G X b ck)(he:PV G X e ce)(hN:X.N[i]?=Z x)(hv:Iw X.env.scope x)(hd:K3 x)(m:K4 x)(ha:∀v,assign (.Subscript (.Name x p1) b pos') X.env v=(do
   let f ← holding [v] (eval (.Name x p1) X.env)
   let iv ← holding [v,f] (eval b X.env)
   standAt pos'
   holding [v,f,iv] (setItem f iv v)
   release [v,f,iv] []))(hs:swapsWithSole [.Subscript (.Name x p1) b pos'] e pos.line X.env=pure O)(hw:swappedStores [.Subscript (.Name x p1) b pos'] e X.env=pure L)(h1:(assignEach [.Subscript (.Name x p1) b pos'] X.env).map (·.2)=[assign (.Subscript (.Name x p1) b pos') X.env]):PSV G X (.Assign [.Subscript (.Name x p1) b pos'] e pos) (ue i ck ce) :=
 PS.weak (sY he (sZ (fZ hN hv hd m) hk (yK (kh hr)) ha) hs hw h1) λD J H hq=>by
  obtain⟨M,U,out,s,e,k⟩:=hq;obtain⟨⟨mv,o⟩,ev,e⟩:=Zz.mp e;split at e
  ·rename_i l j;obtain⟨⟨mk,tk⟩,Kw,e⟩:=Zz.mp e;split at e
   ·rename_i hc;obtain⟨c1,c2,c3⟩:=hc;cases e;obtain⟨w,u,Y⟩:=s.rp _ _ j;have n:=s.nd i _ j;refine⟨M,U,mv,o,s,ev,λxv H1 Fv P rv fv=>⟨w,u,M,U,mk,tk,s.same P,Kw,λkv Q Fk F rk fk=>?_⟩⟩;have h:=P.trans F;have C:=rv.same F;have eF:=C.FW c2;refine L2.ar λP_ k_=>?_;subst eF;obtain⟨a,ns,vs,p,Fs,rfl,y,Gj,hl,rfl,q⟩:=eV Y;rw[y]at n;obtain⟨t,rfl,JR⟩:=d5 rk c1;subst JR;have E:=h a _ Gj;have r:FR (Q a):=by rw[E];exact True.intro
    have nd:=ZX.mp n;obtain⟨L4,Iq,IA,HV,q1,q2,q3,q4,d⟩:=sC C hl (q.same h);refine k_ ?_;refine .inr ⟨a,_,rfl,sA.k E (by
     have:((ns.map aT).zip p).length<16777216:=c3;rw[Yn,Zy]at this;rw[Yn];have:=q.len.1;have:(IR:Nat)=16777216:=rfl;lia),?_⟩
    have g:Chg G H (.ref a) (M i) (.dct 0 (dput ((ns.map aT).zip p) (aT t) o)) (upd Q a (.dK (putK (ns.zip vs) t xv))) (a :: HV.flatten):=by
     rw[y,q1,q3];refine Chg.upd h Zw r (.dct aw q2 (q4.off r λz=>nd.1 (d.subset z))) ?_ ?_
     ·exact ZX.mpr ⟨λz=>nd.1 (d.subset z),nd.2.sublist d⟩
     ·intro bb hb;rcases Zk.mp hb with rfl | hb
      ·exact .inl Zw
      ·exact .inl (Zx _ (d.subset hb))
    obtain⟨S,R⟩:=s.mut j u g;exact k _ J _ S R
   ·cases e
  ·cases e
end
end VS
end
section
namespace VS
open PySem PySem.Spec PyProof.Rows L2
section
def yX:bootBuiltins ("dict" : Str)=Z (.type "dict"):=by decide +kernel
def CD:bootBuiltins ("int" : Str)=Z (.type "int"):=by decide +kernel
end
end VS
end
section
namespace L2
open PySem PySem.Spec PyProof.Rows
section
def oY(I:Inv X pins J H s)(e:H d=Z (.dK a))(g:s.heap.get? d=Z o):Inv X pins J (upd H d (.frz o (.dK a))) s :=
 l5 I (by rw[e];exact True.intro) ⟨rfl,λ_ _=>rfl⟩ ⟨o,g⟩ ⟨g,I.oe d _ e⟩
end
def P4(d:KB)(o:Obj)(a:List (Key×V)):It :=
 ⟨λi H=>H d=Z (.frz o (.dK a))/\i<a.length,λi H x b=>b=H/\∃p,a[i]?=Z p/\x=kV p.1,λi H=>H d=Z (.frz o (.dK a))/\a.length<=i⟩
def Am(h:lE k v=B):RelV (kV k) v:=by
 rcases bN h with⟨i,t,rfl,rfl⟩ | ⟨x,t,rfl,rfl⟩
 ·exact⟨t,rfl⟩
 ·exact⟨t,rfl⟩
def oQ{P:Pv}{w:SL}{a:List DictEntry}{m:List (Key×KF)}(r:Pairs (bF P w) a m){i:Nat}{e:DictEntry}(h:a[i]?=Z e):∃q,m[i]?=Z q/\lE q.1 e.key=B:=by
 induction r generalizing i with
 |nil=>simp at h
 |@cons j b a l f g _ d =>
  cases i with
  |zero =>
   simp at h;subst h;exact⟨b,rfl,f⟩
  |succ i=>simpa using d (by simpa using h)
def Cf{l:List (Key×V)}{m:List (Key×KF)}(r:KV l m){i:Nat}{q:Key×KF}(h:m[i]?=Z q):∃p,l[i]?=Z p/\p.1=q.1:=by
 induction r generalizing i with
 |nil=>simp at h
 |@cons a f g e d t b =>
  cases i with
  |zero=>simp at h;subst h;exact⟨a,rfl,d.1⟩
  |succ i=>simpa using b (by simpa using h)
section
def BX{tg:Expr}{P:Pv}{w:SL}{K:W0}(d f:KB){R:List (Key×V)}{C:Array DictEntry}{Q:Nat}{D:List (Key×KF)}(a:KV R D)(he:Pairs (bF P w) C.toList D) :
  Turn P w K tg (P4 d (ST.dO C Q) R) [f] f (λi h=>h.get? f=Z (ST.kO d i C.size Q)) where
 mem:=by simp
 obj:=λi h st b hb=>by
  rw[Zj.mp hb];exact⟨_,st,λv z=>by cases z⟩
 keep:=λi h u st k=>k f (by simp) _ st
 item:=by
  intro X r hw t n i j s J H E I l st hg;subst r hw t;obtain⟨A,f1,f2,f3,y,x⟩:=l f (by simp);refine ST.rZ (I.ok.hd n) st ((I.oe d _ hg.1).1) (λe hi u G g=>?_) λM=>?_
  ·rw[← Z8]at hi;obtain⟨q,m,N⟩:=oQ he hi;obtain⟨p,S,hb⟩:=Cf a m;exact⟨_,rfl,qW g Y Y Y ⟨kV p.1,H,(I.turned (t':=s.toks) (λb o hb e=>(G.2 b hb).trans e) A f1 f3 y x),by rw[hb];exact Am N,⟨rfl,p,S,rfl⟩,g,λb hb=>(l b hb).1⟩⟩
  ·exfalso;rw[← Z8,Yk,he.length,← Xk a]at M;exact absurd hg.2 (by lia)
 done:=by
  intro X r hw t n i j s J H E I l st hg;subst r hw t;obtain⟨A,f1,f2,f3,y,x⟩:=l f (by simp);refine ST.rZ (I.ok.hd n) st ((I.oe d _ hg.1).1) (λe hi u G g=>?_) λM u kp=>⟨rfl,I.turned (λb o hb e=>kp b o hb e) A f1 f3 y x⟩
  exfalso;rw[← Z8]at hi;obtain⟨q,m,N⟩:=oQ he hi;have:=(ZZ.mp m).1;have h2:=hg.2;rw[Xk a]at h2;lia
 self:=λ_ _ _ _ _ st U=>X4 ⟨_,st,rfl⟩ F.slot_dict_keyiterator_iter (Y4 F.slot_dict_keyiterator_iter ⟨_,st,rfl⟩ F.entry_dict_keyiterator_iter (Zl ⟨_,rfl, "dict_keyiterator",_,⟨_,st,rfl⟩,Xy.lookup,U⟩) (F.args_dict_keyiterator_iter_1 _))
def S6(e:TE):TI:=λJ H R=>e J H λx b=>∃d a,x=.ref d/\b d=Z (.dK a)/\∀o,R (P4 d o a) (upd b d (.frz o (.dK a)))
def EF(p:PE X l j):PI X tg l (S6 j):=by
 intro a s J H R I h;refine thn (p a s J H _ I h) λv i r=>?_;obtain⟨x,F,f,r1,m⟩:=r;refine L2.ar λE n=>?_;obtain⟨d,D,ex,e,q⟩:=m;subst ex;cases r1;obtain⟨z,y,u,rel,o,A,C,g,ex,hd,_,he,w⟩:=rC f.oe e;have eo:=vJ ex hd;subst eo;refine n ?_;refine ST.vX y g ?_;refine⟨i.heap.objs.size,[i.heap.objs.size],_,_,_,rfl,(oY f e g).kept λb o e=>Zo _ e,BX d _ rel he,Ze _ Y,λb hb=>?_,q _⟩;have t:b=i.heap.objs.size:=by simpa using hb
 subst t;exact(oY f e g).JP (Zm _) ((oY f e g).oe.fresh (Zm _))
end
end L2
namespace VS
open PySem PySem.Spec PyProof.Rows L2
noncomputable def Qs:T->Bool
 |.non=>B
 |.bl _=>B
 |.int _=>B
 |.str _=>B
 |_=>O
section
noncomputable def vz:Val->Val->Vx
 | (_,.int i),(_,.int j)=>if 0<=j/\j<=1000000/\i.natAbs<18446744073709551616 then Z (.fr,.int (i ^ j.toNat)) else L
 |_,_=>L
def wL:fU G (rI DW λi j=>.int (i ^ j.toNat)) vz:=by
 intro M U l H x y u w o n m t Q d e k;obtain⟨g,x⟩:=x;obtain⟨f,y⟩:=y;obtain⟨same,r1,r2,f1,f2,nd⟩:=d;unfold vz at e;split at e
 ·rename_i e1 e2;cases e1;cases e2;split at e
  ·rename_i h;cases e;exact⟨_,_,r1.int_inv,r2.int_inv,h,bf k (.int _)⟩
  ·cases e
 ·cases e
def nM(j:PV G X a ca)(i:PV G X b cb)(g:PV G X c cc)(f:lastMarks [.LtE,.LtE] [b,c]=O):HU G X (.Compare a [.LtE,.LtE] [b,c] pos) (gP oLe oLe ca cb cc) :=
 PT.weak (qG mY mY j i g f) λJ H Q h=>nV h (λU m r e=>by
  obtain⟨x,s,e⟩:=Zz.mp e;obtain⟨y,p,e⟩:=Zz.mp e;obtain⟨⟨l,z⟩,n,e⟩:=Zz.mp e;cases z with
  |bl q =>
   cases q with
   |false=>cases e;exact⟨_,rfl⟩
   |true =>
    obtain⟨d,o,e⟩:=Zz.mp (e);exact rQ y d m r e
  |_=>cases e) λQ h=>mR qP qP h
end
end VS
end
section
namespace L2
def Dj{α:Type}{b:List α}(d:b.length=n+1):∃a t,b=a :: t/\t.length=n:=by
 obtain⟨a,t,e⟩:=List.exists_cons_of_length_eq_add_one d;subst e;exact⟨a,t,rfl,Nat.succ.inj d⟩
def iw{α:Type}{b:List α}(d:b.length=1):∃a,b=[a]:=List.length_eq_one_iff.mp d
def ed{α:Type}{d:List α}(f:d.length=2):∃a b,d=[a,b]:=by
 obtain⟨a,t,rfl,e⟩:=Dj f;obtain⟨b,rfl⟩:=iw e;exact⟨a,b,rfl⟩
def u6{α:Type}{d:List α}(f:d.length=3):∃a b c,d=[a,b,c]:=by
 obtain⟨a,t,rfl,e⟩:=Dj f;obtain⟨b,c,rfl⟩:=ed e;exact⟨a,b,c,rfl⟩
def El{α:Type}{e:List α}(g:e.length=4):∃a b c d,e=[a,b,c,d]:=by
 obtain⟨a,t,rfl,f⟩:=Dj g;obtain⟨b,c,d,rfl⟩:=u6 f;exact⟨a,b,c,d,rfl⟩
end L2
end
section
namespace VS
open PySem PySem.Spec PyProof.Rows L2
inductive Res where | ok (v:Val) | ex (x:Str)
inductive P0 where | ok (o:Out) | ex (x:Str) (U:VS.Env)
abbrev Vr:=VS.Env->Option Res
abbrev Vq:=VS.Env->Option P0
end VS
end
section
namespace VS
open PySem PySem.Spec PyProof.Rows L2 PySem.F
section
variable{K:W0}
noncomputable def zN:Fn:=λa=>match a with
 |[.scr _]=>Z (.fr,.bl B)
 |_=>L
end
end VS
end
section
namespace TS
open PySem PySem.Spec PyProof.Rows
def uU(o:∀v∈f,∃x t,v=Value.str x t){d:Array On}(g:d.Perm (pairsOf f))(p:SortedToK strKind d (pairsOf f).size):((d.map (·.2)).toList.map strOf).Pairwise (λa b=>¬b.cps.toList<a.cps.toList):=by
 obtain⟨n,m⟩:=og g;rw[Y8,List.pairwise_iff_getElem];intro i j hi l r;have key:∀i (h:i<(d.map (·.2)).toList.length),KK strKind d i=(strOf (d.map (·.2)).toList[i]).cps.toList:=λi h=>by
  have e:d[i]?=Z ((d.map (·.2)).toList[i],(d.map (·.2)).toList[i]):=by
   rw[← Z8,← m,ZU,Zq h];rfl
  obtain⟨x,t,ex⟩:=o _ (n.mem_iff.mp (Z7 h));unfold KK;rw[e];rw[ex];rfl
 have q:=p i j (Xv r) (by rw[← g.size_eq];simpa using l);rw[key i hi,key j l]at q;exact of_decide_eq_false q
def kI{A:P3}(r:∀(p:P3)(z:Xz),p.handled=A.handled->KM (GM prog w) p (collect x) (λf d=>(∀v∈f,∃x t,v=Value.str x t)/\f.length<64/\∀(out:W5)(i:SC)(e:Nat),out.Perm f->(out.map strOf).Pairwise (λa b=>¬b.cps.toList<a.cps.toList)->(∀b o,d.heap.get? b=Z o->i.get? b=Z o)->i.get? d.heap.objs.size=Z (seqObj "list" out.toArray e)->Q (.ref d.heap.objs.size) { d with heap:=i }) z s) :
  KM (GM prog w) A (call (.builtin "sorted") [x]) Q E s:=by
 refine Calls.call_function_entry kind_sorted plain_sorted entry_sorted (args_sorted1 _) (?_);refine Zv (Zl (Zv (YU (r A.in1 (λ_ _=>False) Y) ?_ λ_ _ e=>e.elim)));rintro l d ⟨g,u,h⟩;refine Zv (wpAny_newList ?_ (by rw[YO];omega));have j:(d.heap.push (seqObj "list" l.toArray 0)).get? d.heap.objs.size=Z (seqObj "list" l.toArray 0):=Ze _ Y;refine Zv (YB (Y4 slot_list_sort ⟨_,j,rfl⟩ entry_list_sort (list_sort_treeK strKind_oneLt j (strsAre_map _ g).keysOf (λD C rest e=>keyKind_strs (by rw[← e];exact strsAre_map _ g)) u λy n q=>⟨_,rfl,?_⟩) (args_list_sort _)));obtain⟨e,he⟩:=sortedHeap_at j;exact Zl ⟨_,rfl,h ((arrOf y).map (·.2)).toList _ e (og n).1 (uU g n q) (λb o m=>by
  have hb:=ZW m;rw[sortedHeap_old (Zg hb) (by rw[size_push'];exact Yo hb),Heap.get?_push_ne _ _ _ (Zg hb)];exact m) he⟩
end TS
namespace L2
open PySem PySem.Spec PyProof.Rows TS
section
def jy{X:Cx}(hc:X.calm=B):cB X (.builtin "sorted") (λA H Q=>∃p,∃(d:List Str)(j:List V),A=[.ref p]/\d.length<64/\d.length=j.length/\H p=Z (.dK ((d.map Sum.inr).zip j)) ∧
  ∀(l:KB)(z:List Str),H l=L->z.Perm d->z.Pairwise (λa b=>¬b.cps.toList<a.cps.toList)->Q (.ref l) (upd H l (.lst (z.map V.str)))):=by
 intro f s J H A us Q I N h;refine L2.ar λP_ S=>?_;obtain⟨p,d,j,rfl,Mc,hl,Y,q⟩:=h;obtain⟨u,rfl,P⟩:=N.one;cases P;obtain⟨U,hS,E,rel,r⟩:=rC I.oe Y;obtain⟨ep,r⟩:=r.dictAt;refine S ?_;have TB:E.length=d.length:=by
  have:=rel.length;rw[Yn,Zy]at this;lia
 refine TS.kI λA' E' hA=>PySem.W.kdu_collect (PySem.W.kdl_dict hS) (hA.trans (I.ok.hd hc)) r (by rw[Yn,Zy]at U;lia) λD M acc kp F=>?_;have G:Inv X f J H { s with heap:=D,toks:=M }:=I.kept kp;have T4:acc.toList.length=d.length:=by rw[Z4,F.1,TB]
 have each:∀i v,acc.toList[i]?=Z v->∃x t,v=Value.str x t/\d[i]?=Z x:=λi v g=>by
  rw[Z8]at g;obtain⟨k,x,e1,e2⟩:=F.2 i v g;have e3:=(λi=>by
  have C:((E.map (·.1)))[i]?=(d.map (Sum.inr:Str->Key))[i]?:=by
   rw[← rel.keys];rw[Wb (by rw[Zy];exact Xu hl)]
  rw[ZU,ZU]at C;exact C) i
  rw[e1]at e3;cases o:d[i]? with
  |none=>rw[o]at e3;cases e3
  |some y =>
   rw[o]at e3;have e5:=Zh e3;subst e5;obtain⟨t,rfl⟩:=Wc (e2);exact⟨y,t,rfl,o⟩
 have g:∀v∈acc.toList,∃x t,v=Value.str x t:=λv n=>by
  obtain⟨i,hi,e⟩:=List.getElem_of_mem n;obtain⟨x,t,e1,_⟩:=each i v (by rw[Zq hi,e]);exact⟨x,t,e1⟩
 have es:acc.toList.map strOf=d:=by
  apply Wg;intro i;rw[ZU];cases e:acc.toList[i]? with
  |none =>
   have:=Yk.mp e;rw[Yk.mpr (by lia)];rfl
  |some v =>
   obtain⟨x,t,rfl,e1⟩:=each i v e;rw[e1];rfl
 refine⟨g,by omega,λout h2 e m R L5 he=>?_⟩;exact⟨.ref D.objs.size,_,G.laid L5 (Zm _) (show c9 X.prog X.w _ h2 _ (.lst ((out.map strOf).map V.str)) from⟨(by rw[Zy,Zy,m.length_eq,T4,YO];omega),out,e,nh (λv n=>g v (m.mem_iff.mp n)),he⟩),rfl,q _ _ (G.oe.fresh (Zm _)) (by rw[← es];exact m.map _) R⟩
end
end L2
namespace VS
open PySem PySem.Spec PyProof.Rows L2
section
def gM:Vy->Vx
 |[(_,.dct 0 l)]=>(strs? (l.map (·.1))).bind λa=>if a.length<64/\a.all Lb=B then Z (.fr,.lst ((d7 a).map .str)) else L
 |_=>L
def yk:dE G (λn H Q=>∃p,∃(d:List Str)(f:List V),n=[.ref p]/\d.length<64/\d.length=f.length/\H p=Z (.dK ((d.map Sum.inr).zip f)) ∧
  ∀(l:KB)(g:List Str),H l=L->g.Perm d->g.Pairwise (λa b=>¬b.cps.toList<a.cps.toList)->Q (.ref l) (upd H l (.lst (g.map V.str)))) gM:=by
 intro M U J H l f N m t Q A e k;unfold gM at e;split at e
 ·rename_i D x;obtain⟨d,e1,e2⟩:=Zz.mp e;split at e2
  ·rename_i hb;refine L2.ar λE w=>?_;cases e2;obtain⟨v,F,rfl,rfl,q⟩:=(A.rp).one;obtain⟨a,u,j,o,Gs,rfl,rfl,z,h,rfl,r⟩:=eV q;refine w ?_;have C:u.length=o.length:=by rw[h,r.len.1]
   rw[(Wb (by rw[Zy];exact Xu C))]at e1;have i:=keys_str e1;refine⟨a,d.map sx,j,rfl,by rw[Zy];exact hb.1,?_,by rw[← i];exact z,qx k A.same λs y=>sJ (ZE.mp hb.2 s y)⟩;rw[← h,i,Zy,Zy,Zy]
  ·cases e2
 ·cases e
def t6{X:Cx}(a:X.mg "sorted" = L)(f:GE G X [e] cs)(b:{`q2,Gl X "sorted"})(g:{`q2,X.K=G.K})(d:{`q2,X.calm=B})(he:{`q2,K1 e [] X}):PV G X (.Call (.Name "sorted" p) [e] [] pos) (eN gM cs) :=
 gU (jy d) yk b a oq f (he:=he)
end
noncomputable def Ll:T->Bool
 |.bl true=>B
 |_=>O
mutual
def gT:T->Bool
 |.tup l=>dG l
 |.lst l=>dG l
 |.dct _ l=>qQ l
 |.obj _ l=>fg l
 |_=>B
def dG:Vw->Bool
 |[]=>B
 |t :: r=>gT t&&dG r
def qQ:List (T×T)->Bool
 |[]=>B
 | (_,v) :: r=>gT v&&qQ r
def fg:List (Nat×T)->Bool
 |[]=>B
 | (n,v) :: r=>(gT v && !(n==0&&Ll v))&&fg r
end
theorem hU:∀{b:Vw}{a:Vw},b.length=a.length->qQ (b.zip a)=B->dG a=B
 |[],[],_,_=>rfl
 |_ :: _,[],h,_=>nomatch h
 |[],_ :: _,h,_=>nomatch h
 |k :: b,t :: a,h,e=>by
  have e:=Zb.mp (e);exact Zb.mpr ⟨e.1,hU (Nat.succ.inj h) e.2⟩
theorem eB:∀{b:W7}{a:Vw},b.length=a.length->fg (b.zip a)=B->dG a=B
 |[],[],_,_=>rfl
 |_ :: _,[],h,_=>nomatch h
 |[],_ :: _,h,_=>nomatch h
 |k :: b,t :: a,h,e=>by
  have e:=Zb.mp (e);exact Zb.mpr ⟨(Zb.mp e.1).1,eB (Nat.succ.inj h) e.2⟩
section
theorem Rp.at{v:V}{t:T}(m:Me)(r:Rp G H v t F):gT t=B->Rp (G.at m) H v t F :=
 Rp.rec (G:=G) (H:=H) (motive_2:=λg e j _=>dG e=B->RpL (G.at m) H g e j)
  (λ_=>.non) (λb _=>.bl b) (λi _=>.int i) (λs h _=>.str s h) (λh _=>.scr h) (λh _ d f=>.tup h (d f)) (λh _ d f=>.lst h (d f))
  (λh l q d f=>.dct h l (d (hU (by rw[Zy,l];exact q.len.1) f))) (λh l q d f=>.dctT h l (d (hU (by rw[Zy,l];exact q.len.1) f)))
  (λh l n q d f=>.dctN h l n (d (hU (by rw[Zy,l];exact q.len.1) f))) (λh l q d f=>.dctZ h l (d (hU (by rw[Zy,l];exact q.len.1) f))) (λh u _=>.exc h u)
  (λ{c a y b x g e j} h l w q d f=>by
   have f:=Zb.mp (f);have hb:b=O:=by
    cases b with
    |false=>rfl
    |true=>exact nomatch f.1
   refine .ins h l (λz=>?_) (d (eB (by rw[l];exact q.len.1) f.2));rw[hb]at z;cases z)
  (λ_ _ _ f=>nomatch f)
  (λ_=>.nil) (λ_ _ p o f=>by
   have f:=Zb.mp f;exact .cons (p f.1) (o f.2)) r
theorem RpL.at(m:Me):∀{b:List V}{a:Vw}{d:Wm},RpL G H b a d->dG a=B->RpL (G.at m) H b a d:=by
 intro b a
 induction a generalizing b with
 |nil=>intro d r f;cases r;exact .nil
 |cons t a e =>
  intro d r f;cases r with
  |cons r q=>exact .cons (r.at m (Zb.mp f).1) (e q (Zb.mp f).2)
mutual
theorem ng:∀t:T,FW t=B->gT t=B
 |.non,_=>rfl
 |.bl _,_=>rfl
 |.int _,_=>rfl
 |.str _,_=>rfl
 |.scr _,_=>rfl
 |.tup l,h=>uJ l h
 |.lst _,h=>by cases h
 |.dct _ _,h=>by cases h
 |.obj _ _,h=>by cases h
theorem uJ:∀l:Vw,ij l=B->dG l=B
 |[],_=>rfl
 |t :: l,h=>by
  have h:=Zb.mp h;exact Zb.mpr ⟨ng t h.1,uJ l h.2⟩
end
end
def pS(k:Nat):T->Option T
 |.obj (_+1) (_ :: fs)=>(fs.findIdx? λp=>p.1==k).bind λi=>(fs[i]?).map (·.2)
 |_=>L
def aU(k:Nat)(a:Ex):Ex:=λU=>(a U).bind λx=>(pS k x.2).map λt=>sub x.1 t
section
def w_fld{X:Cx}(Jq:jL G)(F:GT G X.K k f)(ha:PV G X a ca)(A:{`q8,SZ a f X.env (eval a X.env)=eval a X.env}):PV G X (.Attribute a f pos) (aU k ca) :=
 PE.weak (we ha A) λJ H Q hq=>by
  refine L2.ar λP_ l=>?_;obtain⟨M,U,m,t,s,e,kq⟩:=hq;obtain⟨⟨mx,y⟩,ea,e1⟩:=Zz.mp e;obtain⟨z,d,e2⟩:=Zu.mp e1;refine l ?_;refine⟨M,U,mx,y,s,ea,λv H' F' sm r1 f1=>?_⟩;unfold pS at d;split at d
  ·rename_i c q0 fs hy;refine L2.ar λP_ l=>?_;subst hy;obtain⟨j,D,e3⟩:=Zz.mp d;obtain⟨p,C,e4⟩:=Zu.mp e3;subst e4;obtain⟨c',a,dx,b,ns,vs,Y,Fs,ec,rfl,rfl,rfl,rfl,hA,w,A,r⟩:=dW r1;cases ec;obtain⟨q,g,N,E,g3,g4⟩:=jR (λn=>n==k) (w.trans r.len.1) D;have ek:q=k:=by simpa using g3
   subst ek;have ep:p=(q,g):=by
    have:(ns.zip Y)[j]?=Z (q,g):=by rw[YM];exact⟨N,E⟩
    rw[this]at C;exact(Zh C).symm
   subst ep;obtain⟨u,Fi,S,R,h⟩:=r.get j E;refine l ?_;have P:=q9 (G:=G) (c:=c+1) Jq w D N S;rw[F.nm c]at P;refine⟨a,_,dx,_,u,rfl,hA,F.cl c,F.no c,P,?_⟩;have fp:=((f1.sub (Yu _ _)).sub (du R)).up h;unfold VS.sub at e2;rw[e2]at fp;have et:g=t:=congrArg Prod.snd e2;rw[et]at h;exact kq u H' Fi sm h fp
  ·cases d
def jo(i k:Nat)(e:Ex)(U:VS.Env):Option Out:=(e U).bind λv=>match U[i]? with
 |some (some (.ow (.obj (c+1) (q :: fs))))=>(fit v).bind λt=>if fs.length<900/\(fs.all λp=>!(p.1==k))=B then Z (.nx (U.set i (Z (.ow (.obj (c+1) (q :: (fs++[(k,t)]))))))) else L
 |_=>L
theorem rm{k:Nat}{v:V}(n:∀k m:Nat,g k=g m->k=m):∀{b:W7}{d:List V}{j:Vw},b.length=d.length->b.length=j.length->((b.zip j).all λp=>!(p.1==k))=B->iV (g k) v ((b.map g).zip d)=((b++[k]).map g).zip (d++[v])
 |[],[],_,_,_,_=>rfl
 |[],_ :: _,_,h,_,_=>by simp at h
 |_ :: _,[],_,h,_,_=>by simp at h
 |_ :: _,_ :: _,[],_,h,_=>by simp at h
 |u :: b,s :: d,t :: j,r,q,l=>by
  rw[ZV,XB,Ye]at l;rw[Zi,ZV,iV,Zn (λz=>by
   have:=n _ _ z;subst this;simp at l),rm n (by simpa using r) (by simpa using q) l.2]
  rfl
def kM{X:Cx}{pos:Pos}(i k:Nat)(Jq:jL G)(F:GT G X.K k f)(he:PV G X e ce)(hN:{`q8,X.N[i]?=Z x})(hv:Iw X.env.scope x:=by exact .inl Y)(hd:{`q8,K3 x})(A:{`q8,K4 x})(hs:{`q8,swapsWith e (Z (.Attribute (.Name x p1) f pos')) pos.line X.env=pure O}):PSV G X (.Assign [.Attribute (.Name x p1) f pos'] e pos) (jo i k ce) :=
 PS.weak (Cy (fZ hN hv hd A) he hs) λD J H hq=>by
  obtain⟨M,U,out,s,e,kq⟩:=hq;obtain⟨⟨mv,h⟩,ev,e⟩:=Zz.mp e;split at e
  ·rename_i c q0 fs u;obtain⟨t,et,e⟩:=Zz.mp e;cases (l6 et);split at e
   ·rename_i j;cases e;obtain⟨v,P,g2⟩:=s.rp _ _ u;refine⟨M,U,.fr,h,s,ev,λy H1 Fy p ry l=>⟨v,P,?_⟩⟩;refine L2.ar λP_ k_=>?_;obtain⟨c',a,S,b,ns,vs,n,Fs,ec,rfl,rfl,rfl,R,C,w,hb,q⟩:=dW g2;cases ec;refine k_ ?_;have nd:=s.nd i _ u;rw[R]at nd;have E:=ZX.mp nd;have Rq:=p a _ C;have r:FR (H1 a):=by rw[Rq];exact True.intro
    have Li:=w.trans q.len.1;have na:a∉Fy:=λz=>by rw[l.2 a z]at C;cases C
    refine⟨a,_,S,_,rfl,Rq,F.cl c,F.no c,(by
     have:=j.1;rw[Yn]at this ⊢;rw[Zy];lia),?_⟩
    have Q:=rm (k:=k) (v:=y) (Jq (c+1)) w Li j.2;rw[F.nm c]at Q;rw[Q];have off:=λd hb hw=>FR.lp (q.Ge d hb) (l.2 d hw);have g:Chg G H (.ref a) (M i) (.obj (c+1) ((0,.bl b) :: (ns.zip n++[(k,h)]))) (upd H1 a (.ins (G.ct (c+1)).1 S (((ns++[k]).map (G.ct (c+1)).2).zip (vs++[y])))) (a :: (Fs++[Fy]).flatten):=by
     rw[R,show ns.zip n++[(k,h)]=(ns++[k]).zip (n++[h]) from by rw[List.zip_append Li];rfl];refine Chg.upd p Zw r (.ins aw (by simp[w]) hb (((q.same p).off r E.1).append (.cons (ry.keep (Kept.upd (.inl r)) λd hb o ho=>by rw[aA (λz=>na (by rw[← z];exact hb))];exact ho) .nil))) ?_ ?_
     ·rw[Yi];refine ZX.mpr ⟨λm=>?_,ZL.mpr ⟨E.2,by simpa using l.1,λb hb c j z=>?_⟩⟩
      ·rcases Zd.mp m with m | m
       ·exact E.1 m
       ·exact na (by simpa using m)
      ·subst z;exact off b hb (by simpa using j)
     ·intro d hb;rcases Zk.mp hb with rfl | hb
      ·exact .inl Zw
      ·rw[Yi]at hb;rcases Zd.mp hb with hb | hb
       ·exact .inl (Zx _ hb)
       ·exact .inr (l.2 d (by simpa using hb))
    obtain⟨z1,z2⟩:=s.mut u P g;exact kq _ J _ z1 z2
   ·cases e
  ·cases e
end
noncomputable abbrev qY:=List (Nat×T)
noncomputable def Ir(a:KB):Me:=λk=>if k=0 then Z (.ref a) else L
abbrev Mt:=qY->Vw->Option (qY×T)
noncomputable def GY:List Bool->Wm->W4
 |b :: bs,F :: a=>(if b then F else [])++GY bs a
 |_,_=>[]
noncomputable def Jd:List Bool->Wm->W4
 |b :: bs,F :: a=>(if b then [] else F)++Jd bs a
 |_,_=>[]
theorem gy:∀{f:List Bool}{e:Wm}{j:Nat}{F:W4},f[j]?=Z B->e[j]?=Z F->F.Sublist (GY f e)
 |[],_,_,_,h,_=>by simp at h
 |_ :: _,[],_,_,_,h=>by simp at h
 |b :: bs,g :: e,0,F,d,a=>by
  simp at d a;subst d a;rw[GY,Zp Y];exact List.sublist_append_left _ _
 |b :: bs,g :: e,j+1,F,d,a=>by
  rw[GY];exact(gy (by simpa using d) (by simpa using a)).trans (YN _ _)
theorem oZ:∀{f:List Bool}{e:Wm}{j:Nat}{F:W4},f[j]?=Z O->e[j]?=Z F->F.Sublist (Jd f e)
 |[],_,_,_,h,_=>by simp at h
 |_ :: _,[],_,_,_,h=>by simp at h
 |b :: bs,g :: e,0,F,d,a=>by
  simp at d a;subst d a;rw[Jd];exact List.sublist_append_left _ _
 |b :: bs,g :: e,j+1,F,d,a=>by
  rw[Jd];exact(oZ (by simpa using d) (by simpa using a)).trans (YN _ _)
theorem uB:∀{o:List Bool}{d:Wm}{i j:Nat}{F m:W4},(GY o d).Nodup->o[i]?=Z B->o[j]?=Z B->d[i]?=Z F->d[j]?=Z m->i≠j->∀a∈F,a∉m
 |[],_,_,_,_,_,_,h,_,_,_,_=>by simp at h
 |_ :: _,[],_,_,_,_,_,_,_,h,_,_=>by simp at h
 |b :: bs,r :: d,0,0,F,m,_,_,_,_,_,n=>absurd Y n
 |b :: bs,r :: d,0,j+1,F,m,nd,l,g,f,e,n=>λa p q=>by
  simp at l f;subst l f;rw[GY,Zp Y,ZL]at nd;exact nd.2.2 a p a ((gy (by simpa using g) (by simpa using e)).subset q) Y
 |b :: bs,r :: d,i+1,0,F,m,nd,l,g,f,e,n=>λa p q=>by
  simp at g e;subst g e;rw[GY,Zp Y,ZL]at nd;exact nd.2.2 a q a ((gy (by simpa using l) (by simpa using f)).subset p) Y
 |b :: bs,r :: d,i+1,j+1,F,m,nd,l,g,f,e,n=>by
  rw[GY,ZL]at nd;exact uB nd.2.1 (by simpa using l) (by simpa using g) (by simpa using f) (by simpa using e) (by lia)
theorem uP:∀{e:List Bool}{d:Wm}{a:KB},a∈GY e d->∃(j:Nat)(F:W4),e[j]?=Z B/\d[j]?=Z F/\a∈F
 |[],_,_,h=>by simp[GY]at h
 |_ :: _,[],_,h=>by simp[GY]at h
 |b :: bs,m :: d,a,h=>by
  rw[GY]at h;rcases Zd.mp h with h | h
  ·cases b with
   |true=>exact⟨0,m,rfl,rfl,h⟩
   |false=>simp at h
  ·refine L2.ar λn f=>?_;obtain⟨j,F,l,i,g⟩:=uP h;refine f ?_;exact⟨j+1,F,by simpa using l,by simpa using i,g⟩
noncomputable def mP(b:Bool)(t:T):Vz:=Z (if b then .ow t else .pu t)
def vM(c:Nat)(U:VS.Env):Option qY:=match (U[(0:Nat)]?:Option (Vz)) with
 |some (some (.ow (.obj a ((0,.bl true) :: fs))))=>if a=c+1 then Z fs else L
 |_=>L
def Hl(c d f:Nat)(e:List Bool)(body:Sx):Mt:=λfs a=>if a.length+1=d/\e.length=a.length then
 (body ((Z (.ow (.obj (c+1) ((0,.bl B) :: fs))) :: List.zipWith mP e a)++List.replicate (f-d) L)).bind λo=>match o with
  |.rt v U=>(vM c U).bind λb=>if FW v.2 then Z (b,v.2) else L
  |.nx U=>(vM c U).map λb=>(b,.non)
  |_=>L else L
def Jb(G:Gx)(c:Nat)(d:List Bool)(g:Mt):Sp:=λl H Q _=>∃(a:KB)(i:List V)(fs:qY)(f:Vw)(F:W4)(e:Wm)(j:qY)(x:T),l=.ref a :: i/\Rp (G.at (Ir a)) H (.ref a) (.obj (c+1) ((0,.bl B) :: fs)) F ∧
 RpL (G.at (Ir a)) H i f e/\d.length=f.length/\(F++GY d e).Nodup/\(∀b∈F++GY d e,b∉Jd d e)/\g fs f=Z (j,x) ∧
 ∀u h m,Chg (G.at (Ir a)) H (.ref a) (F++GY d e) (.obj (c+1) ((0,.bl B) :: j)) h m->Rp (G.at (Ir a)) h u x []->Q u h
section
def xS{f:List Bool}(r0:Rp G H v t F)(r:RpL G H E d l)(hm:f.length=d.length)(x:(F++GY f l).Nodup)(S:∀b∈F++GY f l,b∉Jd f l)(n U:Nat)(hn:U=E.length+1) :
  SR G (λi=>(F :: l).getD i []) ((Z (.ow t) :: List.zipWith mP f d)++List.replicate (n-(d.length+1)) L) ((v :: E).map Z++List.replicate (n-U) L) H ∧
  ∀a,cE (λi=>(F :: l).getD i []) ((Z (.ow t) :: List.zipWith mP f d)++List.replicate (n-(d.length+1)) L) a->a∈F++GY f l:=by
 subst hn;have hl:=r.len;have M:(List.zipWith mP f d).length=d.length:=by rw[List.length_zipWith,hm,Xh]
 have back:∀{i:Nat}{c:Cell},((Z (Cell.ow t) :: List.zipWith mP f d)++List.replicate (n-(d.length+1)) L)[i]?=Z (Z c)->(i=0/\c=.ow t)\/∃(j:Nat)(b:Bool)(u:T),i=j+1/\f[j]?=Z b/\d[j]?=Z u/\c=(if b then .ow u else .pu u):=λ{i c} h=>by
  cases i with
  |zero=>exact .inl ⟨rfl,(Zh (Zh h)).symm⟩
  |succ j =>
   rw[YR,List.getElem?_cons_succ]at h;by_cases J:j<d.length
   ·rw[Z5 (by rw[M];exact J),List.getElem?_zipWith]at h;have e1:=Zq (by rw[hm];exact J);have e2:=Zq J;rw[e1,e2]at h;exact .inr ⟨j,_,_,rfl,e1,e2,(Zh (Zh h)).symm⟩
   ·rw[Yy (by rw[M];exact ZP J),YW]at h;split at h<;>cases h
 have fp:∀{j:Nat}{u:T},d[j]?=Z u->∃w s,E[j]?=Z w/\l[j]?=Z s/\Rp G H w u s:=λ{j u} h=>r.get j h;have ow:∀{i:Nat}{u:T},((Z (Cell.ow t) :: List.zipWith mP f d)++List.replicate (n-(d.length+1)) L)[i]?=Z (Z (.ow u))->i=0\/∃j:Nat,i=j+1/\f[j]?=Z B/\d[j]?=Z u:=λ{i u} h=>by
  rcases back h with⟨p,g⟩ | ⟨j,b,R,p,g,o,y⟩
  ·exact .inl p
  ·cases b with
   |true=>cases y;exact .inr ⟨j,p,g,o⟩
   |false=>cases y
 rw[ZL]at x;refine⟨⟨?_,λi c h=>?_,λi u h=>?_,λi j u c p g n=>?_⟩,λa ⟨i,u,p,g⟩=>?_⟩
 ·simp[M];lia
 ·rcases back h with⟨rfl,rfl⟩ | ⟨j,b,u,rfl,g,o,y⟩
  ·exact⟨v,rfl,r0⟩
  ·obtain⟨w,s,A,e,C⟩:=fp o;refine⟨w,?_,?_⟩
   ·rw[Zi,YR,List.getElem?_cons_succ,Z5 (by rw[Zy];exact(ZZ.mp A).1),ZU,A];rfl
   ·rw[YG,Zr,e,y];cases b<;>exact C
 ·rcases ow h with rfl | ⟨j,rfl,g,o⟩
  ·exact x.1
  ·obtain⟨w,s,A,e,C⟩:=fp o;rw[YG,Zr,e];exact x.2.1.sublist (gy g e)
 ·rcases ow p with rfl | ⟨X,rfl,Q,a3⟩
  ·rcases back g with⟨rfl,_⟩ | ⟨j',b,R,rfl,D,P,_⟩
   ·exact absurd Y n
   ·obtain⟨w,s,A,e,C⟩:=fp P;intro a m;rw[YG,Zr,e];intro q;cases b with
    |true=>exact x.2.2 a m a ((gy D e).subset q) Y
    |false=>exact S a (Yv _ m) ((oZ D e).subset q)
  ·obtain⟨w,Fi,A,e,C⟩:=fp a3;have ei:(F :: l).getD (X+1) []=Fi:=by rw[YG,Zr,e];rfl
   show ∀a∈(F :: l).getD (X+1) [],_;rw[ei];rcases back g with⟨rfl,_⟩ | ⟨j',b,R,rfl,D,P,_⟩
   ·exact λa m q=>x.2.2 a q a ((gy Q e).subset m) Y
   ·obtain⟨w',s,k1,N,k3⟩:=fp P;intro a m;rw[YG,Zr,N];intro q;cases b with
    |true=>exact uB x.2.1 Q D e N (λz=>n (by rw[z])) a m q
    |false=>exact S a (ZM _ ((gy Q e).subset m)) ((oZ D N).subset q)
 ·rcases ow p with rfl | ⟨j,rfl,o,y⟩
  ·exact Yv _ g
  ·obtain⟨w,s,A,e,C⟩:=fp y;have J8:a∈(F :: l).getD (j+1) []:=g;rw[YG,Zr,e]at J8;exact ZM _ ((gy o e).subset J8)
def wQ(h:vM c U=Z a):U[0]?=Z (Z (.ow (.obj (c+1) ((0,.bl B) :: a)))):=by
 unfold vM at h;split at h
 ·rename_i d f e;split at h
  ·rename_i b;cases h;rw[e,b]
  ·cases h
 ·cases h
end
section
variable{K:W0}
def Ew{G:Gx}{X:List Str}(ok:∀{sp:Sp},(∀j H Q E,sp j H Q E->j.length=X.length)->(∀(n:KF)(A:P3)(outer:List PySem.Env)(s:FS)(H:Hp)(j:List V)(Q:VK)(E:XK),jj k (A.deeper (envOfC d (ai x) s.heap.objs.size f n))->sp j H Q E →
   ∃t,Hq (jI GF P w K mg base N d (ai x) f n A outer s H E).IC (aY x) t/\t { nx:=λ_ g=>Q .non g,rt:=Q } (L2.start N j) H)->FnOk P w K mg base GF (k+1) f fd X sp)(hp:X.length=np)(hn:N.length=M)(hb:∀(a:KB)(n:KF)(A:P3)(outer:List PySem.Env)(s:FS)(H:Hp)(E:XK),jj k (A.deeper (envOfC d (ai x) s.heap.objs.size f n))->iJ (G.at (Ir a)) (jI GF P w K mg base N d (ai x) f n A outer s H E).IC (aY x) l) :
  FnOk P w K mg base GF (k+1) f fd X (Jb G c mv (Hl c np M mv l)):=by
 refine ok (λj H Q E h=>?_) λn A outer s H j Q E hr h=>?_
 ·refine L2.ar λP_ p=>?_;obtain⟨a,J,fs,ts,F,Fs,Ht,y,rfl,r0,r,hm,nd,sp,e,q⟩:=h;refine p ?_;unfold Hl at e;split at e
  ·rename_i hl;rw[Zf,r.len.1,hl.1,hp]
  ·cases e
 ·refine L2.ar λP_ p=>?_;obtain⟨a,J,fs,ts,F,Fs,Ht,y,rfl,r0,r,hm,nd,sp,e,q⟩:=h;refine p ?_;refine⟨_,hb a n A outer s H E hr,?_⟩;unfold Hl at e;split at e
  ·rename_i hl;obtain⟨o,e1,e2⟩:=Zz.mp e;obtain⟨s0,JX⟩:=xS r0 r hm nd sp M (J.length+1) Y;rw[hl.1]at s0 JX;have e3:L2.start N (V.ref a :: J)=(V.ref a :: J).map Z++List.replicate (M-(J.length+1)) L:=by
    unfold L2.start;rw[hn];rfl
   rw[e3];have fin:∀{m:VS.Env}{D:FP}{J':L2.St}{g:Hp},vM c m=Z Ht->SR (G.at (Ir a)) D m J' g->GA (λi=>(F :: Fs).getD i []) ((Z (.ow (.obj (c+1) ((0,.bl B) :: fs))) :: List.zipWith mP mv ts)++List.replicate (M-np) L) H D m g →
     Chg (G.at (Ir a)) H (.ref a) (F++GY mv Fs) (.obj (c+1) ((0,.bl B) :: Ht)) g (D 0):=λ{m D J' g} Lw C fr=>by
    have h0:=wQ Lw;refine L2.ar λP_ p=>?_;obtain⟨v',g1,g2⟩:=C.rp 0 _ h0;have Mf:=g2;obtain⟨c',a',dx,b,ns,j,IA,HV,ec,rfl,eb,_,eF,hA,Vh,U,ra⟩:=dW Mf;have Jg:b=B:=by cases eb;rfl
    cases (U Jg);refine p ?_;refine⟨fr.kept,λS o' U ho=>(fr.keep S o' ho λz=>U (JX S z)).1,fr.Ge,Mf,C.nd 0 _ h0,λS U=>?_⟩;rcases fr.ow S ⟨0,_,h0,U⟩ with z | z
    ·exact .inl (JX S z)
    ·exact .inr z
   refine⟨_,_,o,s0,e1,?_⟩;cases o with
   |nx m =>
    refine L2.ar λP_ p=>?_;obtain⟨Uc,e4,R⟩:=Zu.mp e2;cases R;refine p ?_;intro D J' g C fr;exact q .non g _ (fin e4 C fr) .non
   |rt v m =>
    obtain⟨Uc,e4,R⟩:=Zz.mp e2;split at R
    ·rename_i hi;cases R;intro u g F' D J' C fr r' rf;have:=r'.FW hi;subst this;exact q u g _ (fin e4 C fr) r'
    ·cases R
   |bk m=>cases e2
   |ct m=>cases e2
  ·cases e
def Rx{G:Gx}(F:xh K x d g f o)(S:bt N h (ai g))(p:h.length=j)(q:N.length=m)(r:∀(a:KB)(i:KF)(A:P3)(outer:List PySem.Env)(s:FS)(H:Hp)(E:XK),jj k (A.deeper (envOfC d (ai g) s.heap.objs.size f i))->iJ (G.at (Ir a)) (jI GF P w K mg base N d (ai g) f i A outer s H E).IC (aY g) e) :
  FnOk P w K mg base GF (k+1) f o h (Jb G c n (Hl c j m n e)):=Ew (λl b=>F.ok S l b) p q r
structure Jk(K:W0)(x qual:Str)(st:Stmt)(f:KB)(fd:Pi):Prop where
 ex:∃(T:KB)(oc:KF)(od:Option KB)(kV doc pm:KF)(an:Option KB)(xb ct:KF)(Je:Array (W6))(o:Obj)(n:Nat),
  fd=PySem.W.fnOf x qual (cG st) (aY st) (ai st) (.ref T) kV doc pm an xb ct/\K.lookup f=some ⟨oc,od,.func fd,Je⟩/\PySem.W.codeIn K xb qual=true/\K.lookup T=some o/\o.data=.seq #[.none] n
 kp:PySem.W.keepIn K (.ref f)=true
def Jk.ok(F:Jk K x a d f m)(S:bt N i (ai d))(j:∀b H Q E,g b H Q E->b.length=i.length)(v:∀(e:KF)(A:P3)(outer:List PySem.Env)(s:FS)(H:Hp)(b:List V)(Q:VK)(E:XK),jj k (A.deeper (envOfC a (ai d) s.heap.objs.size f e))->g b H Q E →
   ∃t,Hq (jI GF P w K mg base N a (ai d) f e A outer s H E).IC (aY d) t/\t { nx:=λ_ y=>Q .non y,rt:=Q } (L2.start N b) H):FnOk P w K mg base GF (k+1) f m i g:=by
 refine L2.ar λC p=>?_;obtain⟨T,oc,z,kV,doc,pm,an,e,ct,D,o,n,rfl,lk,l,_⟩:=F.ex;refine p ?_;refine A7 lk l S j λA outer s H b Q E r u=>?_;obtain⟨t,h,q⟩:=v e A outer s H b Q E r u;exact⟨t,h.IC,q⟩
def Jk.binds{g:List Str}(F:Jk K x a d f j)(h:∀(s:FS)(T:KB)(kV doc pm:KF)(an:Option KB)(e ct:KF)(o:Obj)(n:Nat)(b:W5),K.In s.heap->K.lookup T=Z o->o.data=.seq #[.none] n->b.length=g.length->BindsTo s (PySem.W.fnOf x a (cG d) (aY d) (ai d) (.ref T) kV doc pm an e ct) ⟨b,[]⟩ (g.zip b)):Binds K j g []:=by
 obtain⟨T,oc,q,kV,doc,pm,an,e,ct,r,o,n,rfl,lk,p,m,l⟩:=F.ex;intro s b X i;rw[ZJ]at i ⊢;exact h s T kV doc pm an e ct o n b X m l i
end
def argsOk:List Bool->Vy->Bool
 |[],[]=>B
 |b :: bs,v :: a=>(if b then v.1 == .fr else FW v.2)&&argsOk bs a
 |_,_=>O
def lG(c:Nat)(e:List Bool)(g:Mt)(a:Vy):T->Option (T×Val)
 |.obj d ((0,.bl b) :: fs)=>if d=c+1/\fg fs=B/\argsOk e a=B/\dG (trees a)=B then (g fs (trees a)).bind λz=>if fg z.1=B/\FW z.2=B then Z (.obj d ((0,.bl b) :: z.1),(.fr,z.2)) else L else L
 |_=>L
def bB(i:Nat)(a:List Ip)(c:Nat)(d:List Bool)(g:Mt)(f:Gf)(U:VS.Env):Option (Val×VS.Env):=match (U[i]?:Option (Vz)) with
 |some (some (.ow t))=>(keys a U).bind λe=>(f U).bind λb=>(pm (lG c d g b) e t).map λz=>(z.2,U.set i (Z (.ow z.1)))
 |_=>L
def tX(G:Gx)(x:Xx):TE:=λJ H Q=>∃M U v b,SR G M U J H/\x U=Z (v,b)/\FW v.2=B/\∀u a d,SR G d b J a->GA M U H d b a->Rp G a u v.2 []->Q u a
def PX(G:Gx)(X:Cx)(e:Expr)(x:Xx):Prop:=PE X e (tX G x)
theorem jr:∀{d:List Bool}{a:Vy},argsOk d a=B->d.length=a.length
 |[],[],_=>rfl
 |[],_ :: _,h=>nomatch h
 |_ :: _,[],h=>nomatch h
 |b :: bs,v :: e,h=>by
  rw[Zf,Zf,jr (Zb.mp h).2]
theorem mF:∀{e:List Bool}{d:Vy}{Fs:Wm},argsOk e d=B->(GY e Fs).Sublist (G2 d Fs)
 |[],[],_,_=>by simp[GY]
 |[],_ :: _,_,h=>nomatch h
 |_ :: _,[],_,h=>nomatch h
 |b :: bs,v :: f,[],h=>by simp[GY]
 |b :: bs,(m,t) :: f,F :: Fs,h=>by
  have h:=Zb.mp h;have a:=mF (Fs:=Fs) h.2;rw[GY];cases b with
  |true =>
   have:m=.fr:=by simpa using h.1
   subst this;exact List.Sublist.append (Xf _) a
  |false =>
   rw[Zn Zc,YK];cases m with
   |fr=>exact a.trans (YN _ _)
   |pu=>exact a
   |bo=>exact a
theorem pG:∀{d:List Bool}{a:Vy}{f:List V}{e:Wm},argsOk d a=B->RpL G H f (trees a) e->Jd d e=[]
 |[],[],_,_,_,_=>by simp[Jd]
 |[],_ :: _,_,_,h,_=>nomatch h
 |_ :: _,[],_,_,h,_=>nomatch h
 |b :: bs,(m,t) :: i,_,_,h,r=>by
  have h:=Zb.mp h;cases r with
  |cons g q =>
   rw[Jd,pG h.2 q,ZJ];cases b with
   |true=>rfl
   |false=>exact g.FW (by simpa using h.1)
def uC(h:argsOk e d=B)(f:KG M U H d m):∀a∈GY e m,H a=L:=λa o=>by
 obtain⟨j,F,g,q,p⟩:=uP o;have key:∀{e:List Bool}{d:Vy}{j:Nat},argsOk e d=B->e[j]?=Z B->∃v,d[j]?=Z v/\v.1=.fr:=by
  intro e
  induction e with
  |nil=>intro d j _ h;simp at h
  |cons b bs n =>
   intro d j h g;cases d with
   |nil=>exact nomatch h
   |cons v r =>
    have h:=Zb.mp h;cases j with
    |zero =>
     simp at g;subst g;exact⟨v,rfl,by simpa using h.1⟩
    |succ j =>
     obtain⟨w,l,i⟩:=n h.2 (by simpa using g);exact⟨w,by simpa using l,i⟩
 obtain⟨v,l,i⟩:=key h g;have:=f.each j v F l q;rw[i]at this;exact this.2 a p
section
def rj(Jq:jL G)(hn:∀k,(G.ct (c+1)).2 k≠m)(ht:∀M U q J H (R:List V->Hp->Prop),SR G M U J H->cs U=Z q->(∀j p Fs,aJ H p->RpL G p j (trees q) Fs->KG M U H q Fs->R j p)->t J H R)(h:tX G (bB i way c mv g cs) J H Q):uv (G.ct (c+1)).1 m (Jb G c mv g) [] E (NA G i way) t J H Q:=by
 refine L2.ar λP_ l=>?_;obtain⟨M,U,v,U',s,e,TH,kq⟩:=h;refine l ?_;unfold bB at e;split at e
 ·rename_i t0 N;refine L2.ar λP_ l=>?_;obtain⟨ks,ek,e3⟩:=Zz.mp e;obtain⟨q,el,e4⟩:=Zz.mp e3;obtain⟨⟨t',x2⟩,e5,e6⟩:=Zu.mp e4;cases e6;obtain⟨v0,h1,h2⟩:=s.rp _ _ N;obtain⟨w,x,F1,x3,w1,w2,w3,r,w5⟩:=mK ks Jq h2 (s.nd i t0 N) e5;refine l ?_;unfold lG at r;split at r
  ·rename_i c1 b fs;split at r
   ·rename_i hc;obtain⟨rfl,JJ,P,MY⟩:=hc;obtain⟨⟨Ht,y⟩,eg,e7⟩:=Zz.mp r;split at e7
    ·rename_i JI;refine L2.ar λP_ l=>?_;cases e7;obtain⟨c',a,dx,b',ns,j,ts,Fs,ec,rfl,eb,rfl,eF,hA,hl,hb,ra⟩:=dW w2;cases ec;cases eb;refine l ?_;have Li:=hl.trans ra.len.1;refine⟨M,U,t0,ks,v0,.ref a,s,N,h1,ek,w1,λH1 F=>⟨a,dx,_,rfl,F a _ hA,?_,?_⟩⟩
     ·have key:∀(ns:W7)(j:List V),((ns.map (G.ct (c+1)).2).zip j).lookup m=L:=by
       intro ns
       induction ns with
       |nil=>intro j;simp
       |cons n ns ih =>
        intro j;cases j with
        |nil=>simp
        |cons v j =>
         rw[Zi,ZV,Yq];have:(m==(G.ct (c+1)).2 n)=O:=by
          rw[ZO];exact λz=>hn n z.symm
         rw[this];exact ih j
      exact key ns j
     ·refine ht M U q J H1 _ (s.same F) el λus H2 Gs GO LZ LJ=>?_;have C:=F.trans GO;have Lh:=uC P (⟨λn v' S a1 a2=>(LJ.each n v' S a1 a2).back F,LJ.nd⟩);refine⟨a,us,ns.zip ts,trees q,F1,Gs,Ht,y,by rw[ZJ],?_,LZ.at (Ir a) MY,?_,?_,?_,eg,λu p S A ru=>?_⟩
      ·rw[eF];exact .ins (C a _ hA) hl (λ_=>rfl) ((ra.same C).at (Ir a) (eB Li JJ))
      ·rw[jr P];simp[trees]
      ·refine ZL.mpr ⟨w3,LJ.nd.sublist (mF P),λd D b2 LF z=>?_⟩;subst z;exact FR.lp (w2.Ge d D) (Lh d LF)
      ·rw[pG P LZ];exact λd _ z=>nomatch z
      ·have back:Rp G p (.ref a) (.obj (c+1) ((0,.bl b) :: Ht)) S:=by
        refine L2.ar λP_ l=>?_;obtain⟨c2,a2,RX,b2,OB,P6,Og,R5,LL,Nb,PN,PM,Nc,M5,HJ,LF,Jy⟩:=dW A.rp;cases LL;cases Nb;subst PM;refine l ?_;rw[Nc];exact .ins M5 HJ hb (Jy.at G.me (eB (HJ.trans Jy.len.1) JI.1))
       obtain⟨F2,g2⟩:=w5 p S (⟨(Kept.of C).trans A.kept,λd o1 D Y=>A.keep d o1 (λz=>(Zd.mp z).elim D λz=>by rw[Lh d z]at Y;cases Y) (C d o1 Y),λd h=>A.Ge d λz=>h (C.free z),back,A.nd,λd D=>by
        rcases A.sub d D with z | z
        ·rcases Zd.mp z with z | z
         ·exact .inl z
         ·exact .inr (Lh d z)
        ·exact .inr (C.free z)⟩)
       obtain⟨z1,z2⟩:=s.mut N h1 g2;exact kq u p _ z1 z2 (ru.at G.me (ng y JI.2))
    ·cases e7
   ·cases r
  ·cases r
 ·cases e
def yV(y:jL G)(q:∀k,(G.ct (c+1)).2 k≠m)(p:II G X o i way)(u:G6 X.K (G.ct (c+1)).1)(r:Meth X.K (G.ct (c+1)).1 m f)(F:FnOk X.prog X.w X.K X.mg X.base GF k f fd ps (Jb G c mv g))(n:jj k' X.A)(t:k<=k')(v:Binds X.K fd ps [])(x:GE G X (e :: es) cs)(z:K1 e es X)(a:K2 pos es X)(l:eval (.Call (.Attribute o m apos) (e :: es) [] pos) X.env=(do
   let b ← eval o X.env
   standAt apos.atName
   let (f,first) ← holding [b] (getMethod b m j)
   callWith pos f first (backTo pos (PP (e :: es) X.env)) (backToKw pos (Re [] X.env)))):PX G X (.Call (.Attribute o m apos) (e :: es) [] pos) (bB i way c mv g cs) :=
 PE.weak (qi p u r F (n.mono t) v .nil lD x z a l) λJ H Q h=>rj y q (λM U d J H R s e k=>⟨M,U,d,s,e,k⟩) h
def yP(u:jL G)(n:∀k,(G.ct (c+1)).2 k≠m)(l:II G X o i way)(r:G6 X.K (G.ct (c+1)).1)(p:Meth X.K (G.ct (c+1)).1 m f)(F:FnOk X.prog X.w X.K X.mg X.base GF k f fd ps (Jb G c mv g))(j:jj k' X.A)(q:k<=k')(t:Binds X.K fd ps [])(d:eval (.Call (.Attribute o m apos) [] [] pos) X.env=(do
   let a ← eval o X.env
   standAt apos.atName
   let (f,first) ← holding [a] (getMethod a m b)
   callWith pos f first (backTo pos (PP [] X.env)) (backToKw pos (Re [] X.env)))):PX G X (.Call (.Attribute o m apos) [] [] pos) (bB i way c mv g ag) :=
 PE.weak (qA l r p F (j.mono q) t .nil lD d) λJ H Q h=>rj u n (λM U x J H R s e k=>by
  cases (e);exact k [] H [] (aJ.refl _) .nil ⟨λi v F h=>by simp at h,by simp[G2]⟩) h
def NF(x:Xx):Sx:=λU=>(x U).bind λz=>if FW z.1.2 then Z (.nx z.2) else L
def jq(j:Nat)(x:Xx):Sx:=λU=>(x U).bind λz=>if FW z.1.2=B/\j<z.2.length then Z (.nx (z.2.set j (Z (.pu z.1.2)))) else L
def rP(x:Xx):Sx:=λU=>(x U).bind λz=>if FW z.1.2 then Z (.rt (.fr,z.1.2) z.2) else L
def qu{pos:Pos}(h:PX G X e x)(l:swapsWith e L pos.line X.env=pure O):PSV G X (.Expr e pos) (NF x) :=
 PS.weak (jg h l) λD J H b=>by
  obtain⟨M,U,out,s,e,k⟩:=b;obtain⟨⟨v,d⟩,e1,e2⟩:=Zz.mp e;split at e2
  ·rename_i hi;cases e2;exact⟨M,U,v,d,s,e1,hi,λu n j a f r=>k j J n a f⟩
  ·cases e2
def zJ(h:PX G X e x):PSV G X (.Return (Z e) pos) (rP x) :=
 PS.weak (p6 h) λD J H d=>by
  obtain⟨M,U,out,s,e,k⟩:=d;obtain⟨⟨v,j⟩,e1,e2⟩:=Zz.mp e;split at e2
  ·rename_i hi;cases e2;exact⟨M,U,v,j,s,e1,hi,λu n l b f r=>k u n [] l J b f r ⟨YY,λa h=>nomatch h⟩⟩
  ·cases e2
def pk{pos:Pos}(h:PX G X e x)(C:X.N.Nodup)(l:X.N[j]?=Z d)(w:Loc X.env.scope d)(y:swapsWith e (Z (.Name d b)) pos.line X.env=pure O)(A:X.fn d=B\/X.env.scope.names.lookup d=Z .local) :
  PSV G X (.Assign [.Name d b] e pos) (jq j x) :=
 PS.weak (sG C l w h y A) λD J H z=>by
  obtain⟨M,U,out,s,e,k⟩:=z;obtain⟨⟨v,E⟩,e1,e2⟩:=Zz.mp e;split at e2
  ·rename_i l;cases e2;refine⟨M,U,v,E,s,e1,l.1,λu n F p f r=>?_⟩;obtain⟨t,q⟩:=p.val (m:=.fr) l.2 (aJ.refl n) r ⟨YY,λa h=>nomatch h⟩ (.inl ⟨rfl,by decide⟩);exact k _ _ n t (f.trans q)
  ·cases e2
def jW(i:Nat)(a:List Ip)(k:Ex)(x:Xx):Sx:=λU=>(x U).bind λz=>if FW z.1.2 then fL i a k (λ_=>Z (.fr,z.1.2)) z.2 else L
def wb{mv:Md}(Jq:jL G)(s:SR G M U J H)(S:U[i]?=Z (Z (.ow t)))(ek:keys way U=Z Q)(Kw:ck U=Z (mk,b))(e5:pm (jA (mk,b) (mv,p)) Q t=Z (t',y'))(He:aJ H H1)(rv:Rp G H1 xv p Fv)(Y:Fp M U H mv Fv)(k:∀M' H',SR G M' (U.set i (Z (.ow t'))) J H'->GA M U H M' (U.set i (Z (.ow t'))) H'->D J H'):D3 (NA G i way) (tE G ck) Bi xv J H1 D:=by
   refine L2.ar λP_ R=>?_;obtain⟨v,g1,g2⟩:=s.rp _ _ S;obtain⟨w,x,F1,x3,w1,w2,w3,C,w5⟩:=mK Q Jq g2 (s.nd i t S) e5;refine R ?_;refine⟨M,U,t,Q,v,w,s.same He,S,g1,ek,w1.same He,λH2 GO=>⟨M,U,mk,b,(s.same He).same GO,Kw,λkv H3 Fk Ib rk fk=>?_⟩⟩;have q:=(He.trans GO).trans Ib;have JV:=(rv.same GO).same Ib;have fin:∀F A,Chg G H w F1 x3 F A->D J F:=λF A g=>by
    obtain⟨F2,Mf⟩:=w5 F A g;obtain⟨z1,z2⟩:=s.mut S g1 Mf;exact k _ F z1 z2
   refine L2.ar λP_ R=>?_;cases x with
   |lst l =>
    cases b with
    |int n =>
     obtain⟨tt,et,e7⟩:=Zz.mp (C);obtain⟨j,ej,e8⟩:=Zu.mp e7;cases e8;cases (l6 et);obtain⟨a,vs,Fs,rfl,rfl,N,u⟩:=w2.lst_inv;have E:=q a _ N;have nd:=ZX.mp w3;have na:a∉Fv:=λz=>by rw[Y.2 a z]at N;cases N
     have y:FR (H3 a):=by rw[E];exact True.intro
     have off:=λd hb hv=>FR.lp (u.Ge d hb) (Y.2 d hv);refine R ?_;refine .inl ⟨a,vs,n,j,rfl,rk.int_inv,E,by rw[← sv,u.len.1];exact ej,fin _ (a :: (Fs.set j Fv).flatten) ?_⟩;refine Chg.upd q Zw y (.lst aw ((((u.same q).off y nd.1)).putAt j ((λr hn=>r.keep (Kept.upd (.inl y)) λd hb o' Ii=>by rw[aA (λz=>hn (by rw[← z];exact hb))];exact Ii) JV na))) ?_ ?_
     ·rw[ZX];refine⟨λh=>?_,dJ nd.2 Y.1 λi' A _ hi d hb=>off d (dc hi hb)⟩;rcases cF h with z | ⟨i',A,_,h1,h2⟩
      ·exact na z
      ·exact nd.1 (dc h1 h2)
     ·intro d hb;rcases Zk.mp hb with rfl | hb
      ·exact .inl Zw
      ·rcases cF hb with z | ⟨i',A,_,h1,h2⟩
       ·exact .inr (Y.2 d z)
       ·exact .inl (Zx _ (dc h1 h2))
    |_=>cases C
   |dct kd l =>
    cases kd with
    |zero =>
     have hc:(jB b=B/\FW p=B/\l.length<dq)/\x3=.dct 0 (dput l b p):=by
      have La:(if jB b/\FW p/\l.length<dq then Z (T.dct 0 (dput l b p),()) else L)=Z (x3,y'):=C;split at La
      ·rename_i hc;cases La;exact⟨hc,rfl⟩
      ·cases La
     obtain⟨⟨c1,c2,c3⟩,rfl⟩:=hc;have eF:=JV.FW c2;subst eF;obtain⟨a,ns,vs,ts,Fs,rfl,rfl,N,hl,rfl,u⟩:=eV w2;obtain⟨kk,rfl,JR⟩:=d5 rk c1;subst JR;have E:=q a _ N;have y:FR (H3 a):=by rw[E];exact True.intro
     have nd:=ZX.mp w3;obtain⟨L4,Iq,IA,HV,q1,q2,q3,q4,P⟩:=sC JV hl (u.same q);refine R ?_;refine .inr ⟨a,_,rfl,sA.k E (by
      have:((ns.map aT).zip ts).length<16777216:=c3;rw[Yn,Zy]at this;rw[Yn];have:=u.len.1;have:(IR:Nat)=16777216:=rfl;lia),fin _ (a :: HV.flatten) ?_⟩
     rw[q1,q3];refine Chg.upd q Zw y (.dct aw q2 (q4.off y λz=>nd.1 (P.subset z))) ?_ ?_
     ·exact ZX.mpr ⟨λz=>nd.1 (P.subset z),nd.2.sublist P⟩
     ·intro d hb;rcases Zk.mp hb with rfl | hb
      ·exact .inl Zw
      ·exact .inl (Zx _ (P.subset hb))
    |succ n=>cases C
   |_=>cases C
def tU{X:Cx}{pos:Pos}(Jq:jL G)(E:jj w X.A)(N:II G X o i way)(P:PV G X b l)(he:PX G X e x)(Q:∀v,assign (.Subscript o b d) X.env v=(do
   let j ← holding [v] (eval o X.env)
   let iv ← holding [v,j] (eval b X.env)
   standAt d
   holding [v,j,iv] (setItem j iv v)
   release [v,j,iv] []))(C:swapsWithSole [.Subscript o b d] e pos.line X.env=pure O)(hw:swappedStores [.Subscript o b d] e X.env=pure L)(R:(assignEach [.Subscript o b d] X.env).map (·.2)=[assign (.Subscript o b d) X.env]):PSV G X (.Assign [.Subscript o b d] e pos) (jW i way l x) :=
 PS.weak (sY he (sZ N P (yK (kh E)) Q) C hw R) λD J H F=>by
  refine L2.ar λP_ y=>?_;obtain⟨M,U,out,s,e,k⟩:=F;obtain⟨⟨v,U'⟩,e1,e2⟩:=Zz.mp e;refine y ?_;split at e2
  ·rename_i hi;refine⟨M,U,v,U',s,e1,hi,λu H' M' q f r=>?_⟩;obtain⟨⟨mv,tv⟩,ev,e2⟩:=Zz.mp e2;cases ev;split at e2
   ·rename_i t z;obtain⟨ks,S,e2⟩:=Zz.mp e2;obtain⟨⟨mk,tk⟩,Kw,e2⟩:=Zz.mp e2;obtain⟨⟨t',y'⟩,e5,Y⟩:=Zu.mp e2;cases Y;exact wb Jq q z S Kw e5 (aJ.refl H') r ⟨YY,λa h=>nomatch h⟩ λM2 H2 p n=>k _ J H2 p (f.trans n)
   ·cases e2
  ·cases e2
end
end VS
end
section
namespace L2
open PySem PySem.Spec PyProof.Rows
def sM:cB X (.type "dict") (λf H Q=>∃(d:KB)(a:List (Key×V)),f=[.ref d]/\H d=Z (.dK a)/\∀l,H l=L->Q (.ref l) (upd H l (.dK a))):=by
 intro g s J H f w Q I m h;obtain⟨d,a,rfl,hd,q⟩:=h;obtain⟨u,rfl,n⟩:=m.one;cases n;obtain⟨i,t,v,rel,p⟩:=rC I.oe hd;refine PySem.kt_call_dict t p (by rw[← Xk rel];exact i) λx r j=>?_;exact⟨.ref s.heap.objs.size,_,I.laid (λb o e=>(j.2 b (Zg (ZW e))).trans (Zo _ e)) (Zm _) (sL i (ZO.mpr (Ya (Zg I.big))) rel r),rfl,q _ (I.oe.fresh (Zm _))⟩
end L2
namespace VS
open PySem PySem.Spec PyProof.Rows L2
def kP:Vy->Vx
 |[(_,.dct 0 l)]=>if ij (l.map (·.2))=B then Z (.fr,.dct 0 l) else L
 |_=>L
section
def yR:dE G (λn H Q=>∃(d:KB)(j:List (Key×V)),n=[.ref d]/\H d=Z (.dK j)/\∀l,H l=L->Q (.ref l) (upd H l (.dK j))) kP:=by
 intro M U E H l x J m t Q A e k;unfold kP at e;split at e
 ·rename_i z C;split at e
  ·rename_i hi;refine L2.ar λD u=>?_;cases e;obtain⟨v,F,rfl,rfl,r⟩:=(A.rp).one;obtain⟨a,ns,s,y,Gs,rfl,rfl,w,i,rfl,f⟩:=eV r;refine u ?_;refine⟨a,_,rfl,w,λq h=>?_⟩;have g:aJ H (upd H q (.dK (ns.zip s))):=cJ h;rw[List.map_snd_zip (by rw[Zy,i,f.len.1];exact Zm _)]at hi;refine k _ _ (q :: Gs.flatten) g (.dct aw i (f.same g)) ?_;rw[(f.FW hi)];exact Fp.new (A.same.free h) (by simp) Fp.nil
  ·cases e
 ·cases e
def zE{X:Cx}(d:X.mg "dict" = L)(g:GE G X [e] cs)(f:Gl X "dict")(he:K1 e [] X):PV G X (.Call (.Name "dict" p) [e] [] pos) (eN kP cs) :=
 ia sM yR f d yX g (he:=he)
def BD{i d:Int}:PV G X (.Dict [Z (.Constant (.int i) j q)] [.Constant (.int d) l g] pos) (qH 0 [(Q3 i,Q3 d)]) :=
 PE.weak (zI (yc sg sg AV) Y Y (by simp) (by show 1<=15;decide)) λJ H Q n=>by
  refine L2.ar λt h=>?_;obtain⟨M,U,m,r,s,e,k⟩:=n;cases (e);refine h ?_;intro p f;refine⟨aw,[(Sum.inl i,.int d)],rfl,(by show 1<=15;decide),?_⟩;rw[Ao];have:Rp G (upd H p (.dK [(Sum.inl i,V.int d)])) (.ref p) (.dct 0 ((([Sum.inl i]:List Key).map aT).zip [.int d])) (p :: ([[]]).flatten) :=
   .dct aw Y (.cons (.int d) .nil)
  exact k _ _ _ (cJ f) this ⟨by simp,λb hb=>by simp at hb;rw[hb];exact f⟩
def uR(x y:Val):Vx:=match x.2 with
 |.dct 0 l=>if jB y.2 then Z (match ft l y.2 with | some t=>sub x.1 t | none=>(.fr,.non)) else none
 |_=>L
def w_get{X:Cx}{apos:Pos}(N:jj kr X.A)(R:PV G X o ca)(he:PV G X e cb)(FO:SZ o "get" X.env (eval o X.env)=eval o X.env)(Gw:((backTo cp (PP [e] X.env)).all (λx=>!x.1)&&(backToKw cp (Re [] X.env)).all (λx=>x.1.isSome)
   && decide (([e]:List Expr).length+([]:List Keyword).length+(if ([]:List Keyword).isEmpty then 0 else 1)<30))=B)(w:(apos.endLine==cp.line)=B)(S9:backTo cp (PP [e] X.env)=[(O,eval e X.env)]):PV G X (.Call (.Attribute o "get" apos) [e] [] cp) (e2 uR ca cb) :=
 PE.weak (vN (kh N) R he ⟨FO,Gw,w,S9⟩) λJ H Q P=>by
  obtain⟨M,U,m,r,s,e,t⟩:=P;obtain⟨⟨C,x⟩,ea,e⟩:=Zz.mp e;obtain⟨⟨z,y⟩,eb,e⟩:=Zz.mp e;unfold uR at e;split at e
  ·rename_i l E;subst E;split at e
   ·rename_i Y;have d:=Zh e;refine⟨M,U,C,_,s,ea,λv H1 F1 n r1 f1=>?_⟩;refine L2.ar λP_ D=>?_;obtain⟨a,ks,vs,ts,Fs,rfl,rfl,h,S,rfl,q⟩:=eV r1;refine D ?_;refine⟨a,rfl,.inl ⟨_,.inl h⟩,M,U,z,y,s.same n,eb,λv2 u F2 g r2 f2=>?_⟩;obtain⟨kk,rfl,ek⟩:=d5 r2 Y;rw[ek]at d;rcases kc S (q.same g) with⟨h1,h2⟩ | ⟨i,v,t2,F,a1,a2,a3,a4,j⟩
    ·rw[h1]at d;cases d;refine⟨_,hJ.k (g a _ h),?_⟩;rw[h2];exact t .non u [] (n.trans g) .non Fp.nil
    ·rw[a1]at d;refine⟨_,hJ.k (g a _ h),?_⟩;rw[a2];have f:=((f1.sub (Yu _ _)).sub (du a4)).up j;unfold VS.sub at d;dsimp only at d;rw[d]at f;have et:t2=r:=congrArg Prod.snd d;rw[et]at j;exact t v u F (n.trans g) j f
   ·cases e
  ·cases e
def pH(x y:Val):Vx:=match x.2 with
 |.dct 3 l=>if jB y.2 then (ft l y.2).map (sub x.1) else L
 |_=>L
def qw(r:Rp G H v (.dct 3 l) F):∃(a:KB)(o:Obj)(f:List Key)(d:List V)(g:Vw)(h:Wm),v=.ref a/\F=h.flatten/\H a=Z (.frz o (.dK (f.zip d)))/\f.length=d.length/\l=(f.map aT).zip g/\RpL G H d g h:=r.inv
def B7:fU G (D9 G.K) pH:=by
 intro M U Y H x y u w F1 F2 m t Q d e k;obtain⟨P,x⟩:=x;unfold pH at e;split at e
 ·rename_i l h;subst h;split at e
  ·rename_i n;obtain⟨N,e1,e2⟩:=Zu.mp e;obtain⟨a,o,R,E,J,Fs,rfl,rfl,r,j,rfl,q⟩:=qw d.r1;obtain⟨g,rfl,z⟩:=d5 d.r2 n;rw[z]at e1;rcases kc j q with⟨s,_⟩ | ⟨i,v,t2,F,D,C,S,A,f⟩
   ·rw[s]at e1;cases e1
   ·rw[D]at e1;cases e1;cases e2;refine .inr ⟨a,v,rfl,.inl ⟨_,g,.inr ⟨o,r⟩,rfl,C.symm⟩,?_⟩;exact k v H F (aJ.refl _) f ((d.f1.sub (du A)).up f)
  ·cases e
 ·cases e
def Bc{X:Cx}(f:jj kr X.A)(i:PV G X a ca)(g:PV G X b cb)(d:jX b)(j:X.K=G.K):PV G X (.Subscript a b pos) (e2 pH ca cb) :=
 PE.weak (uH (Ji.or pL (p7 (kh f))) i g d) λJ H Q h=>by rw[j];exact kU B7 h
end
def eNew(c:Nat)(g:Mt)(b:Gf):Ex:=λU=>(b U).bind λa=>if dG (trees a)=B then (g [] (trees a)).bind λz=>if fg z.1=B/\Lm z.2=B then Z (.fr,.obj (c+1) ((0,.bl O) :: z.1)) else L else L
def fA(c:Nat)(g:Fn)(d:Ex)(b:Gf):Ex:=λU=>(d U).bind λx=>match x.2 with
 |.obj e (_ :: _)=>if e=c+1 then (b U).bind λa=>(g (x.2 :: trees a)).bind λr=>match r.1 with
  |.fr=>Z r
  |_=>L else L
 |_=>L
theorem ya{α:Type}:∀(l:List α)(a:Wm),GY (l.map λ_=>O) a=[]
 |[],_=>by simp[GY]
 |_ :: _,[]=>by simp[GY]
 |_ :: l,F :: a=>by
  rw[Zi,GY,Zn Zc,YK];exact ya l a
theorem yw:∀(e:List Bool)(d:Wm),∀a∈Jd e d,a∈d.flatten
 |[],_,a,h=>by simp[Jd]at h
 |_ :: _,[],a,h=>by simp[Jd]at h
 |b :: bs,F :: d,a,h=>by
  rw[Jd]at h;rw[ZR];rcases Zd.mp h with h | h
  ·cases b with
   |true=>simp at h
   |false=>exact Yv _ (by simpa using h)
  ·exact ZM _ (yw bs d a h)
section
def zp{G:Gx}(r:Rp G H u t F)(h:Lm t=B):u=.non:=by
 cases r with
 |non=>rfl
 |_=>cases h
def yt{X:Cx}(F:∀n,FnOk X.prog X.w X.K X.mg X.base GF k f fd ps (Jb G c (List.replicate n O) g)->True)(ht:∀M U d J H (R:List V->Hp->Prop),SR G M U J H->cs U=Z d->(∀v l Fs,aJ H l->RpL G l v (trees d) Fs->KG M U H d Fs->R v l)->t J H R)(n:Nat)(hn:∀U d,cs U=Z d->d.length=n)(hq:tE G (eNew c g cs) J H Q):yi (G.ct (c+1)).1 (Jb G c (List.replicate n O) g) [] E t J H Q:=by
 refine L2.ar λP_ C=>?_;obtain⟨M,U,mo,r,s,e,kq⟩:=hq;obtain⟨d,el,e1⟩:=Zz.mp e;refine C ?_;split at e1
 ·rename_i MY;obtain⟨⟨Ht,y⟩,eg,e2⟩:=Zz.mp e1;split at e2
  ·rename_i hc;cases e2;refine ht M U d J H _ s el λv H1 Gs P Qw N5 a dx D TU ne=>?_;have Rl:=P.free D;have S:aJ H1 (upd (upd H1 dx (.own a)) a (.ins (G.ct (c+1)).1 dx [])):=λb A q=>by
    rw[aA (λz=>by rw[z,D]at q;cases q),aA (λz=>by rw[z,TU]at q;cases q)];exact q
   have em:List.replicate n O=(List.range n).map λ_=>O:=by rw[List.map_const',Z1]
   have N:GY (List.replicate n O) Gs=[]:=by rw[em];exact ya _ _
   refine⟨a,v,[],trees d,[a],Gs,Ht,y,by rw[ZJ],.ins (ks:=[]) aw Y (λ_=>rfl) .nil,(Qw.same S).at (Ir a) MY,?_,?_,?_,eg,λu l F' j ru=>⟨zp ru hc.2,?_⟩⟩
   ·simp[trees,(hn U d el)]
   ·rw[N];simp
   ·rw[N];intro b hb GZ;have:b=a:=by simpa using hb
    subst this;exact FR.lp (Qw.Ge b (yw _ _ b GZ)) D
   ·rw[N,ZJ]at j;refine kq (.ref a) l F' (λb A q=>j.keep b A (λz=>?_) (S b A (P b A q))) (by
     refine L2.ar λP_ C=>?_;obtain⟨c2,a2,RX,b2,OB,P6,Og,R5,LL,Nb,PN,PM,Nc,M5,HJ,LF,Jy⟩:=dW j.rp;cases LL;cases Nb;subst PM;refine C ?_;rw[Nc];exact .ins M5 HJ (λz=>nomatch z) (Jy.at G.me (eB (HJ.trans Jy.len.1) hc.1))) ⟨j.nd,λb hb=>?_⟩
    ·have:b=a:=by simpa using z
     rw[this,Rl]at q;cases q
    ·rcases j.sub b hb with z | z
     ·have:b=a:=by simpa using z
      rw[this];exact Rl
     ·exact(λb z=>P.free (S.free z)) b z
  ·cases e2
 ·cases e1
def E3{G:Gx}{X:Cx}(n:Nat)(v:Mk X.K (G.ct (c+1)).1 f)(F:FnOk X.prog X.w X.K X.mg X.base GF k f fd ps (Jb G c (List.replicate n O) g))(d:jj k' X.A)(q:k+1<=k')(r:Gl X x)(l:X.mg x=Z (.ref (G.ct (c+1)).1))(t:Binds X.K fd ps [])(u:GE G X (e :: es) cs)(j:∀U a,cs U=Z a->a.length=n)(y:K3 x)(he:K1 e es X)(b:K2 pos es X):PV G X (.Call (.Name x p) (e :: es) [] pos) (eNew c g cs) :=
 PE.weak (AW v F (d.mono q) r l t .nil lD u y he b) λJ H Q h=>yt (X:=X) (k:=k) (f:=f) (fd:=fd) (ps:=ps) (λ_ _=>True.intro) (λM U a J H R s e k=>⟨M,U,a,s,e,k⟩) n j h
def Cm{G:Gx}{X:Cx}(q:Mk X.K (G.ct (c+1)).1 f)(F:FnOk X.prog X.w X.K X.mg X.base GF k f fd ps (Jb G c [] g))(b:jj k' X.A)(j:k+1<=k')(l:Gl X x)(d:X.mg x=Z (.ref (G.ct (c+1)).1))(n:Binds X.K fd ps [])(r:K3 x):PV G X (.Call (.Name x p) [] [] pos) (eNew c g ag) :=
 PE.weak (xY q F (b.mono j) l d n .nil lD r) λJ H Q h=>yt (X:=X) (k:=k) (f:=f) (fd:=fd) (ps:=ps) (λ_ _=>True.intro) (λM U a J H R s e k=>by
  cases (e);exact k [] H [] (aJ.refl _) .nil ⟨λi v F h=>by simp at h,by simp[G2]⟩) 0 (λU a e=>by
  cases (e);rfl) h
theorem ua{g:Nat->Str}(b:∀k,g k≠m):∀(ns:W7)(a:List V),((ns.map g).zip a).lookup m=L
 |[],a=>by simp
 |_ :: _,[]=>by simp
 |n :: ns,v :: a=>by
  rw[Zi,ZV,Yq];have:(m==g n)=O:=by
   rw[ZO];exact λz=>b n z.symm
  rw[this];exact ua b ns a
def t5{G:Gx}(hn:∀k,(G.ct (c+1)).2 k≠m)(S:∀M U d J H (R:List V->Hp->Prop),SR G M U J H->cs U=Z d->(∀l j A,aJ H j->RpL G j l (trees d) A->KG M U H d A->R l j)->t J H R)(Y:tE G (fA c h ca cs) J H Q):uv (G.ct (c+1)).1 m (HR G h) [] E (tE G ca) t J H Q:=by
 refine L2.ar λP_ q=>?_;obtain⟨M,U,mo,r,s,e,N⟩:=Y;obtain⟨⟨F,y⟩,ea,e1⟩:=Zz.mp e;refine q ?_;split at e1
 ·rename_i c' q0 fs P;subst P;split at e1
  ·rename_i hc;subst hc;obtain⟨d,el,e2⟩:=Zz.mp e1;obtain⟨⟨n,D⟩,eg,e3⟩:=Zz.mp e2;refine⟨M,U,F,_,s,ea,λv H1 F1 w r1 f1=>?_⟩;refine L2.ar λP_ q=>?_;obtain⟨c2,a,dx,b,ns,l,ts,A,ec,rfl,eb,ef,eF,hA,hl,hb,ra⟩:=dW r1;cases ec;refine q ?_;refine⟨a,dx,_,rfl,hA,ua hn _ _,S M U d J H1 _ (s.same w) el λus H2 Gs z LZ LJ=>?_⟩;rw[ZJ];refine⟨_ :: trees d,F1 :: Gs,n,D,.cons (r1.same z) LZ,eg,λu j F' Ib C f3=>?_⟩;cases n with
   |fr =>
    cases e3;exact N u j F' ((w.trans z).trans Ib) C ⟨f3.1,λb hb=>w.free (z.free (f3.2 b hb))⟩
   |pu=>cases e3
   |bo=>cases e3
  ·cases e1
 ·cases e1
def Df{G:Gx}(t:∀k,(G.ct (c+1)).2 k≠m)(r:PV G X o ca)(y:G6 X.K (G.ct (c+1)).1)(u:Meth X.K (G.ct (c+1)).1 m f)(F:FnOk X.prog X.w X.K X.mg X.base GF k f fd ps (HR G h))(n:jj k' X.A)(v:k<=k')(z:Binds X.K fd ps [])(C:GE G X (e :: es) cs)(D:K1 e es X)(a:K2 pos es X)(l:eval (.Call (.Attribute o m apos) (e :: es) [] pos) X.env=(do
   let b ← eval o X.env
   standAt apos.atName
   let (f,first) ← holding [b] (getMethod b m j)
   callWith pos f first (backTo pos (PP (e :: es) X.env)) (backToKw pos (Re [] X.env)))):PV G X (.Call (.Attribute o m apos) (e :: es) [] pos) (fA c h ca cs) :=
 PE.weak (qi r y u F (n.mono v) z .nil lD C D a l) λJ H Q q=>t5 t (λM U d J H R s e k=>⟨M,U,d,s,e,k⟩) q
def A0{G:Gx}(n:∀k,(G.ct (c+1)).2 k≠m)(l:PV G X o ca)(u:G6 X.K (G.ct (c+1)).1)(r:Meth X.K (G.ct (c+1)).1 m f)(F:FnOk X.prog X.w X.K X.mg X.base GF k f fd ps (HR G h))(j:jj k' X.A)(t:k<=k')(y:Binds X.K fd ps [])(d:eval (.Call (.Attribute o m apos) [] [] pos) X.env=(do
   let a ← eval o X.env
   standAt apos.atName
   let (f,first) ← holding [a] (getMethod a m b)
   callWith pos f first (backTo pos (PP [] X.env)) (backToKw pos (Re [] X.env)))):PV G X (.Call (.Attribute o m apos) [] [] pos) (fA c h ca ag) :=
 PE.weak (qA l u r F (j.mono t) y .nil lD d) λJ H Q q=>t5 n (λM U z J H R s e k=>by
  cases (e);exact k [] H [] (aJ.refl _) .nil ⟨λi v F h=>by simp at h,by simp[G2]⟩) q
end
def nL(i:Nat)(a:List Ip)(j:Nat)(U:VS.Env):Option Out:=match (U[i]?:Option (Vz)),(U[j]?:Option (Vz)) with
 |some (some (.ow t)),some (some (.ow u))=>if i≠j then (keys a U).bind λb=>(pm (λx=>aC x [(.fr,u)]) b t).map λz=>.nx ((U.set j L).set i (Z (.ow z.1))) else L
 |_,_=>L
open Classical in
noncomputable def less(H:Hp)(F:W4):Hp:=λb=>if b∈F then L else H b
section
def pD(h:b∈F):less H F b=L:=Zp h
def g8(h:b∉F):less H F b=H b:=Zn h
def g0{o:HO}(h:less H F b=Z o):H b=Z o/\b∉F:=by
 by_cases q:b∈F
 ·rw[pD q]at h;cases h
 ·rw[g8 q]at h;exact⟨h,q⟩
def vk(h:∀b∈F,FR (H b)):Kept H (less H F) :=
 ⟨λb a e=>by
  rw[g8 (λz=>by have:=h b z;rw[e]at this;exact this)];exact e,λb o u e=>by
  rw[g8 (λz=>by have:=h b z;rw[e]at this;exact this)];exact e⟩
def zx{apos pos:Pos}(Jq:jL G)(ho:II G X o i way)(hK:X.K=G.K)(hN:X.N[j]?=Z y)(hv:Iw X.env.scope y)(hd:K3 y)(hcd:K4 y)(FO:SZ o "append" X.env (eval o X.env)=eval o X.env)(Gw:((backTo cp (PP [.Name y p1] X.env)).all (λx=>!x.1)&&(backToKw cp (Re [] X.env)).all (λx=>x.1.isSome)
   && decide ([Expr.Name y p1].length+([]:List Keyword).length+(if ([]:List Keyword).isEmpty then 0 else 1)<30))=B)(xl:(apos.endLine==cp.line)=B)(hs:PP [.Name y p1] X.env=(O,eval (.Name y p1) X.env) :: PP [] X.env)(FQ:(backTo cp (PP [] X.env)).any (·.1)=O)(Ih:swapsWith (.Call (.Attribute o "append" apos) [.Name y p1] [] cp) L pos.line X.env=pure O) :
  PSV G X (.Expr (.Call (.Attribute o "append" apos) [.Name y p1] [] cp) pos) (nL i way j) :=
 PS.weak (jg (uI Xn XC XD jd ho (dz (fZ hN hv hd hcd) iR hs) FO Gw xl hs FQ) Ih) λD J H hq=>by
  obtain⟨M,U,out,s,e,k⟩:=hq;unfold nL at e;split at e
  ·rename_i t u ht C;split at e
   ·rename_i O0;refine L2.ar λP_ k_=>?_;obtain⟨r,ek,e3⟩:=Zz.mp e;obtain⟨⟨F,x2⟩,e5,e6⟩:=Zu.mp e3;cases e6;obtain⟨vj,j1,j2⟩:=s.rp _ _ C;have QN:=j2;have SQ:=s.nd j u C;have kp:=vk QN.Ge;have s0:SR G M (U.set j L) J (less H (M j)):=⟨(s.drop j).len,λQ S h=>by
     obtain⟨n,h'⟩:=cL h;obtain⟨v,R,h2⟩:=s.rp Q S h';exact⟨v,R,h2.keep kp λb hb d L7=>by rw[g8 ((λQ S n h b hb GZ=>s.sep j Q u S C h (Ya n) b GZ hb) Q S n h' b hb)];exact L7⟩,(s.drop j).nd,(s.drop j).sep⟩
    have ON:(U.set j L)[i]?=Z (Z (.ow t)):=by
     rw[YI (Ya O0)];exact ht
    obtain⟨v,R,h2⟩:=s0.rp _ _ ON;obtain⟨w,x,F1,x3,w1,w2,w3,A,w5⟩:=mK r Jq h2 (s0.nd i t ON) e5;refine k_ ?_;unfold aC at A;dsimp only at A;split at A
    ·rename_i l yv heq;cases heq;obtain⟨z,ez,e7⟩:=Zz.mp A;cases (ez);split at e7
     ·rename_i hl;cases e7;obtain⟨a,us,Gs,rfl,rfl,ha,ra⟩:=w2.lst_inv;obtain⟨O8,Rh⟩:=g0 ha;refine⟨M,U,t,r,v,.ref a,s,ht,R,ek,(by
       have:∀{r:List Ky}{v w:V},Hf G (less H (M j)) r v w->Hf G H r v w:=by
        intro r v w p
        induction p with
        |nil v=>exact .nil v
        |fld h l _ f=>exact .fld (g0 h).1 l f
        |ix h l m _ f=>exact .ix (g0 h).1 l m f
        |key h l _ f=>exact .key (g0 h).1 l f
        |un _ f=>exact .un f
       exact this w1),λH0 g=>⟨.inl ⟨rfl,us,by rw[hK];exact FT.of (g a _ O8)⟩,vj,j1,a,us,vj,rfl,rfl,g a _ O8,by rw[ra.len.1];exact hl,?_⟩⟩
      have P:FR (H0 a):=by rw[g a _ O8];exact True.intro
      have MH:=ZX.mp w3;have Ow:=λb hb GZ=>by
       have:=ra.Ge b hb;rw[pD GZ]at this;exact this
      have E:∀b d,less H (M j) b=Z d->H0 b=Z d:=λb d h=>g b d (g0 h).1;have kl:Kept (less H (M j)) H0:=⟨λb xs h=>E b _ h,λb d u h=>E b _ h⟩
      obtain⟨F2,g2⟩:=w5 _ _ (by
       refine⟨kl.trans (Kept.upd (.inl P)),λb d hb h=>by rw[aA (λz=>hb (by rw[z];exact Zw))];exact E b d h,λb h z=>?_,.lst aw ((RpL.off (ra.keep kl λb hb d h=>E b d h) P MH.1).append (.cons (((QN.same g)).keep (Kept.upd (.inl P)) λb hb d ho=>by rw[aA (λz=>Rh (by rw[← z];exact hb))];exact ho) .nil)),?_,λb hb=>?_⟩
       ·by_cases q:b=a
        ·rw[q,aw]at z;cases z
        ·rw[aA q]at z;cases e:less H (M j) b with
         |none=>exact h e
         |some d=>rw[E b d e]at z;cases z
       ·rw[Yi];refine ZX.mpr ⟨λm=>?_,ZL.mpr ⟨MH.2,by simpa using SQ,λb hb c hc z=>?_⟩⟩
        ·rcases Zd.mp m with m | m
         ·exact MH.1 m
         ·exact Rh (by simpa using m)
        ·subst z;exact Ow b hb (by simpa using hc)
       ·rcases Zk.mp hb with rfl | hb
        ·exact .inl Zw
        ·rw[Yi]at hb;rcases Zd.mp hb with hb | hb
         ·exact .inl (Zx _ hb)
         ·exact .inr (pD (by simpa using hb)))
      obtain⟨z1,Y⟩:=s0.mut ON R g2;have back:∀b,less H (M j) b=L->cE M U b\/H b=L:=λb h=>by
       by_cases q:b∈M j
       ·exact .inl ⟨j,u,C,q⟩
       ·rw[g8 q]at h;exact .inr h
      have JX:∀b,cE M (U.set j L) b->cE M U b:=λb ⟨j',F,q1,q2⟩=>⟨j',F,(cL q1).2,q2⟩
      have SI:∀b,eR M (U.set j L) b->eR M U b:=λb ⟨j',F,q1,q2⟩=>⟨j',F,(cL q1).2,q2⟩
      refine k _ J _ z1 ⟨λb d h n=>?_,λb h z=>?_,λb h=>?_,λb h=>?_,(Kept.of g).trans (Kept.upd (.inl P))⟩
      ·exact Y.keep b d (by rw[g8 (λz=>n ⟨j,u,C,z⟩)];exact h) λz=>n (JX b z)
      ·by_cases q:b=a
       ·rw[q,aw]at z;cases z
       ·rw[aA q]at z;exact h (g.free z)
      ·rcases Y.ow b h with h | h
       ·exact .inl (JX b h)
       ·exact back b h
      ·rcases Y.pu b h with h | h | h
       ·exact .inl (SI b h)
       ·exact .inr (.inl (JX b h))
       ·exact(back b h).elim (λz=>.inr (.inl z)) λz=>.inr (.inr z)
     ·cases e7
    ·cases A
   ·cases e
  ·cases e
end
end VS
end
section
namespace VS
open PySem PySem.Spec PyProof.Rows L2
noncomputable def isInt:T->Bool
 |.int _=>B
 |_=>O
def uh(i:Nat):Iz:=λU=>match (U[i]?:Option (Vz)) with
 |some (some (.pu (.dct 3 l)))=>if (l.all λp=>isInt p.1)=B then Z (.fr,l.map (·.1)) else L
 |_=>L
def yE(i:Nat)(a:Tg)(b:Ex):Sx:=λU=>match (U[i]?:Option (Vz)) with
 |some (some (.ow (.dct 0 l)))=>(cT 1 a (uh i) L b (U.set i (Z (.pu (.dct 3 l))))).bind λv=>match v.1 with
  |.fr=>Z (.rt v (U.set i L))
  |_=>L
 |_=>L
theorem zip_inj{α β:Type}:∀{a c:List α}{b d:List β},a.length=b.length->c.length=d.length->a.zip b=c.zip d->a=c
 |[],[],_,_,_,_,_=>rfl
 |[],_ :: _,_,[],_,h,_=>by simp at h
 |[],_ :: _,[],_ :: _,_,_,h=>by simp at h
 |[],_ :: _,_ :: _,_ :: _,h,_,_=>by simp at h
 |_ :: _,_,[],_,h,_,_=>by simp at h
 |_ :: _,[],_ :: _,[],_,_,h=>by simp at h
 |_ :: _,[],_ :: _,_ :: _,_,h,_=>by simp at h
 |_ :: _,_ :: _,_ :: _,[],_,h,_=>by simp at h
 |x :: a,y :: c,z :: b,w :: d,f,e,h=>by
  rw[ZV,ZV]at h;obtain⟨e1,e2⟩:=List.cons.inj h;rw[zip_inj (by simpa using f) (by simpa using e) e2,(XE e1).1]
section
def B6{X:Cx}(i:Nat)(N:List Str)(Gz:X.calm=B)(hN:X.N[i]?=Z x)(hv:Iw X.env.scope x)(hd:K3 x)(hcd:K4 x)(Hx:pT 1 g)(hg:∀cl C s H fp,LU G (c6 X N sc cl C s H fp) tg g)(he:∀cl C s H fp,PV G (c6 X N sc cl C s H fp) elt ce)(Iu:o6 X.env sc=B)(Jf:pX sc (N.drop 1) X.N=B)(Jh:1<=N.length)(hs:∀y,UF (.Name x p1) X.env y=pure y) :
  PSV G X (.Return (Z (.ListComp elt [⟨tg,.Name x p1,[],0⟩] sc pos)) pos') (yE i g ce) :=
 PS.weak (p6 (tW Gz (EF (fZ hN hv hd hcd)) Iu Jf Jh (λcl C s H fp=>⟨hg cl C s H fp,mD,he cl C s H fp⟩) hs)) λD J H hq=>by
  obtain⟨M,U,out,s,e,k⟩:=hq;unfold yE at e;split at e
  ·rename_i l A;refine L2.ar λP_ Y=>?_;obtain⟨⟨mv,tv⟩,ev,e1⟩:=Zz.mp e;have KY:mv=.fr/\out=.rt (.fr,tv) (U.set i L):=by
    cases mv with
    |fr=>cases e1;exact⟨rfl,rfl⟩
    |pu=>cases e1
    |bo=>cases e1
   obtain⟨rfl,rfl⟩:=KY;obtain⟨v,g1,g2⟩:=s.rp _ _ A;obtain⟨a,ns,E,S,Fs,rfl,eF,ha,OU,rfl,ra⟩:=eV g2;refine Y ?_;have nd:=s.nd i _ A;rw[eF]at nd;refine⟨.ref a,g1,a,ns.zip E,rfl,ha,λo=>?_⟩;have mu:FR (H a):=by rw[ha];exact True.intro
   have kp:Kept H (upd H a (.frz o (.dK (ns.zip E)))):=Kept.upd (.inl mu);have es:J.set i (Z (.ref a))=J:=by
    obtain⟨h,e⟩:=ZZ.mp g1;rw[← e];exact X9 h
   have aΦ:a∈M i:=by rw[eF];exact Zw
   have sub:∀b∈Fs.flatten,b∈M i:=λb hb=>by rw[eF];exact Zx _ hb
   have s1:SR G (lK M i Fs.flatten) (U.set i (Z (.pu (.dct 3 ((ns.map aT).zip S))))) J (upd H a (.frz o (.dK (ns.zip E)))):=by
    have:=s.put (c:=.pu (.dct 3 ((ns.map aT).zip S))) ((ZZ.mp A).1) (.dctZ aw OU (ra.off mu (ZX.mp nd).1)) (λj c' n hj w q=>q.keep kp λb hb ob ho=>by
     rw[aA (λz=>s.sep i j _ c' A hj (Ya n) a aΦ (by rw[← z];exact hb))];exact ho) (λ_ z=>nomatch z) (λ_ z=>nomatch z) λj u n hj b hb GZ=>s.sep j i u _ hj A n b hb (sub b GZ)
    rw[es]at this;exact this
   refine L2.ar λP_ Y=>?_;obtain⟨M2,U2,m2,l2,s2,e2,k2⟩:=ql Hx (by
    refine⟨_,_,.fr,tv,s1,ev,λu H' F R r f=>?_⟩;have ee:(U.set i (Z (.pu (.dct 3 ((ns.map aT).zip S))))).set i L=U.set i L:=by rw[List.set_set]
    have sd:=(s1.drop i).same R;rw[ee]at sd;have JX:∀b,cE (lK M i Fs.flatten) (U.set i L) b->cE M U b:=λb ⟨j,t,m,d⟩=>by
     obtain⟨n,Ot⟩:=cL m;rw[fe n]at d;exact⟨j,t,Ot,d⟩
    refine k u H' F _ J sd ⟨λb ob h n=>?_,λb h z=>?_,λb h=>.inl (JX b h),λb ⟨j,t,m,d⟩=>?_,kp.trans (Kept.of R)⟩ r ⟨f.1,λb hb=>.inl ?_⟩
    ·have nb:b≠a:=λz=>n ⟨i,_,A,by rw[z];exact aΦ⟩;exact⟨R b ob (by rw[aA nb];exact h),λz=>n (JX b z)⟩
    ·have Q:=R.free z;by_cases q:b=a
     ·rw[q,aw]at Q;cases Q
     ·rw[aA q]at Q;exact h Q
    ·obtain⟨n,Ot⟩:=cL m;rw[fe n]at d;exact .inl ⟨j,t,Ot,d⟩
    ·have:=f.2 b hb;by_cases q:b=a
     ·rw[q,aw]at this;cases this
     ·rw[aA q]at this;exact this)
   refine Y ?_;refine k2 (P4 a o (ns.zip E)) _ [] (aJ.refl _) ?_ (λb hb=>nomatch hb);unfold uh at e2;split at e2
   ·rename_i l3 h3;split at e2
    ·rename_i hint;cases e2;obtain⟨v3,m,d⟩:=s2.rp _ _ h3;rw[g1]at m;cases m;obtain⟨a3,o3,Vd,Sg,Of,U7,PQ,_,Ik,KU,rfl,Jy⟩:=qw d;cases PQ;rw[aw]at Ik;have ek:=zip_inj OU KU (HO.dK.inj (HO.frz.inj (Zh Ik)).2);subst ek;have em:((ns.map aT).zip Of).map (·.1)=ns.map aT:=Wb (by rw[Zy,KU,Jy.len.1];exact Zm _);have zl:(ns.zip E).length=ns.length:=by rw[Yn,OU,Xh]
     refine⟨λH2 L5 _=>⟨λn t P=>?_,λn P=>?_⟩,λb hb=>nomatch hb⟩
     ·rw[em,ZU]at P;obtain⟨kk,L8,MV⟩:=Zu.mp P;have QW:=(ZZ.mp L8).1;refine⟨⟨L5.frz _ _ _ aw,by rw[zl];exact QW⟩,λy H3 hy=>?_⟩;obtain⟨rfl,p,hp,rfl⟩:=hy;refine⟨aJ.refl _,[],?_,λb hb=>nomatch hb⟩;have Tn:p.1=kk:=by
       have Ln:=hp;rw[YM]at Ln;rw[L8]at Ln;exact(Zh Ln.1).symm
      have hi:isInt t=B:=by
       have:=ZE.mp hint (t,Of[n]'(by rw[← Jy.len.1,← KU];exact QW)) (by
        refine Yf (i:=n) ?_;rw[YM];exact⟨by rw[ZU,L8];exact congrArg Z MV,Zq _⟩)
       exact this
      rw[Tn,← MV];rw[← MV]at hi;cases kk with
      |inl n=>exact .int n
      |inr z=>cases hi
     ·refine⟨L5.frz _ _ _ aw,?_⟩;rw[em,Zy]at P;rw[zl];exact P
    ·cases e2
   ·cases e2
  ·cases e
end
noncomputable def Cj(c:Nat):Option (Vz)->Bool
 |some (some (.ow (.obj a (_ :: _))))=>a==c+1
 |_=>O
def oO(i c:Nat)(b:List Bool)(g:Mt)(x:Xx)(d:Gf)(U:VS.Env):Option (Val×VS.Env):=if Cj c (U[i]?:Option (Vz))=B then (x U).bind λz=>if FW z.1.2=B then (match (z.2[i]?:Option (Vz)) with
 |some (some (.ow t))=>(d z.2).bind λa=>(lG c b g ((.fr,z.1.2) :: a) t).map λr=>(r.2,z.2.set i (Z (.ow r.1)))
 |_=>L) else L else L
section
def A4{G:Gx}{X:Cx}(hn:∀k,(G.ct (c+1)).2 k≠m)(hN:X.N[i]?=Z y)(hv:Iw X.env.scope y)(hd:K3 y)(hcd:K4 y)(hc:G6 X.K (G.ct (c+1)).1)(hm:Meth X.K (G.ct (c+1)).1 m f)(F:FnOk X.prog X.w X.K X.mg X.base GF k f fd ps (Jb G c mv g))(hr:jj k' X.A)(hk:k<=k')(hb:Binds X.K fd ps [])(h1:PX G X e x)(ha:GE G X es cs)(HS:K1 e es X)(hpl:K2 pos es X)(ht:eval (.Call (.Attribute (.Name y p1) m apos) (e :: es) [] pos) X.env=(do
   let ov ← eval (.Name y p1) X.env
   standAt apos.atName
   let (f,first) ← holding [ov] (getMethod ov m pl)
   callWith pos f first (backTo pos (PP (e :: es) X.env)) (backToKw pos (Re [] X.env)))):PX G X (.Call (.Attribute (.Name y p1) m apos) (e :: es) [] pos) (oO i c mv g x cs) :=
 PE.weak (qi (fZ hN hv hd hcd) hc hm F (hr.mono hk) hb .nil lD (dz h1 ha HS) HS hpl ht) λJ H Q h=>by
  refine L2.ar λE j=>?_;obtain⟨M,U,v,U',s,e,TH,kq⟩:=h;refine j ?_;unfold oO at e;split at e
  ·rename_i P;obtain⟨⟨C,U1⟩,e1,e2⟩:=Zz.mp e;split at e2
   ·rename_i OZ;unfold Cj at P;split at P
    ·rename_i c0 q0 Ru h0;have Uv:c0=c+1:=by simpa using P
     refine L2.ar λE j=>?_;subst Uv;obtain⟨v0,g1,g2⟩:=s.rp _ _ h0;obtain⟨c',a,dx,b,ns,l,ts,Fs,ec,rfl,eb,ef,eF,hA,hl,Rg,ra⟩:=dW g2;cases ec;refine j ?_;have key:∀(ns:W7)(l:List V),((ns.map (G.ct (c+1)).2).zip l).lookup m=L:=by
      intro ns
      induction ns with
      |nil=>intro l;simp
      |cons n ns ih =>
       intro l;cases l with
       |nil=>simp
       |cons v l =>
        rw[Zi,ZV,Yq];have:(m==(G.ct (c+1)).2 n)=O:=by
         rw[ZO];exact λz=>hn n z.symm
        rw[this];exact ih l
     refine⟨.ref a,g1,a,dx,_,rfl,hA,key _ _,M,U,C,U1,s,e1,OZ,λY H1 M1 D f1 r1=>?_⟩;split at e2
     ·rename_i t1 OM;refine L2.ar λE j=>?_;obtain⟨t,el,e3⟩:=Zz.mp e2;obtain⟨⟨x3,y3⟩,p,e4⟩:=Zu.mp e3;cases e4;obtain⟨va,q1,w2⟩:=D.rp _ _ OM;rw[g1]at q1;cases q1;refine j ?_;have w3:=D.nd i t1 OM;refine⟨M1,U1,t,D,el,λS H2 Gs o LZ LJ=>?_⟩;show Jb G c mv g (V.ref a :: ((Y :: S)++[])) H2 Q E0;rw[ZJ];unfold lG at p;split at p
      ·rename_i c1 d fs;split at p
       ·rename_i NX;obtain⟨rfl,JJ,R,MY⟩:=NX;obtain⟨⟨Ht,z⟩,eg,e7⟩:=Zz.mp p;split at e7
        ·rename_i JI;refine L2.ar λE j=>?_;cases e7;obtain⟨c2,a2,RX,b2,OB,P6,Og,R5,LL,Nb,PN,rfl,Nc,M5,HJ,LF,Qx⟩:=dW w2;cases LL;cases Nb;cases PN;refine j ?_;have Rw:KG M1 U1 H1 ((.fr,C.2) :: t) ([] :: Gs):=⟨λn v' F' a1 a2=>by
          cases n with
          |zero=>cases a1;cases a2;exact Fp.nil
          |succ n=>exact LJ.each n v' F' (by simpa using a1) (by simpa using a2),by
          exact LJ.nd⟩
         have Lh:=uC R Rw;have Qv:RpL G H2 (Y :: S) (trees ((.fr,C.2) :: t)) ([] :: Gs):=.cons (r1.same o) LZ;refine⟨a,Y :: S,OB.zip Og,trees ((.fr,C.2) :: t),M1 i,[] :: Gs,Ht,z,rfl,?_,Qv.at (Ir a) MY,?_,?_,?_,eg,λu H' F' q ru=>?_⟩
         ·rw[Nc];exact .ins (o a _ M5) HJ (λ_=>rfl) ((Qx.same o).at (Ir a) (eB (HJ.trans Qx.len.1) JJ))
         ·rw[jr R];simp[trees]
         ·refine ZL.mpr ⟨w3,Rw.nd.sublist (mF R),λd r b2 LF z=>?_⟩;subst z;exact FR.lp (w2.Ge d r) (Lh d LF)
         ·rw[pG R Qv];exact λd _ z=>nomatch z
         ·have back:Rp G H' (.ref a) (.obj (c+1) ((0,.bl d) :: Ht)) F':=by
           refine L2.ar λE j=>?_;obtain⟨c3,a3,Vp,b3,Vc,Sg,Of,U7,Ut,PQ,Vo,Ur,Uw,T9,KU,Vi,Jy⟩:=dW q.rp;cases Ut;cases PQ;subst Ur;refine j ?_;rw[Uw];exact .ins T9 KU LF (Jy.at G.me (eB (KU.trans Jy.len.1) JI.1))
          obtain⟨z1,z2⟩:=D.mut OM g1 (⟨(Kept.of o).trans q.kept,λd o1 r ho=>q.keep d o1 (λz=>(Zd.mp z).elim r λz=>by rw[Lh d z]at ho;cases ho) (o d o1 ho),λd h=>q.Ge d λz=>h (o.free z),back,q.nd,λd r=>by
           rcases q.sub d r with z | z
           ·rcases Zd.mp z with z | z
            ·exact .inl z
            ·exact .inr (Lh d z)
           ·exact .inr (o.free z)⟩)
          exact kq u H' _ z1 (f1.trans z2) (ru.at G.me (ng z JI.2))
        ·cases e7
       ·cases p
      ·cases p
     ·cases e2
    ·cases P
   ·cases e2
  ·cases e
end
noncomputable def KZ(a:List Str)(k:Nat):Str:=match a[k]? with
 |some x=>x
 |none=>⟨#[k]⟩
def J9(a:List Str)(K:W0)(C D:KB):Gx:=⟨K,λc=>(if c=2 then D else C,KZ a),λ_=>L⟩
def zY{a:List Str}(i:a.Nodup)(h:∀x∈a,x.cps.size≠1)(k b:Nat)(e:KZ a k=KZ a b):k=b:=by
 unfold KZ at e;by_cases f:k<a.length
 ·by_cases d:b<a.length
  ·rw[Zq f,Zq d]at e;exact(List.getElem_inj i).mp e
  ·rw[Zq f,ZI (ZP d)]at e;have g:a[k]=(⟨#[b]⟩:Str):=e;exact absurd (by rw[g];rfl) (h _ (Z7 f))
 ·by_cases d:b<a.length
  ·rw[ZI (ZP f),Zq d]at e;have g:(⟨#[k]⟩:Str)=a[b]:=e;exact absurd (by rw[← g];rfl) (h _ (Z7 d))
  ·rw[ZI (ZP f),ZI (ZP d)]at e;cases e;rfl
def zC{a:List Str}{K:W0}(b:a.Nodup)(h:∀x∈a,x.cps.size≠1):jL ((J9 a K C D).at m):=λ_ k d e=>zY b h k d e
def gg(h:x∉a)(d:x.cps.size≠1)(k:Nat):KZ a k≠x:=λe=>by
 unfold KZ at e;split at e
 ·rename_i y b;exact h (e ▸ Yf b)
 ·exact d (by rw[← e];rfl)
def vA{a:List Str}{K:W0}(b:a[k]?=Z f)(h:G6 K C)(g:G6 K D)(e:aS K C f)(d:aS K D f):GT ((J9 a K C D).at m) K k f :=
 ⟨λc=>by show KZ a k=f;unfold KZ;rw[b],λc=>by show G6 K (if c+1=2 then D else C);split<;>assumption,λc=>by show aS K (if c+1=2 then D else C) f;split<;>assumption⟩
structure MtAt(P:Pv)(w:SL)(K:W0)(mg:W3)(base:SC)(k:Nat)(G:Gx)(c:Nat)(x:Str)(ps:List Str)(mv:List Bool)(g:Mt):Prop where
 ex:∃f fd,FnOk P w K mg base GF k f fd ps (Jb G c mv g)/\Meth K (G.ct (c+1)).1 x f/\Binds K fd ps []
 cl:G6 K (G.ct (c+1)).1
 no:∀k,(G.ct (c+1)).2 k≠x
structure MpAt(P:Pv)(w:SL)(K:W0)(mg:W3)(base:SC)(k:Nat)(G:Gx)(c:Nat)(x:Str)(ps:List Str)(h:Fn):Prop where
 ex:∃f fd,FnOk P w K mg base GF k f fd ps (HR G h)/\Meth K (G.ct (c+1)).1 x f/\Binds K fd ps []
 cl:G6 K (G.ct (c+1)).1
 no:∀k,(G.ct (c+1)).2 k≠x
structure InAt(P:Pv)(w:SL)(K:W0)(mg:W3)(base:SC)(k:Nat)(G:Gx)(c n:Nat)(x:Str)(ps:List Str)(g:Mt):Prop where
 ex:∃f fd,FnOk P w K mg base GF k f fd ps (Jb G c (List.replicate n false) g)/\Mk K (G.ct (c+1)).1 f/\Binds K fd ps []
 mg:mg x=some (.ref (G.ct (c+1)).1)
section
variable{K:W0}
theorem MtAt.at{m:Me}(h:MtAt P w K mg base k G c x ps mv g):MtAt P w K mg base k (G.at m) c x ps mv g:=⟨h.ex,h.cl,h.no⟩
theorem InAt.at{P:Pv}{w:SL}{mg:W3}{base:SC}{k c n:Nat}{G:Gx}{x:Str}{ps:List Str}{g:Mt}{m:Me}(h:InAt P w K mg base k G c n x ps g):InAt P w K mg base k (G.at m) c n x ps g:=⟨h.ex,h.mg⟩
def lB{G:Gx}(F:xh K x b d f m)(q:Meth K (G.ct (c+1)).1 x f)(r:G6 K (G.ct (c+1)).1)(v:∀k,(G.ct (c+1)).2 k≠x)(S:bt N ps (ai d))(o:ps.length=j)(p:N.length=l)(u:∀(kV doc pm:KF)(an:Option KB)(h ct:KF)(i:W5),i.length=ps.length->bindArgs (PySem.W.fnOf x b (cG d) (aY d) (ai d) .none kV doc pm an h ct) ⟨i,[]⟩=pure (ps.zip i))(t:∀(a:KB)(h:KF)(A:P3)(outer:List PySem.Env)(s:FS)(H:Hp)(E:XK),jj k (A.deeper (envOfC b (ai d) s.heap.objs.size f h))->iJ (G.at (Ir a)) (jI GF P w K mg base N b (ai d) f h A outer s H E).IC (aY d) e) :
  MtAt P w K mg base (k+1) G c x ps mv (Hl c j l mv e):=⟨⟨f,m,Rx F S o p t,q,F.binds u⟩,r,v⟩
def CZ{G:Gx}(F:xh K y b d f m)(q:Mk K (G.ct (c+1)).1 f)(r:mg x=Z (.ref (G.ct (c+1)).1))(S:bt N ps (ai d))(o:ps.length=j)(p:N.length=l)(u:∀(kV doc pm:KF)(an:Option KB)(h ct:KF)(i:W5),i.length=ps.length->bindArgs (PySem.W.fnOf y b (cG d) (aY d) (ai d) .none kV doc pm an h ct) ⟨i,[]⟩=pure (ps.zip i))(t:∀(a:KB)(h:KF)(A:P3)(outer:List PySem.Env)(s:FS)(H:Hp)(E:XK),jj k (A.deeper (envOfC b (ai d) s.heap.objs.size f h))->iJ (G.at (Ir a)) (jI GF P w K mg base N b (ai d) f h A outer s H E).IC (aY d) e) :
  InAt P w K mg base (k+1) G c n x ps (Hl c j l (List.replicate n O) e):=⟨⟨f,m,Rx F S o p t,q,F.binds u⟩,r⟩
def zW{G:Gx}(F:Jk K y d e f q)(u:Mk K (G.ct (c+1)).1 f)(v:mg x=Z (.ref (G.ct (c+1)).1))(S:bt N ps (ai e))(r:ps.length=m)(t:N.length=p)(C:∀(s:FS)(T:KB)(kV doc pm:KF)(an:Option KB)(i ct:KF)(o:Obj)(n:Nat)(j:W5),K.In s.heap->K.lookup T=Z o->o.data=.seq #[.none] n->j.length=ps.length->BindsTo s (PySem.W.fnOf y d (cG e) (aY e) (ai e) (.ref T) kV doc pm an i ct) ⟨j,[]⟩ (ps.zip j))(z:∀(a:KB)(i:KF)(A:P3)(outer:List PySem.Env)(s:FS)(H:Hp)(E:XK),jj k (A.deeper (envOfC d (ai e) s.heap.objs.size f i))->iJ (G.at (Ir a)) (jI GF P w K mg base N d (ai e) f i A outer s H E).IC (aY e) h) :
  InAt P w K mg base (k+1) G c n x ps (Hl c m p (List.replicate n O) h):=⟨⟨f,q,Ew (λl b=>F.ok S l b) r t z,u,F.binds C⟩,v⟩
def m6{G:Gx}(F:xh K x a b f l)(p:Meth K (G.ct (c+1)).1 x f)(q:G6 K (G.ct (c+1)).1)(u:∀k,(G.ct (c+1)).2 k≠x)(S:bt N ps (ai b))(m:ps.length=i)(o:N.length=j)(t:∀(kV doc pm:KF)(an:Option KB)(e ct:KF)(h:W5),h.length=ps.length->bindArgs (PySem.W.fnOf x a (cG b) (aY b) (ai b) .none kV doc pm an e ct) ⟨h,[]⟩=pure (ps.zip h))(r:∀(e:KF)(A:P3)(outer:List PySem.Env)(s:FS)(H:Hp)(E:XK),jj k (A.deeper (envOfC a (ai b) s.heap.objs.size f e))->iJ G (jI GF P w K mg base N a (ai b) f e A outer s H E).IC (aY b) d) :
  MpAt P w K mg base (k+1) G c x ps (fn i j d):=⟨⟨f,l,Pf F S m o r,p,F.binds t⟩,q,u⟩
def ze{G:Gx}{k:Nat}{g:Fn}(i:G.K=K)(F:FnOk P w K mg base GF k f b [y] (HR G g))(e:∀ns:W8,g [.scr ns]=Z (.fr,.bl B)) :
  FnOk P w K mg base GF k f b [y] (HR (Pd K) zN):=F.imp λo H Q E h=>by
 obtain⟨p,s,m,r,j,a,q⟩:=h;unfold zN at a;split at a
 ·rename_i ns;cases a;cases j with
  |cons r1 r2 =>
   cases r2;cases r1 with
   |scr d=>exact⟨[.scr ns],[[]],.fr,.bl B,.cons (.scr (by rw[i];exact d)) .nil,e ns,λv l F e1 r f1=>q v l F e1 (by cases r;exact .bl _) f1⟩
 ·cases a
end
section
def ip{X:Cx}(C:jL G)(F:MtAt X.prog X.w X.K X.mg X.base k G c m ps mv g)(r:jj k' X.A)(t:k<=k')(s:II G X o i way)(u:GE G X (e :: es) cs)(D:{`q8,K1 e es X})(a:{`q8,K2 pos es X})(q:{`q8,eval (.Call (.Attribute o m apos) (e :: es) [] pos) X.env=(do
   let d ← eval o X.env
   standAt apos.atName
   let (f,first) ← holding [d] (getMethod d m l)
   callWith pos f first (backTo pos (PP (e :: es) X.env)) (backToKw pos (Re [] X.env)))}):PX G X (.Call (.Attribute o m apos) (e :: es) [] pos) (bB i way c mv g cs):=by
 obtain⟨f,fd,z,y,v⟩:=F.ex;exact yV C F.no s F.cl y z r t v u D a q
def xV{X:Cx}(y:jL G)(F:MtAt X.prog X.w X.K X.mg X.base k G c m ps mv g)(q:jj k' X.A)(s:k<=k')(r:II G X o i way)(l:eval (.Call (.Attribute o m apos) [] [] pos) X.env=(do
   let a ← eval o X.env
   standAt apos.atName
   let (f,first) ← holding [a] (getMethod a m d)
   callWith pos f first (backTo pos (PP [] X.env)) (backToKw pos (Re [] X.env)))):PX G X (.Call (.Attribute o m apos) [] [] pos) (bB i way c mv g ag):=by
 obtain⟨f,fd,v,u,t⟩:=F.ex;exact yP y F.no r F.cl u v q s t l
def C4{X:Cx}(F:MtAt X.prog X.w X.K X.mg X.base k G c m ps mv g)(t:jj k' X.A)(u:k<=k')(z:X.N[i]?=Z x)(r:Iw X.env.scope x)(v:K3 x)(d:K4 x)(H:PX G X e xc)(y:GE G X es cs)(J:K1 e es X)(a:K2 pos es X)(s:eval (.Call (.Attribute (.Name x p1) m apos) (e :: es) [] pos) X.env=(do
   let l ← eval (.Name x p1) X.env
   standAt apos.atName
   let (f,first) ← holding [l] (getMethod l m q)
   callWith pos f first (backTo pos (PP (e :: es) X.env)) (backToKw pos (Re [] X.env)))):PX G X (.Call (.Attribute (.Name x p1) m apos) (e :: es) [] pos) (oO i c mv g xc cs):=by
 obtain⟨f,fd,E,D,C⟩:=F.ex;exact A4 F.no z r v d F.cl D E t u C H y J a s
def zZ{X:Cx}(F:MpAt X.prog X.w X.K X.mg X.base k G c m ps h)(r:jj k' X.A)(t:k<=k')(s:PV G X o ca)(u:GE G X (e :: es) cs)(C:K1 e es X)(a:K2 pos es X)(q:eval (.Call (.Attribute o m apos) (e :: es) [] pos) X.env=(do
   let d ← eval o X.env
   standAt apos.atName
   let (f,first) ← holding [d] (getMethod d m l)
   callWith pos f first (backTo pos (PP (e :: es) X.env)) (backToKw pos (Re [] X.env)))):PV G X (.Call (.Attribute o m apos) (e :: es) [] pos) (fA c h ca cs):=by
 obtain⟨f,fd,z,y,v⟩:=F.ex;exact Df F.no s F.cl y z r t v u C a q
def nN{X:Cx}(F:MpAt X.prog X.w X.K X.mg X.base k G c m ps h)(q:jj k' X.A)(s:k<=k')(r:PV G X o ca)(l:eval (.Call (.Attribute o m apos) [] [] pos) X.env=(do
   let a ← eval o X.env
   standAt apos.atName
   let (f,first) ← holding [a] (getMethod a m d)
   callWith pos f first (backTo pos (PP [] X.env)) (backToKw pos (Re [] X.env)))):PV G X (.Call (.Attribute o m apos) [] [] pos) (fA c h ca ag):=by
 obtain⟨f,fd,v,u,t⟩:=F.ex;exact A0 F.no r F.cl u v q s t l
def EI{e:Ex}:∀(U:VS.Env)(d:Vy),ae e ag U=Z d->d.length=1:=λU d h=>by
 obtain⟨a,_,h⟩:=Zz.mp h;cases h;rfl
def BE{X:Cx}(F:InAt X.prog X.w X.K X.mg X.base k G c n x ps g)(l:jj k' X.A)(r:k+1<=k')(t:GE G X (e :: es) cs)(q:∀U d,cs U=Z d->d.length=n)(s:Gl X x)(z:K3 x)(he:K1 e es X)(a:K2 pos es X):PV G X (.Call (.Name x p) (e :: es) [] pos) (eNew c g cs):=by
 obtain⟨f,fd,y,v,u⟩:=F.ex;exact E3 n v y l r s F.mg u t q z he a
def zK{X:Cx}(F:InAt X.prog X.w X.K X.mg X.base k G c 0 x ps g)(a:jj k' X.A)(d:k+1<=k')(l:Gl X x)(t:K3 x):PV G X (.Call (.Name x p) [] [] pos) (eNew c g ag):=by
 obtain⟨f,fd,s,r,q⟩:=F.ex;exact Cm r s a d l F.mg q t
def qf{apos pos:Pos}(w:jL G)(q:II G X o i way)(s:GE G X [e] cs)(u:{`q8,X.K=G.K})(D:{`q8,SZ o "append" X.env (eval o X.env)=eval o X.env})(A:{`q8,((backTo cp (PP [e] X.env)).all (λx=>!x.1)&&(backToKw cp (Re [] X.env)).all (λx=>x.1.isSome)
   && decide ([e].length+([]:List Keyword).length+(if ([]:List Keyword).isEmpty then 0 else 1)<30))=B})(a:{`q8,(apos.endLine==cp.line)=B})(d:{`q8,K1 e [] X})(C:{`q8,(backTo cp (PP [] X.env)).any (·.1)=O})(y:{`q8,swapsWith (.Call (.Attribute o "append" apos) [e] [] cp) L pos.line X.env=pure O}) :
  PSV G X (.Expr (.Call (.Attribute o "append" apos) [e] [] cp) pos) (sX (iD i way aC cs)) :=
 wu w Xn XC XD jd oi (λH v t F l z r h=>lH r h) q s u D A a d C y
end
inductive Ia where | io (i:Nat) (un:Bool) | ex (c:Ex)
abbrev Xt:=VS.Env->Option (Bool×VS.Env)
end VS
end
section
namespace VS
open PySem PySem.Spec PyProof.Rows L2
def x2(f:Val->Val->Vx)(a b:Xx):Xx:=λU=>(a U).bind λz=>(b z.2).bind λw=>(f (.fr,z.1.2) (.fr,w.1.2)).bind λv=>if FW z.1.2=B/\FW w.1.2=B/\FW v.2=B then Z ((.fr,v.2),w.2) else L
inductive Ix where | io (i:Nat) (un:Bool) | px (x:Xx)
end VS
end
section
namespace VS
open PySem PySem.Spec PyProof.Rows L2
def P7:T->Bool
 |.tup l=>l.all Qs
 |t=>Qs t
end VS
end
section
namespace VS
open PySem PySem.Spec PyProof.Rows L2
noncomputable def e3(f:Val->Val->Val->Vx)(a b c:Ex):Ex:=λU=>(a U).bind λx=>(b U).bind λy=>(c U).bind λz=>f x y z
end VS
end
section
namespace L2
open PySem PySem.Spec PyProof.Rows TS
section
def vy(n:Inv X d J H g)(m:∀v∈f,∃x t,v=Value.str x t)(u:f.length<64)(q:∀(l:KB)(j:List Str),H l=L->j.Perm (f.map strOf)->j.Pairwise (λa b=>¬b.cps.toList<a.cps.toList)->Q (.ref l) (upd H l (.lst (j.map V.str)))) :
  (∀v∈f,∃x t,v=Value.str x t)/\f.length<64/\∀(out:W5)(i:SC)(e:Nat),out.Perm f->(out.map strOf).Pairwise (λa b=>¬b.cps.toList<a.cps.toList)->(∀b o,g.heap.get? b=Z o->i.get? b=Z o)->i.get? g.heap.objs.size=Z (seqObj "list" out.toArray e)->EP X d J Q (.ref g.heap.objs.size) { g with heap:=i }:=by
 refine⟨m,u,λout s e h p y he=>?_⟩;exact⟨.ref g.heap.objs.size,_,n.laid y (Zm _) (show c9 X.prog X.w _ s _ (.lst ((out.map strOf).map V.str)) from⟨(by rw[Zy,Zy,h.length_eq,YO];omega),out,e,nh (λv r=>m v (h.mem_iff.mp r)),he⟩),rfl,q _ _ (n.oe.fresh (Zm _)) (h.map _) p⟩
def kF{X:Cx}(E:X.calm=B):cB X (.builtin "sorted") (λi H Q=>∃p,∃f:List Str,i=[.ref p]/\H p=Z (zV X.w p f)/\(∀e:List Str,e.Nodup->(∀y,y∈e↔y∈f)->e.length<64) ∧
  ∀(l:KB)(e:List Str),H l=L->e.Nodup->(∀y,y∈e↔y∈f)->e.Pairwise (λa b=>¬b.cps.toList<a.cps.toList)->Q (.ref l) (upd H l (.lst (e.map V.str)))):=by
 intro j s J H i M Q I v h;refine L2.ar λY z=>?_;obtain⟨p,f,rfl,C,G,q⟩:=h;obtain⟨u,rfl,x⟩:=v.one;cases x;obtain⟨⟨U,R,S,t,T,n⟩,_,_⟩:=I.oe p _ C;refine z ?_;refine TS.kI λA' E' F=>ST.zq (F.trans (I.ok.hd E)) T λP d N r kp A g=>?_;refine vy ((I.kept kp).drew d) A ?_ λl e D m o=>q l e D (((m.trans g).nodup_iff).mpr T.nd) (λy=>((m.trans g).mem_iff).trans (n y)) o;have:=G (r.map strOf) ((g.nodup_iff).mpr T.nd) λy=>(g.mem_iff).trans (n y);simpa using this
end
end L2
end
section
namespace VS
open PySem PySem.Spec PyProof.Rows L2
def t2:T->Bool
 |.lst l=>l.all P7
 |t=>P7 t
def t3:T->Bool
 |.tup l=>l.all t2
 |t=>t2 t
end VS
end
section
namespace AU
structure St where
 lg:W7
 lk:List (Option Nat)
 wy:List (List (Nat×Nat))
noncomputable def gW(w:List (Nat×Nat))(c:Nat):Option Nat:=(w.find? λp=>p.1==c).map (·.2)
noncomputable def pW(w:List (Nat×Nat))(c m:Nat):List (Nat×Nat):=if w.any (λp=>p.1==c) then w.map (λp=>if p.1==c then (p.1,m) else p) else w++[(c,m)]
structure WF(S:St):Prop where
 lk:S.lk.length=S.lg.length
 wy:S.wy.length=S.lg.length
 pos:0<S.lg.length
 up:∀i n,S.lk.getD i none=some n->n<S.lg.length
 on:∀i c n,gW (S.wy.getD i []) c=some n->n<S.lg.length
 nd:∀w∈S.wy,(w.map (·.1)).Nodup
 az:∀w∈S.wy,∀p∈w,97<=p.1/\p.1<=122
theorem sub_len{α:Type}[DecidableEq α]:∀(l r:List α),l.Nodup->(∀x∈l,x∈r)->l.length<=r.length
 |[],_,_,_=>Yw _
 |a :: l,r,nd,h=>by
  obtain⟨g,f⟩:=ZX.mp nd;have d:=h a Zw;have:=sub_len l (r.erase a) f λx b=>(List.mem_erase_of_ne (λe=>g (by rw[← e];exact b))).mpr (h x (Zx _ b));rw[List.length_erase_of_mem d]at this;have:=List.length_pos_of_mem d;rw[Zf];lia
def WF.small(W:WF S)(i:Nat):(S.wy.getD i []).length<16777216:=by
 by_cases h:i<S.wy.length
 ·have a:S.wy.getD i []∈S.wy:=by
   rw[Zr,Zq h];exact Z7 h
  have:=sub_len ((S.wy.getD i []).map (·.1)) (List.range 123) (W.nd _ a) λx b=>by
   obtain⟨p,d,rfl⟩:=Z0.mp b;have:=(W.az _ a p d).2;exact YX.mpr (by exact Nat.lt_succ_of_le this)
  rw[Zy,Z1]at this;lia
 ·rw[Zr,ZI (ZP h)];decide
def BG(w:List (Nat×Nat))(c:Nat):(w.any λp=>p.1==c)=(gW w c).isSome:=by
 unfold gW;rw[YJ,X7,XY,List.find?_isSome]
def Bt(w:List (Nat×Nat))(c m d:Nat):gW (pW w c m) d=if d=c then Z m else gW w d:=by
 unfold pW;split
 ·rename_i h
  induction w with
  |nil=>simp at h
  |cons p w b =>
   rw[Zi];unfold gW;rw[Ys,Ys];by_cases q:p.1=c
   ·rw[Zp (by simpa using q)];by_cases r:p.1=d
    ·have:(p.1==d)=B:=by simpa using r
     simp only[this];rw[Zp (by rw[← r,q])];rfl
    ·have a:(p.1==d)=O:=by simpa using r
     have:d≠c:=λe=>r (by rw[e,q]);simp only[a,Zn this];have key:∀w:List (Nat×Nat),(w.map λp=>if p.1==c then (p.1,m) else p).find? (λp=>p.1==d)=w.find? λp=>p.1==d:=by
      intro w
      induction w with
      |nil=>rfl
      |cons x w b =>
       rw[Zi,Ys,Ys,b];by_cases y:x.1=c
       ·rw[Zp (by simpa using y)];have:(x.1==d)=O:=by simpa using λe=>this (by rw[← e,y])
        simp only[this]
       ·rw[Zn (by simpa using y)]
     rw[key w]
   ·rw[Zn (by simpa using q)];have g:=b (by
     rw[YV]at h;simpa[q] using h)
    by_cases r:p.1=d
    ·have a:(p.1==d)=B:=by simpa using r
     simp only[a];rw[Zn (λe=>q (by rw[r,e]))]
    ·have a:(p.1==d)=O:=by simpa using r
     simp only[a];exact g
 ·rename_i h;unfold gW;rw[List.find?_append];by_cases q:d=c
  ·subst q;have:w.find? (λp=>p.1==d)=L:=by
    rw[List.find?_eq_none];intro p f e;exact h (XY.mpr ⟨p,f,e⟩)
   rw[this,Zp Y];simp
  ·rw[Zn q];have:((c==d)=O):=by simpa using λe=>q e.symm
   simp[this]
def zM(w:List (Nat×Nat))(c m:Nat)(d:(w.map (·.1)).Nodup):((pW w c m).map (·.1)).Nodup:=by
 unfold pW;split
 ·rw[ZF];have:((λp:Nat×Nat=>p.1) ∘ λp=>if (p.1==c)=B then (p.1,m) else p)=λp=>p.1:=by
   funext p;simp only[Function.comp];split<;>rfl
  rw[this];exact d
 ·rename_i h;rw[Z3,ZL];refine⟨d,by simp,λa g b hb e=>?_⟩;have i:b=c:=by simpa using hb
  subst e i;obtain⟨p,f,e⟩:=Z0.mp g;exact h (XY.mpr ⟨p,f,by simpa using e⟩)
def Dz(h:p∈pW w c m):p.1=c\/p∈w:=by
 unfold pW at h;split at h
 ·obtain⟨q,a,rfl⟩:=Z0.mp h;by_cases r:(q.1==c)=B
  ·rw[Zp r];exact .inl (by simpa using r)
  ·rw[Zn r];exact .inr a
 ·rcases Zd.mp h with h | h
  ·exact .inr h
  ·rw[Zj.mp h];exact .inl Y
def g5{α:Type}(l:List α)(i j:Nat)(x d:α):(l.set i x).getD j d=if i=j/\i<l.length then x else l.getD j d:=by
 rw[Zr,Zr,Wh];by_cases h:i=j
 ·subst h;by_cases a:i<l.length
  ·rw[Zp Y,Zp a,Zp ⟨rfl,a⟩];rfl
  ·rw[Zp Y,Zn a,Zn (λz=>a z.2),ZI (ZP a)]
 ·rw[Zn h,Zn (λz=>h z.1)]
def bP{α:Type}(l:List α)(x d:α)(j:Nat):(l++[x]).getD j d=if j=l.length then x else l.getD j d:=by
 rw[Zr,Zr];by_cases h:j<l.length
 ·rw[Z5 h,Zn (Zg h)]
 ·rw[Yy (ZP h)];by_cases a:j=l.length
  ·rw[Zp a,a,Nat.sub_self];rfl
  ·rw[Zn a,ZI (ZP h),ZI (by simp;lia)]
def WF.way(W:WF S){n c v:Nat}(g:v<S.lg.length)(j:97<=c/\c<=122):WF ⟨S.lg,S.lk,S.wy.set n (pW (S.wy.getD n []) c v)⟩:=by
 refine⟨W.lk,by rw[Yt];exact W.wy,W.pos,W.up,λi d m h=>?_,λw hw=>?_,λw hw p f=>?_⟩
 ·have b:=h;rw[g5]at b;split at b
  ·rw[Bt]at b;split at b
   ·cases b;exact g
   ·exact W.on n d m b
  ·exact W.on i d m b
 ·by_cases a:n<S.wy.length
  ·rcases List.mem_or_eq_of_mem_set hw with h | h
   ·exact W.nd w h
   ·rw[h];refine zM _ c v (W.nd _ ?_);rw[Zr,Zq a];exact Z7 a
  ·rw[List.set_eq_of_length_le (ZP a)]at hw;exact W.nd w hw
 ·by_cases a:n<S.wy.length
  ·rcases List.mem_or_eq_of_mem_set hw with h | h
   ·exact W.az w h p f
   ·rw[h]at f;rcases Dz f with e | e
    ·rw[e];exact j
    ·refine W.az _ ?_ p e;rw[Zr,Zq a];exact Z7 a
  ·rw[List.set_eq_of_length_le (ZP a)]at hw;exact W.az w hw p f
def WF.link{S:St}(W:WF S){n v:Nat}(b:v<S.lg.length):WF ⟨S.lg,S.lk.set n (Z v),S.wy⟩:=by
 refine⟨by rw[Yt];exact W.lk,W.wy,W.pos,λi m h=>?_,W.on,W.nd,W.az⟩;have a:=h;rw[g5]at a;split at a
 ·cases a;exact b
 ·exact W.up i m a
def WF.more(W:WF S){l:Nat}{o:Option Nat}{w:List (Nat×Nat)}(f:∀n,o=Z n->n<S.lg.length)(hw:∀c n,gW w c=Z n->n<S.lg.length)(e:(w.map (·.1)).Nodup)(g:∀p∈w,97<=p.1/\p.1<=122):WF ⟨S.lg++[l],S.lk++[o],S.wy++[w]⟩:=by
 have b:∀{n},n<S.lg.length->n<(S.lg++[l]).length:=λh=>by rw[Zt,Za];exact Yo h
 refine⟨by rw[Zt,Zt,W.lk];rfl,by rw[Zt,Zt,W.wy];rfl,by rw[Zt];exact ZS W.pos (YS _ _),λi n h=>?_,λi c n h=>?_,λx d=>?_,λx d=>?_⟩
 ·have a:=h;rw[bP]at a;split at a
  ·exact b (f n a)
  ·exact b (W.up i n a)
 ·have a:=h;rw[bP]at a;split at a
  ·exact b (hw c n a)
  ·exact b (W.on i c n a)
 ·rcases Zd.mp d with h | h
  ·exact W.nd x h
  ·rw[Zj.mp h];exact e
 ·rcases Zd.mp d with h | h
  ·exact W.az x h
  ·rw[Zj.mp h];exact g
def up1(c v:Nat):Nat->St->Option Nat->Option (St×Option Nat)
 |_,S,none=>Z (S,L)
 |0,_,some _=>L
 |k+1,S,some n=>if (gW (S.wy.getD n []) c).isSome then Z (S,Z n) else up1 c v k ⟨S.lg,S.lk,S.wy.set n (pW (S.wy.getD n []) c v)⟩ (S.lk.getD n L)
def KH(c a v:Nat):Nat->St->Option Nat->Option St
 |_,S,none=>Z S
 |0,_,some _=>L
 |k+1,S,some n=>if gW (S.wy.getD n []) c=Z a then KH c a v k ⟨S.lg,S.lk,S.wy.set n (pW (S.wy.getD n []) c v)⟩ (S.lk.getD n L) else Z S
def Ko(S:St)(n c:Nat):Option (St×Nat):=(gW (S.wy.getD n []) c).bind λold=>if S.lg.getD old 0=S.lg.getD n 0+1 then Z (S,old) else
 (KH c old S.lg.length 1000 ⟨S.lg++[S.lg.getD n 0+1],(S.lk++[S.lk.getD old L]).set old (Z S.lg.length),S.wy++[S.wy.getD old []]⟩ (Z n)).map λa=>(a,S.lg.length)
def hb(S:St)(h c:Nat):Option (St×Nat):=if (gW (S.wy.getD h []) c).isSome then Ko S h c else
 (up1 c S.lg.length 1000 ⟨S.lg++[S.lg.getD h 0+1],S.lk++[Z 0],S.wy++[[]]⟩ (Z h)).bind λz=>match z.2 with
  |none=>Z (z.1,S.lg.length)
  |some n=>(Ko z.1 n c).map λy=>(⟨y.1.lg,y.1.lk.set S.lg.length (Z y.2),y.1.wy⟩,S.lg.length)
def hg(S:St)(h:Nat):W7->Option (St×Nat)
 |[]=>Z (S,h)
 |c :: r=>(hb S h c).bind λz=>hg z.1 z.2 r
noncomputable def Sm(S:St):Prop:=S.lg.length<=100001
def WF.Mr(W:WF S)(i:Nat):((S.wy.getD i []).map (·.1)).Nodup/\∀p∈S.wy.getD i [],97<=p.1/\p.1<=122:=by
 by_cases h:i<S.wy.length
 ·have a:S.wy.getD i []∈S.wy:=by
   rw[Zr,Zq h];exact Z7 h
  exact⟨W.nd _ a,W.az _ a⟩
 ·rw[Zr,ZI (ZP h)];exact⟨YY,λp b=>nomatch b⟩
noncomputable def S0:St:=⟨[0],[L],[[]]⟩
def Bq:WF S0:=by
 refine⟨rfl,rfl,by decide,λi n h=>?_,λi c n h=>?_,λw hw=>?_,λw hw p a=>?_⟩
 ·cases i with
  |zero=>cases h
  |succ i=>cases h
 ·cases i with
  |zero=>cases h
  |succ i=>cases h
 ·rw[Zj.mp hw];exact YY
 ·rw[Zj.mp hw]at a;cases a
end AU
end
section
namespace VS
open PySem PySem.Spec PyProof.Rows L2
section
noncomputable def Dm(i:Nat)(U:VS.Env):Option Out:=match U[i]? with
 |some (some (.ow (.lst _)))=>Z (.nx (U.set i (Z (.ow (.lst [])))))
 |_=>L
def AD{X:Cx}{apos cp pos:Pos}(i:Nat)(C:X.N[i]?=Z x)(w:Iw X.env.scope x)(A:K3 x)(d:K4 x)(R:SZ (.Name x p1) "clear" X.env (eval (.Name x p1) X.env)=eval (.Name x p1) X.env)(q:(apos.endLine==cp.line)=B)(Q:swapsWith (.Call (.Attribute (.Name x p1) "clear" apos) [] [] cp) L pos.line X.env=pure O) :
  PSV G X (.Expr (.Call (.Attribute (.Name x p1) "clear" apos) [] [] cp) pos) (Dm i) :=
 PS.weak (jg (CL Xn PySem.F.slot_list_clear PySem.F.type_list_clear yo (fZ C w A d) R q) Q) λD J H y=>by
  obtain⟨M,U,o,s,e,k⟩:=y;unfold Dm at e;split at e
  ·rename_i l m;cases e;obtain⟨v,p,E⟩:=s.rp _ _ m;obtain⟨a,j,Fs,rfl,P,f,_⟩:=E.lst_inv;have u:FR (H a):=by rw[f];exact True.intro
   have am:a∈M i:=by rw[P];exact Zw
   have g:Chg G H (.ref a) (M i) (.lst []) (upd H a (.lst [])) [a]:=⟨Kept.upd (.inl u),λb o n h=>by rw[aA (λz:b=a=>n (by rw[z];exact am))];exact h,λb h=>by
    by_cases z:b=a
    ·rw[z,aw];simp
    ·rw[aA z];exact h,.lst (Fs:=[]) aw .nil,by simp,λb hb=>.inl (by rw[Zj.mp hb];exact am)⟩
   obtain⟨t,r⟩:=s.mut m p g;exact⟨.ref a,p,.inl ⟨rfl,j,.inl (.inl f)⟩,a,j,rfl,rfl,f,k _ _ _ t r⟩
  ·cases e
end
section
noncomputable def lM(i:Int):Tx:=(Str.ofString (toString i)).cps.toList
def g6:Vy->Vx
 |[(_,.int i)]=>if i.natAbs.log2<1920/\Lb (lM i)=B then Z (.fr,.str (lM i)) else L
 |_=>L
def AO:dE G (λa H Q=>∃i,a=[.int i]/\i.natAbs.log2<1920/\Q (.str (toString i)) H) g6:=by
 intro M U f H l b g m t Q A e k;unfold g6 at e;split at e
 ·rename_i d i;split at e
  ·rename_i h;cases e;obtain⟨v,F,rfl,rfl,r⟩:=(A.rp).one;refine⟨i,by rw[r.int_inv],h.1,bf k ?_⟩;have:=Rp.str (G:=G) (H:=H) (lM i) (sJ h.2);rw[show sx (lM i)=Str.ofString (toString i) by simp[sx,lM]]at this;exact this
  ·cases e
 ·cases e
def CK:bootBuiltins ("str" : Str)=Z (.type "str"):=by decide +kernel
def jE{X:Cx}(a:X.mg "str" = L)(d:GE G X [e] cs)(b:{`q2,Gl X "str"})(f:{`q2,X.calm=B})(he:{`q2,K1 e [] X}):PV G X (.Call (.Name "str" p) [e] [] pos) (eN g6 cs) :=
 ia pA AO b a CK d (he:=he)
end
end VS
end
section
namespace L2
open PySem PySem.Spec PyProof.Rows
section
def nZ:cB X (.type "int") (λa H Q=>∃x n,a=[.str x]/\x.length<=640/\PySem.intText? x=Z n/\Q (.int n) H):=by
 intro b s J H a f Q I r h;obtain⟨x,n,rfl,d,e,q⟩:=h;obtain⟨u,rfl,t,rfl⟩:=vals1 r;exact PySem.W.KIN.call_text e d ⟨.int _,H,I.tok _,⟨_,rfl⟩,q⟩
end
end L2
namespace VS
open PySem PySem.Spec PyProof.Rows L2
section
def Ca(s:Tx):Option Int:=PySem.intText? (sx s)
def jm:Vy->Vx
 |[(_,.str s)]=>if s.length<=640 then (Ca s).map λn=>(.fr,.int n) else L
 |_=>L
def A3:dE G (λd H Q=>∃x n,d=[.str x]/\x.length<=640/\PySem.intText? x=Z n/\Q (.int n) H) jm:=by
 intro M U i H l f j m t Q A e k;unfold jm at e;split at e
 ·rename_i g s;split at e
  ·rename_i h;obtain⟨n,e1,e2⟩:=Zu.mp e;cases e2;obtain⟨v,F,rfl,rfl,r⟩:=(A.rp).one;exact⟨sx s,n,by rw[r.str_inv.1],by simpa[sx,PySem.Str.length] using h,e1,bf k (Rp.int n)⟩
  ·cases e
 ·cases e
def pq{X:Cx}(d:X.mg "int" = L)(g:GE G X [e] cs)(f:{`q2,Gl X "int"})(he:{`q2,K1 e [] X}):PV G X (.Call (.Name "int" p) [e] [] pos) (eN jm cs) :=
 ia nZ A3 f d CD g (he:=he)
def sP:Val->Vx
 | (_,.int i)=>if i.natAbs.log2<1920/\Lb (lM i)=B then Z (.fr,.str (lM i)) else L
 | (_,.str s)=>Z (.fr,.str s)
 |_=>L
def Bw(E:PV G X a ca):PV G X (.FormattedValue a (-1) L pos) (e1 sP ca):=λf s J H Q I D=>by
 obtain⟨M,U,m,r,A,e,k⟩:=D;obtain⟨⟨C,y⟩,P,d⟩:=Zz.mp e;refine FormattedValue_plain (thn (E f s J H _ I ⟨M,U,C,y,A,P,λv l F e1 r1 f1=>(show (∃i,v=.int i/\i.natAbs.log2<1920/\Q (.str (toString i)) l)\/∃x:Str,v=.str x/\x.length<=IR/\Q (.str x) l from ?_)⟩) λu Y N=>?_)
 ·unfold sP at d;split at d
  ·rename_i i j;cases j;split at d
   ·rename_i h;cases d;refine .inl ⟨i,r1.int_inv,h.1,?_⟩;have:=Rp.str (G:=G) (H:=l) (lM i) (sJ h.2);rw[show sx (lM i)=Str.ofString (toString i) by simp[sx,lM]]at this;exact k _ _ _ e1 this Fp.nil
   ·cases d
  ·rename_i z j;cases j;cases d;refine .inr ⟨sx z,r1.str_inv.1,?_,k _ _ _ e1 (Rp.str z r1.str_inv.2) Fp.nil⟩;have:=r1.str_inv.2.1;show (sx z).cps.size<=_;simpa[sx,YO,dq] using this
  ·cases d
 ·obtain⟨v,w,o,n,⟨i,rfl,g,q⟩ | ⟨x,rfl,g,q⟩⟩:=N
  ·obtain⟨t,rfl⟩:=n;exact formatField_int_small g ⟨.str _,w,o.tok _,⟨_,rfl⟩,q⟩
  ·obtain⟨t,rfl⟩:=n;exact formatField_str (λS R=>⟨.str _,w,o.tok _,⟨_,rfl⟩,q⟩) g
def oW:Val->Val->Vx
 | (_,.str s),(_,.str t)=>if s.length+t.length<=dq then Z (.fr,.str (s++t)) else L
 |_,_=>L
def rH(h:oW x y=Z r):∃s t,x.2=.str s/\y.2=.str t/\s.length+t.length<=dq/\r=(.fr,.str (s++t)):=by
 unfold oW at h;split at h
 ·split at h
  ·rename_i d;cases h;exact⟨_,_,rfl,rfl,d,rfl⟩
  ·cases h
 ·cases h
def pj{c:Ex}{e:Expr}(h:PV G X e c)(I:Inv X d J H s)(n:SR G M U J H)(y:c U=Z (m,.str t)){g:Str}(D:g.length+t.length<=IR)(k:∀i j,aJ H i->lz t->Inv X d J i j->KM (GM X.prog X.w) X.A (joinParts (g++sx t) f) Q X.xe j):KM (GM X.prog X.w) X.A (joinParts g (eval e X.env :: f)) Q X.xe s:=by
 refine joinParts_cons (thn (h d s J H (λv i=>v=.str (sx t)/\lz t/\aJ H i) I ⟨M,U,m,_,n,y,λv i F e1 r1 f1=>⟨r1.str_inv.1,r1.str_inv.2,e1⟩⟩) λu q x=>?_);obtain⟨v,C,z,r,rfl,l,o⟩:=x;obtain⟨tt,rfl⟩:=r;refine⟨?_,k C q o l z⟩;rw[strLen_append];have:(sx t).length=t.length:=by simp[sx,PySem.Str.length]
 omega
def Af(E:PV G X a ca)(D:PV G X b cb)(C:PV G X c cc):PV G X (.JoinedStr [a,b,c] pos) (e2 oW (e2 oW ca cb) cc):=λl s J H Q I d=>by
 obtain⟨M,U,m,r,i,e,k⟩:=d;obtain⟨xy,e1,e⟩:=Zz.mp e;obtain⟨z,S,e⟩:=Zz.mp e;obtain⟨x,ex,e1⟩:=Zz.mp e1;obtain⟨y,Y,e1⟩:=Zz.mp e1;obtain⟨h,f,R,P,l1,rfl⟩:=rH e1;obtain⟨s2,t2,N,F,o,er⟩:=rH e;obtain⟨xm,x⟩:=x;obtain⟨ym,y⟩:=y;obtain⟨zm,z⟩:=z;cases R;cases P;cases N;cases F;cases er;have ln:∀t:Tx,(sx t).length=t.length:=λt=>by simp[sx,PySem.Str.length]
 have g:IR=dq:=YO;rw[Zt]at o;refine JoinedStr_many (pj E I i ex (by rw[g,show Str.empty.length=0 from rfl];omega) λH1 u1 j A I1=>?_);refine pj D I1 (i.same j) Y (by rw[g,strLen_append,ln,show Str.empty.length=0 from rfl];omega) λH2 u2 n w I2=>?_;refine pj C I2 ((i.same j).same n) S (by rw[g,strLen_append,strLen_append,ln,ln,show Str.empty.length=0 from rfl];omega) λH3 u3 u v I3=>?_;have ee:Str.empty++sx h++sx f++sx t2=sx (h++f++t2):=by
  show (⟨((#[]++h.toArray)++f.toArray)++t2.toArray⟩:Str)=⟨(h++f++t2).toArray⟩;simp
 rw[ee];refine joinParts_nil ⟨.str _,H3,I3.tok _,⟨_,rfl⟩,?_⟩ (by rw[ln,g,Zt,Zt];omega);exact k _ _ _ ((j.trans n).trans u) (Rp.str _ ⟨by rw[Zt,Zt];exact o,λq d=>by
  rcases Zd.mp d with d | d
  ·rcases Zd.mp d with d | d
   ·exact A.2 q d
   ·exact w.2 q d
  ·exact v.2 q d⟩) Fp.nil
noncomputable def r9:T->Option Bool
 |.lst _=>Z B
 |.tup _=>Z B
 |.non=>Z O
 |.bl _=>Z O
 |.int _=>Z O
 |.str _=>Z O
 |_=>L
def Bx(a:Ex)(U:VS.Env):Vx:=(a U).bind λx=>(r9 x.2).map λb=>(.fr,.bl b)
def DD{D:W5}(I:Inv X f J H s)(d:RelV x u)(F:GL X.K H x t)(P:∀C,t ≠ .ref C)(v:t ≠ .type "dict")(g:s.heap.get? r=Z ⟨.type "tuple",S,.seq D.toArray n,N⟩)(e:PySem.W.kitAny X.K t D=Z E)(h:∀M,Q (.bool E) { s with toks:=M }) :
  KM (GM X.prog X.w) X.A (call (.builtin "isinstance") [u,.ref r]) Q X.xe s:=by
 cases F with
 |non=>cases (d);exact YL PySem.W.kitx_none I.GP True.intro g e (λz=>nomatch z) h
 |bl y=>cases (d);exact YL PySem.W.kitx_bool I.GP True.intro g e (λz=>nomatch z) h
 |int i=>obtain⟨t,q⟩:=(d);cases q;exact YL PySem.W.kitx_int I.GP True.intro g e (λz=>nomatch z) h
 |str y=>obtain⟨t,q⟩:=(d);cases q;exact YL PySem.W.kitx_str I.GP True.intro g e (λz=>nomatch z) h
 |flt y=>obtain⟨t,q⟩:=(d);cases q;exact YL PySem.W.kitx_float I.GP True.intro g e (λz=>nomatch z) h
 |@lst a m l =>
  cases (d);obtain⟨_,_,n,_,j⟩:=(I.oe a _ l)
  exact YL XF I.GP ⟨_,j,rfl⟩ g e (λz=>nomatch z) h
 |@frz a U m l =>
  cases (d);obtain⟨_,_,_,n,_,j⟩:=(I.oe a _ l)
  exact YL XF I.GP ⟨_,j,rfl⟩ g e (λz=>nomatch z) h
 |@tup a m l =>
  cases (d);obtain⟨_,_,_,_,p⟩:=(I.oe a _ l)
  obtain⟨o,j,R,_⟩:=p;exact YL PySem.W.kitx_tuple I.GP ⟨o,j,R⟩ g e (λz=>nomatch z) h
 |dK=>exact absurd Y v
 |dT=>exact absurd Y v
 |ins=>exact absurd Y (P _)
def ve:cB X (.builtin "isinstance") (λg H Q=>∃x d t b,g=[x,.ref d]/\H d=Z (.tup [.ty "list",.ty "tuple"])/\GL X.K H x t/\(∀C,t ≠ .ref C)/\t ≠ .type "dict" ∧ PySem.W.kitAny X.K t [.type "list",.type "tuple"]=Z b/\Q (.bl b) H):=by
 intro f s J H M D Q I r h;refine L2.ar λP_ v=>?_;obtain⟨x,d,t,b,rfl,w,ty,u,o,e,q⟩:=h;obtain⟨P,N,rfl,r1,r2⟩:=vals2 r;cases (r2);obtain⟨_,U,i,_,m,A,z,n,y⟩:=(I.oe d _ w)
 obtain⟨oc,S,Y,Je⟩:=m;subst z;subst y;obtain⟨F,E,rfl,l,j⟩:=vals2 i;cases l;cases j;refine v ?_;exact DD I r1 ty u o A e λR=>⟨.bl b,H,I.tok _,rfl,q⟩
def D5{b:Bool}(r:Rp G H v t F)(h:r9 t=Z b):∃g,GL G.K H v g/\(∀C,g ≠ .ref C)/\g ≠ .type "dict" ∧ PySem.W.kitAny G.K g [.type "list",.type "tuple"]=Z b:=by
 have f:∀n:String,PySem.W.kitAny G.K (.type n) [.type "list",.type "tuple"]=match PySem.W.kitOne G.K (.type n) (.type "list") with | some true=>some true | some false=>(match PySem.W.kitOne G.K (.type n) (.type "tuple") with | some true=>some true | some false=>some false | none=>none) | none=>none:=λn=>rfl
 obtain⟨x,w,u,o,m,l,M⟩:=pE G.K .list;obtain⟨J,E,D,A,P,y,N⟩:=pE G.K .tuple;have d:∀n:String,∀C,Value.type n ≠ .ref C:=λn C z=>nomatch z
 cases r with
 |non=>cases h;exact⟨_,.non,d _,by decide,(f _).trans (by rw[show PySem.W.kitOne G.K (.type "NoneType") (.type "list")=_ from x,show PySem.W.kitOne G.K (.type "NoneType") (.type "tuple")=_ from J])⟩
 |bl b=>cases h;exact⟨_,.bl b,d _,by decide,(f _).trans (by rw[show PySem.W.kitOne G.K (.type "bool") (.type "list")=_ from w,show PySem.W.kitOne G.K (.type "bool") (.type "tuple")=_ from E];rfl)⟩
 |int i=>cases h;exact⟨_,.int i,d _,by decide,(f _).trans (by rw[show PySem.W.kitOne G.K (.type "int") (.type "list")=_ from u,show PySem.W.kitOne G.K (.type "int") (.type "tuple")=_ from D];rfl)⟩
 |str s _=>cases h;exact⟨_,.str _,d _,by decide,(f _).trans (by rw[show PySem.W.kitOne G.K (.type "str") (.type "list")=_ from o,show PySem.W.kitOne G.K (.type "str") (.type "tuple")=_ from A];rfl)⟩
 |tup j q=>cases h;exact⟨_,.tup j,d _,by decide,(f _).trans (by rw[show PySem.W.kitOne G.K (.type "tuple") (.type "list")=_ from l,show PySem.W.kitOne G.K (.type "tuple") (.type "tuple")=_ from y];rfl)⟩
 |lst j q=>cases h;exact⟨_,.lst j,d _,by decide,(f _).trans (by rw[show PySem.W.kitOne G.K (.type "list") (.type "list")=_ from m];rfl)⟩
 |_=>cases h
def Ci(x:PV G X a ca)(u:X.mg "isinstance" = L)(P:X.mg "list" = L)(Ku:X.mg "tuple" = L)(w:Gl X "isinstance")(R:Gl X "list")(S:Gl X "tuple")(z:X.K=G.K)(g:PP [a,.Tuple [.Name "list" p1,.Name "tuple" p2] d p3] X.env=(O,eval a X.env) :: PP [.Tuple [.Name "list" p1,.Name "tuple" p2] d p3] X.env) :
  PV G X (.Call (.Name "isinstance" p) [a,.Tuple [.Name "list" p1,.Name "tuple" p2] d p3] [] pos) (Bx ca) :=
 PE.weak (kG ve w u boot_isinstance (dz x (dz (wj (dz (oU (v:=.ty "list") R P t4 Y) (dz (oU (v:=.ty "tuple") S Ku (A8 .tuple) Y) iR Y) Y)) iR Y) g) (by decide) Y g Y) λJ H Q q=>by
  refine L2.ar λP_ o=>?_;obtain⟨M,U,m,r,s,e,k⟩:=q;obtain⟨⟨n,y⟩,E,N⟩:=Zz.mp e;obtain⟨b,D,e2⟩:=Zu.mp N;cases e2;refine o ?_;refine⟨M,U,n,y,s,E,λv j F e1 r1 f1=>⟨by decide,λp t=>?_⟩⟩;have f:aJ j (upd j p (.tup [.ty "list",.ty "tuple"])):=cJ t;obtain⟨l,i,C,A,h⟩:=D5 (r1.same f) D;rw[← z]at i h;exact⟨v,p,l,b,rfl,aw,i,C,A,h,k _ _ _ (e1.trans f) (.bl _) Fp.nil⟩
def js:Vy->Vx
 |[(_,.lst l)]=>(strs? l).bind λd=>if d.length<64 then Z (.fr,.lst ((d7 (dedup d)).map .str)) else L
 |_=>L
theorem oJ:∀l:List Tx,(dedup l).length<=l.length
 |[]=>Zm _
 |a :: l=>Yl (ZY (Xa _ _) (oJ l))
def rR{X:Cx}(P:X.mg "sorted" = L)(Ku:X.mg "set" = L)(S:GE G X [e] cs)(R:{`q2,Gl X "sorted"})(Ly:{`q2,Gl X "set"})(hK:{`q2,X.K=G.K})(u:{`q2,X.calm=B})(he:{`q2,K1 e [] X})(O4:{`q2,PP [.Call (.Name "set" p2) [e] [] pos'] X.env=(O,eval (.Call (.Name "set" p2) [e] [] pos') X.env) :: PP [] X.env}) :
  PV G X (.Call (.Name "sorted" p) [.Call (.Name "set" p2) [e] [] pos'] [] pos) (eN js cs):=by
 refine PE.weak (kG (kF u) R P oq (dz (om (vC u) Ly Ku CA S (he:=he)) iR O4)) λJ H Q Y=>?_;obtain⟨M,U,m,t,s,g,k⟩:=Y;obtain⟨l,el,g⟩:=Zz.mp g;refine⟨M,U,l,s,el,λvs A Fs o r1 f1=>?_⟩;unfold js at g;split at g
 ·rename_i mx x;obtain⟨d,e1,e2⟩:=Zz.mp g;split at e2
  ·rename_i hb;cases e2;obtain⟨v,F,rfl,rfl,C⟩:=r1.one;obtain⟨a,ys,Gs,rfl,rfl,NZ,r⟩:=C.lst_inv;have pm:∀f:List Str,f.Nodup->(∀y,y∈f↔y∈d.map sx)->f.Perm ((dedup d).map sx):=λf i h=>(XH i ((iL d).map _ λa b Ma e=>Ma (Eu e))).mpr λy=>by
    rw[h y,Z0,Z0];exact⟨λ⟨z,j,e⟩=>⟨z,(h9 d z).mpr j,e⟩,λ⟨z,j,e⟩=>⟨z,(h9 d z).mp j,e⟩⟩
   refine⟨a,d.map sx,rfl,?_,by rw[Zy];exact Wk (Nat.succ_lt_succ hb) (by decide),λq N=>⟨q,d.map sx,rfl,aw,λf i h=>by rw[(pm f i h).length_eq,Zy];exact YA (oJ d) hb,λD f HJ i h Td=>?_⟩⟩
   ·rw[ZF,hK];have:=pR r e1;rw[show (V.str ∘ sx)=λs=>V.str (sx s) from rfl,← this];exact FT.of NZ
   ·have n:aJ A (upd A q (zV X.w q (d.map sx))):=cJ N;exact qx (G:=G) (λv H' F e2 r2 f2=>k v H' F ((o.trans n).trans e2) r2 f2) (o.trans n) (λs E=>t9 r e1 s ((h9 d s).mp E)) D f HJ (pm f i h) Td
  ·cases e2
 ·cases g
end
section
variable{K:W0}
def zk{e:List Str}(F:xh K x x b f g)(j:mg x=Z (.ref f))(l:∀(kV doc pm:KF)(an:Option KB)(i ct:KF)(a:W5),a.length=e.length->bindArgs (PySem.W.fnOf x x (cG b) (aY b) (ai b) .none kV doc pm an i ct) ⟨a,[]⟩=pure (e.zip a)) :
  FnAt P w K mg base 0 x e G λ_=>L :=
 have no:∀{d H Q E},HR G (λ_=>L) d H Q E->False:=λh=>by
  obtain⟨_,_,_,_,_,h,_⟩:=h;cases h
 ⟨f,g,⟨λd H Q E h=>(no h).elim,λA outer s H args a d Q E _ _ _ _ h=>(no h).elim⟩,j,F.kp,F.binds l⟩
end
end VS
end
section
namespace T51
open VS
def aF:Mt:=Hl 0 4 4 [O,O,B]
  (aq (sX (iD 0 [.fld 1] aC (ae (ab 1) ag)))
  (aq (sX (iD 0 [.fld 2] aC (ae (ab 2) ag)))
  (aq (nL 0 [.fld 3] 3)
  (cX (e2 qh (eN cP (ae (aU 1 (ab 0)) ag)) (Q3 1))))))
def dg:Mt:=Hl 0 1 1 (List.replicate 0 O)
  (aq (jo 0 1 (cQ ag))
  (aq (jo 0 2 (cQ ag))
  (aq (jo 0 3 (cQ ag))
  (NF (bB 0 [] 0 [O,O,B] aF (ae (Q3 0) (ae (eC .non) (ae (qH 0 []) ag))))))))
def bK:Sx :=
  (aq (fL 0 [.fld 3,.ix (ab 1)] (ab 2) (ab 5))
  (aB 1 (e2 ay (aU 2 (ab 0)) (ab 1))))
def au:Mt:=Hl 0 3 6 [O,O]
  (aq (aB 3 (e2 HI (e2 ay (aU 3 (ab 0)) (ab 1)) (ab 2)))
  (aq (aB 4 (e2 bO (e2 ay (aU 1 (ab 0)) (ab 1)) (Q3 1)))
  (aq (GH (e2 oEq (e2 ay (aU 1 (ab 0)) (ab 3)) (ab 4)) (iE 3) dH)
  (aq (jq 5 (bB 0 [] 0 [O,O,B] aF (ae (ab 4) (ae (e2 ay (aU 2 (ab 0)) (ab 3)) (ae (eN kP (ae (e2 ay (aU 3 (ab 0)) (ab 3)) ag)) ag)))))
  (aq (fL 0 [.fld 2] (ab 3) (ab 5))
  (aq (nu (fH (ie (ab 1)) (e2 oEq (e2 uR (e2 ay (aU 3 (ab 0)) (ab 1)) (ab 2)) (ab 3))) bK)
  (iE 5)))))))
def bJ:Sx :=
  (aq (fL 0 [.fld 3,.ix (ab 4)] (ab 2) (ab 3))
  (aB 4 (e2 ay (aU 2 (ab 0)) (ab 4))))
def bH:Mt:=Hl 0 3 5 [O,O]
  (aq (GH (e2 mE (ab 2) (e2 ay (aU 3 (ab 0)) (ab 1))) (rP (bB 0 [] 0 [O,O] au (ae (ab 1) (ae (ab 2) ag)))) dH)
  (aq (jq 3 (bB 0 [] 0 [O,O,B] aF (ae (e2 bO (e2 ay (aU 1 (ab 0)) (ab 1)) (Q3 1)) (ae (Q3 0) (ae (qH 0 []) ag)))))
  (aq (aB 4 (ab 1))
  (aq (nu (fH (ie (ab 4)) (e2 dy (ab 2) (e2 ay (aU 3 (ab 0)) (ab 4)))) bJ)
  (aq (GH (ie (ab 4)) (jW 0 [.fld 2] (ab 3) (bB 0 [] 0 [O,O] au (ae (ab 4) (ae (ab 2) ag)))) dH)
  (iE 3))))))
def bW:Sx :=
  (jq 1 (bB 0 [] 0 [O,O] bH (ae (ab 1) (ae (ab 3) ag))))
def aM:Mt:=Hl 0 3 4 [O,O]
  (aq (ji (ba 3) (fE (ab 2)) bW)
  (iE 1))
def bq:Sx :=
  (GH (e2 dy (e2 HI (ab 4) (ab 5)) (ab 1)) (aq (ue 1 (e2 HI (ab 4) (ab 5)) (eN cP (ae (ab 2) ag)))
  (sX (kR 2 [] aC (ae (e2 HI (ab 4) (ab 5)) ag)))) dH)
def bV:Sx :=
  (aq (aB 4 (e2 ay (aU 3 (ab 0)) (e2 ay (ab 2) (ab 3))))
  (aq (ji (ba 5) (fE (eN gM (ae (ab 4) ag))) bq)
  (aB 3 (e2 bO (ab 3) (Q3 1)))))
def aD:Fn:=fn 1 6
  (aq (lP 1 (qH 0 [((Q3 0),(Q3 0))]))
  (aq (lP 2 (cQ (ae (Q3 0) ag)))
  (aq (aB 3 (Q3 0))
  (aq (nu (e2 oLt (ab 3) (eN cP (ae (ab 2) ag))) bV)
  (aq (sE 2)
  (iE 1))))))
def bU:Fn:=fn 3 6
  (aq (aB 3 (e2 ay (aU 2 (ab 0)) (ab 1)))
  (aq (aB 4 (e2 ay (aU 3 (ab 0)) (ab 1)))
  (aq (aB 5 (eN iq (ae (cT 1 (ba 0) (fE (eN gM (ae (ab 4) ag))) L (mG (ae (ab 0) (ae (e2 pH (ab 3) (e2 HI (ab 5) (ab 0))) ag)))) ag)))
  (aq (GH (vm (ab 3)) (cX (mG (ae (Q3 0) (ae (Q3 0) (ae (eC .non) (ae (ab 5) ag)))))) dH)
  (cX (mG (ae (e2 bO (e2 ay (aU 1 (ab 0)) (ab 3)) (Q3 1)) (ae (e2 ay (aU 1 (ab 0)) (ab 1)) (ae (e2 pH (ab 2) (ab 3)) (ae (ab 5) ag))))))))))
def dm:Fn:=fn 1 2
  (aq (lP 1 (fA 0 aD (ab 0) ag))
  (yE 1 (ba 0) (fA 0 bU (ab 1) (ae (ab 0) (ae (ab 2) ag)))))
def bw:Mt:=Hl 1 1 1 []
  (aq (GH (e2 L1 (eN cP (ae (aU 4 (ab 0)) ag)) (Q3 8)) LY dH)
  (aq (sX (iD 0 [.fld 4] aC (ae (eC (.str [])) ag)))
  (aq (sX (iD 0 [.fld 5] aC (ae (Q3 0) ag)))
  (cX (e2 qh (eN cP (ae (aU 4 (ab 0)) ag)) (Q3 1))))))
def jH:Fn:=fn 1 1
  (cX (fH (Hy .int (ab 0)) (jF (Hy .bool (ab 0)))))
def bh:Fn:=fn 2 2
  (GH (JS (jF (aQ jH (ae (ab 1) ag))) (jF (gP oLe oLt (Q3 0) (ab 1) (eN cP (ae (ab 0) ag))))) LY dH)
def fW:Fn:=fn 1 1
  (cX (eN zv (ae (cT 1 (ba 0) (fE (ab 0)) L (eN cP (ae (ab 0) ag))) ag)))
def bu:Mt:=Hl 1 3 3 [O,O]
  (aq (sX (xP (aQ bh (ae (aU 4 (ab 0)) (ae (ab 1) ag)))))
  (aq (GH (e2 L0 (e2 bO (aQ fW (ae (aU 4 (ab 0)) ag)) (eN cP (ae (ab 2) ag))) (Q3 120)) LY dH)
  (aq (jW 0 [.fld 5] (ab 1) (bB 0 [.fld 6] 0 [O,O] aM (ae (e2 ay (aU 5 (ab 0)) (ab 1)) (ae (ab 2) ag))))
  (fL 0 [.fld 4] (ab 1) (e2 bO (e2 ay (aU 4 (ab 0)) (ab 1)) (ab 2))))))
def bz:Sx :=
  (NF (oO 0 1 [O,O] bu (bB 0 [] 1 [] bw ag) (ae (ab 2) ag)))
def aR:Mt:=Hl 1 2 3 (List.replicate 1 O)
  (aq (jo 0 4 (cQ ag))
  (aq (jo 0 5 (cQ ag))
  (aq (jo 0 6 (eNew 0 dg ag))
  (GH (ie (ab 1)) (ji (ba 2) (fE (ab 1)) bz) dH))))
def mf:Fn:=fn 1 1
  (cX (eN lj (ae (aU 4 (ab 0)) ag)))
def bY:Fn:=fn 1 1
  (cX (fA 0 dm (aU 6 (ab 0)) ag))
def df:Fn:=fn 1 1
  (cX (fH (Hy .str (ab 0)) (eN n8 (ae (cT 1 (ba 0) (fE (ab 0)) L (gP oLe oLe (eC (.str [97])) (ab 0) (eC (.str [122])))) ag))))
def iy:Fn:=fn 1 3
  (aq (aB 1 (Kx (vm (e2 ay (ab 0) (Q3 2))) (eC (.str [45])) (eN g6 (ae (e2 ay (ab 0) (Q3 2)) ag))))
  (aq (aB 2 (cT 2 (jM [(ba 0),(ba 1)]) (fE (e2 ay (ab 0) (Q3 3))) L (e2 oW (e2 oW (e1 sP (ab 0)) (eC (.str [58]))) (e1 sP (ab 1)))))
  (cX (eM iX (eC (.str [32])) (ae (e2 bO (cQ (ae (eN g6 (ae (e2 ay (ab 0) (Q3 0)) ag)) (ae (eN g6 (ae (e2 ay (ab 0) (Q3 1)) ag)) (ae (ab 1) ag)))) (ab 2)) ag)))))
def fF:Fn:=fn 1 1
  (cX (eM iX (eC (.str [10])) (ae (cT 1 (ba 0) (fE (ab 0)) L (aQ iy (ae (ab 0) ag))) ag)))
def bE:Fn:=fn 2 2
  (aq (GH (JS (jF (gP oLe oLe (Q3 1) (eN cP (ae (ab 0) ag)) (ab 1))) (fH (e2 oEq (e2 ay (ab 0) (Q3 0)) (eC (.str [48]))) (e2 L0 (eN cP (ae (ab 0) ag)) (Q3 1)))) (cX (eC (.bl O))) dH)
  (cX (eN n8 (ae (cT 1 (ba 0) (fE (ab 0)) L (gP oLe oLe (eC (.str [48])) (ab 0) (eC (.str [57])))) ag))))
def pV:Fn:=fn 1 1
  (cX (e2 oEq (eN lj (ae (ab 0) ag)) (eN js (ae (ab 0) ag))))
def dM:Fn:=fn 1 1
  (cX (fH (aQ df (ae (HM (ab 0) L (Z (Q3 1))) ag)) (fH (e2 oEq (HM (ab 0) (Z (Q3 1)) (Z (Q3 2))) (eC (.str [58]))) (aQ bE (ae (HM (ab 0) (Z (Q3 2)) L) (ae (Q3 9) ag))))))
def dN:Fn:=fn 1 4
  (aq (aB 1 (eM gK (ab 0) (ae (eC (.str [32])) ag)))
  (aq (aB 2 (HM (ab 1) (Z (Q3 3)) L))
  (aq (GH (JS (e2 oLt (eN cP (ae (ab 1) ag)) (Q3 3)) (jF (eN n8 (ae (cT 1 (ba 0) (fE (ab 2)) L (aQ dM (ae (ab 0) ag))) ag)))) (cX (eC (.bl O))) dH)
  (aq (aB 3 (Kx (e2 oEq (e2 ay (ab 1) (Q3 2)) (eC (.str [45]))) (HM (ab 1) L (Z (Q3 2))) (HM (ab 1) L (Z (Q3 3)))))
  (cX (fH (eN n8 (ae (cT 1 (ba 0) (fE (ab 3)) L (aQ bE (ae (ab 0) (ae (Q3 9) ag)))) ag)) (aQ pV (ae (cT 1 (ba 0) (fE (ab 2)) L (e2 ay (ab 0) (Q3 0))) ag))))))))
def iB:Fn:=fn 1 4
  (aq (aB 1 (eM gK (ab 0) (ae (eC (.str [32])) ag)))
  (aq (aB 2 (Kx (e2 oEq (e2 ay (ab 1) (Q3 2)) (eC (.str [45]))) (eC .non) (eN jm (ae (e2 ay (ab 1) (Q3 2)) ag))))
  (aq (aB 3 (eN iq (ae (cT 1 (ba 0) (fE (HM (ab 1) (Z (Q3 3)) L)) L (mG (ae (e2 ay (ab 0) (Q3 0)) (ae (eN jm (ae (HM (ab 0) (Z (Q3 2)) L) ag)) ag)))) ag)))
  (cX (mG (ae (eN jm (ae (e2 ay (ab 1) (Q3 0)) ag)) (ae (eN jm (ae (e2 ay (ab 1) (Q3 1)) ag)) (ae (ab 2) (ae (ab 3) ag)))))))))
def iF:Sx :=
  (aq (GH (JS (e2 L1 (ab 2) (Q3 300)) (jF (aQ dN (ae (ab 3) ag)))) LY dH)
  (sX (kR 1 [] aC (ae (aQ iB (ae (ab 3) ag)) ag))))
def dX:Fn:=fn 1 4
  (aq (GH (jF (Hy .str (ab 0))) LY dH)
  (aq (lP 1 (cQ ag))
  (aq (ji (jM [(ba 2),(ba 3)]) (By (eM gK (ab 0) (ae (eC (.str [10])) ag))) iF)
  (iE 1))))
def aE:Fn:=fn 2 2
  (aq (GH (e2 oLt (ab 1) (eN cP (ae (ab 0) ag))) (cX (e2 ay (ab 0) (ab 1))) dH)
  (cX (Q3 0)))
def b6:Fn:=fn 2 3
  (aq (aB 2 (e2 oMod (e2 bO (e2 bO (e2 oMod (ab 0) (Q3 2147483629)) (e2 kL (Q3 48271) (ab 1))) (Q3 11)) (Q3 2147483629)))
  (aq (aB 2 (e2 bO (e2 oMod (e2 kL (ab 2) (ab 2)) (Q3 2147483629)) (e2 kL (Q3 7919) (ab 1))))
  (cX (e2 oMod (e2 kL (ab 2) (ab 2)) (Q3 2147483587)))))
def eY:Sx :=
  (GH (e2 oEq (e2 oMod (aQ aE (ae (ab 0) (ae (Q3 0) ag))) (Q3 2)) (Q3 0)) (aq (sX (kR 6 [] aC (ae (e2 ay (ab 1) (e2 oMod (ab 4) (eN cP (ae (ab 1) ag)))) ag)))
  (aB 4 (e2 bC (ab 4) (eN cP (ae (ab 1) ag))))) (sX (kR 6 [] aC (ae (e2 ay (ab 1) (e2 oMod (e2 bC (aQ b6 (ae (ab 4) (ae (e2 bO (e2 kL (Q3 30) (ab 3)) (ab 7)) ag))) (Q3 7)) (eN cP (ae (ab 1) ag)))) ag))))
def dC:Fn:=fn 4 8
  (aq (aB 4 (aQ aE (ae (ab 0) (ae (e2 bO (Q3 1) (ab 3)) ag))))
  (aq (aB 5 (e2 oMod (ab 4) (e2 bO (ab 2) (Q3 1))))
  (aq (aB 4 (e2 bC (ab 4) (e2 bO (ab 2) (Q3 1))))
  (aq (lP 6 (cQ ag))
  (aq (ji (ba 7) (dw (ab 5)) eY)
  (aq (sE 6)
  (cX (eM iX (eC (.str [])) (ae (ab 6) ag)))))))))
def fP:Fn:=fn 1 5
  (aq (aB 1 (aQ aE (ae (ab 0) (ae (Q3 0) ag))))
  (aq (aB 2 (e2 ay (cQ (ae (eC (.str [97,98])) (ae (eC (.str [97,98,99])) (ae (eC (.str [97,98,99,100])) (ae (eC (.str [97,122])) (ae (eC (.str [97])) (ae (eC (.str [97,98,99,100,101,102,103,104,105,106,107,108,109,110,111,112,113,114,115,116,117,118,119,120,121,122])) ag))))))) (e2 oMod (e2 bC (ab 1) (Q3 2)) (Q3 6))))
  (aq (aB 3 (e2 ay (cQ (ae (Q3 1) (ae (Q3 2) (ae (Q3 3) (ae (Q3 4) (ae (Q3 2) (ae (Q3 1) (ae (Q3 0) (ae (Q3 8) ag))))))))) (e2 oMod (e2 bC (ab 1) (Q3 12)) (Q3 8))))
  (aq (aB 4 (e2 ay (cQ (ae (Q3 24) (ae (Q3 12) (ae (Q3 8) (ae (Q3 6) ag))))) (e2 qh (eN rW (ae (ab 3) (ae (Q3 4) ag))) (Q3 1))))
  (aq (GH (e2 oEq (e2 oMod (e2 bC (ab 1) (Q3 96)) (Q3 8)) (Q3 5)) (aB 4 (e2 bC (Q3 60) (eN qq (ae (Q3 1) (ae (ab 3) ag))))) dH)
  (aq (GH (fH (e2 oEq (ab 3) (Q3 8)) (e2 IQ (e2 oMod (e2 bC (ab 1) (Q3 96)) (Q3 8)) (Q3 5))) (aB 4 (Q3 3)) dH)
  (cX (cT 1 (ba 0) (dw (ab 3)) L (aQ dC (ae (ab 1) (ae (ab 3) (ae (ab 5) (ae (ab 0) ag)))))))))))))
def gR:Sx :=
  (aq (aB 8 (aQ b6 (ae (ab 4) (ae (ab 7) ag))))
  (GH (e2 oEq (e2 oMod (ab 8) (e2 ay (cQ (ae (Q3 2) (ae (Q3 5) (ae (Q3 30) ag)))) (e2 oMod (e2 bC (ab 4) (Q3 6)) (Q3 3)))) (Q3 0)) (sX (kR 6 [] aC (ae (mG (ae (e2 ay (eC (.str [97,98,99,100,101,102,103,104,105,106,107,108,109,110,111,112,113,114,115,116,117,118,119,120,121,122])) (ab 7)) (ae (e2 oMod (e2 bC (ab 8) (Q3 7)) (e2 ay (cQ (ae (Q3 9) (ae (Q3 1000) (ae (e2 vz (Q3 10) (Q3 9)) ag)))) (e2 oMod (e2 bC (ab 4) (Q3 18)) (Q3 3)))) ag))) ag))) dH))
def eW:Sx :=
  (aq (aB 4 (aQ b6 (ae (aQ aE (ae (ab 0) (ae (e2 bO (Q3 21) (ab 1)) ag))) (ae (e2 bO (e2 kL (Q3 9) (ab 1)) (ab 3)) ag))))
  (aq (aB 5 (e2 ay (cQ (ae (eC .non) (ae (e2 oMod (e2 bC (ab 4) (Q3 3)) (Q3 400)) ag))) (e2 oMod (ab 4) (Q3 2))))
  (aq (lP 6 (cQ ag))
  (aq (ji (ba 7) (dw (Q3 26)) gR)
  (aq (sE 6)
  (sX (kR 2 [] aC (ae (mG (ae (e2 oMod (e2 bC (ab 4) (Q3 40)) (e2 ay (cQ (ae (Q3 5) (ae (e2 vz (Q3 10) (Q3 9)) ag))) (e2 oMod (ab 4) (Q3 2)))) (ae (e2 oMod (e2 bC (ab 4) (Q3 11)) (Q3 300)) (ae (ab 5) (ae (eN iq (ae (ab 6) ag)) ag))))) ag))))))))
def fN:Fn:=fn 2 9
  (aq (lP 2 (cQ ag))
  (aq (ji (ba 3) (dw (e2 bO (Q3 1) (e2 oMod (aQ aE (ae (ab 0) (ae (e2 bO (Q3 20) (ab 1)) ag))) (Q3 9)))) eW)
  (iE 2)))
def kE:Sx :=
  (aB 6 (e2 bO (e2 bO (e2 bO (e2 bO (ab 6) (eC (.str [32]))) (ab 7)) (eC (.str [58]))) (eN g6 (ae (ab 8) ag))))
def fC:Sx :=
  (aq (aB 6 (e2 bO (e2 bO (e2 bO (eN g6 (ae (ab 2) ag)) (eC (.str [32]))) (eN g6 (ae (ab 3) ag))) (eC (.str [32]))))
  (aq (GH (vm (ab 4)) (aB 6 (e2 bO (ab 6) (eC (.str [45])))) (aB 6 (e2 bO (ab 6) (eN g6 (ae (ab 4) ag)))))
  (aq (ji (jM [(ba 7),(ba 8)]) (fE (ab 5)) kE)
  (sX (kR 1 [] aC (ae (ab 6) ag))))))
def jc:Fn:=fn 1 9
  (aq (lP 1 (cQ ag))
  (aq (ji (jM [(ba 2),(ba 3),(ba 4),(ba 5)]) (fE (ab 0)) fC)
  (aq (sE 1)
  (cX (eM iX (eC (.str [10])) (ae (ab 1) ag))))))
def br(g:Fn):Fn:=fn 2 2
  (aq (GH (Bx (ab 1)) (aq (GH (JS (e2 IQ (Hy .list (ab 0)) (Hy .list (ab 1))) (e2 IQ (Hy .tuple (ab 0)) (Hy .tuple (ab 1)))) (cX (eC (.bl O))) dH)
  (cX (fH (e2 oEq (eN cP (ae (ab 0) ag)) (eN cP (ae (ab 1) ag))) (eN n8 (ae (cT 1 (ba 0) (dw (eN cP (ae (ab 1) ag))) L (aQ g (ae (e2 ay (ab 1) (ab 0)) (ae (e2 ay (ab 2) (ab 0)) ag)))) ag))))) dH)
  (cX (fH (e2 oEq (ab 0) (ab 1)) (fH (jF (Hy .bool (ab 0))) (e2 oEq (Hy .int (ab 0)) (Hy .int (ab 1)))))))
def ff:Fn:=(br (br (br (br (br (λ_=>L))))))
def nc:Sx :=
  (aq (aB 2 (eN lj (ae (ab 1) ag)))
  (aq (aB 3 (aQ fF (ae (ab 2) ag)))
  (aq (GH (JS (jF (Hy .str (ab 3))) (JS (e2 IQ (ab 3) (aQ jc (ae (ab 1) ag))) (e2 IQ (ab 2) (ab 1)))) (cX (eC (.bl O))) dH)
  (aq (lP 4 (aQ dX (ae (ab 3) ag)))
  (aq (GH (jF (aQ ff (ae (ab 4) (ae (ab 1) ag)))) (cX (eC (.bl O))) dH)
  (aq (Dm 4)
  (aq (sE 4)
  (GH (jF (aQ ff (ae (aQ dX (ae (ab 3) ag)) (ae (ab 1) ag)))) (cX (eC (.bl O))) dH))))))))
def xG:Fn:=fn 1 5
  (aq (ji (ba 1) (fE (cQ (ae (fA 1 bY (eNew 1 aR (ae (aQ fP (ae (ab 0) ag)) ag)) ag) (ae (aQ fN (ae (ab 0) (ae (Q3 0) ag))) (ae (aQ fN (ae (ab 0) (ae (Q3 2) ag))) ag))))) nc)
  (cX (eC (.bl B))))
end T51
end
section
namespace VS
def e2v{f:Val->Val->Vx}{a b:Ex}{U:Env}{x y:Val}(g:a U=Z x)(e:b U=Z y)(d:f x y=Z z):e2 f a b U=Z z:=by
 show (a U).bind _=_;rw[g,Zs,e];exact d
def xv{r:Gf}{U:Env}{x:Val}{b:Vy}(e:a U=Z x)(d:r U=Z b):ae a r U=Z (x :: b):=by
 show (a U).bind _=_;rw[e,Zs,d];rfl
def yp{m:Md}(h:c U=Z (m,.bl B)):GH c a b U=a U:=by
 show (c U).bind _=_;rw[h];rfl
def vo{m:Md}(h:c U=Z (m,.bl O)):GH c a b U=b U:=by
 show (c U).bind _=_;rw[h];rfl
def fJ{U:Env}{v:Val}(h:a U=Z b)(d:f b=Z v):eN f a U=Z v:=by
 show (a U).bind f=_;rw[h,Zs,d]
def bQ{e:Ex}{U:Env}{t:T}(h:e U=Z (.fr,t)):cX e U=Z (.rt (.fr,t) U):=by
 show (e U).bind _=_;rw[h];rfl
def kH(h:a U=Z (.rt v d)):aq a b U=Z (.rt v d):=by
 show (a U).bind _=_;rw[h];rfl
def bD{a b:Sx}{U U1:Env}(h:a U=Z (.nx U1)):aq a b U=b U1:=by
 show (a U).bind _=_;rw[h];rfl
def sq{a b:Sx}{U U1:Env}{r:Option Out}(h:a U=Z (.nx U1))(q:b U1=r):aq a b U=r:=(bD h).trans q
def Ks{m:Md}{r:Option Out}(h:c U=Z (m,.bl B))(q:a U=r):GH c a b U=r:=(yp h).trans q
def iH{c:Ex}{a b:Sx}{m:Md}{r:Option Out}(h:c U=Z (m,.bl O))(q:b U=r):GH c a b U=r:=(vo h).trans q
def cA{b:Sx}{a:Vw}{v:Val}{U:Env}(f:a.length=d)(h:b (a.map (λt=>Z (.pu t))++List.replicate (e-d) L)=Z (.rt v U)):fn d e b a=Z v:=by
 unfold fn;rw[Zp f,h];rfl
def DG{a:Vw}{U:Env}(f:a.length=d)(h:b (a.map (λt=>Z (.pu t))++List.replicate (e-d) L)=Z (.nx U)):fn d e b a=Z (.fr,.non):=by
 unfold fn;rw[Zp f,h];rfl
def pQ{m:Md}{x:Bool}{v:Val}(f:a U=Z (m,.bl x))(e:x=B->b U=Z v)(d:x=O->v=(.fr,.bl O)):fH a b U=Z v:=by
 show (a U).bind _=_;rw[f,Zs];cases x with
 |true=>exact e Y
 |false=>exact congrArg Z (d Y).symm
def wO{m:Md}{x:Bool}{v:Val}(f:a U=Z (m,.bl x))(e:x=O->b U=Z v)(d:x=B->v=(.fr,.bl B)):JS a b U=Z v:=by
 show (a U).bind _=_;rw[f,Zs];cases x with
 |false=>exact e Y
 |true=>exact congrArg Z (d Y).symm
def rX{b:Ex}{m n:Md}{x y:Bool}(f:a U=Z (m,.bl x))(d:b U=Z (.fr,.bl y)):fH a b U=Z (.fr,.bl (x&&y)):=pQ f (λe=>by rw[e];exact d) (λe=>by rw[e];rfl)
def MB{b:Ex}{m n:Md}{x y:Bool}(f:a U=Z (m,.bl x))(d:b U=Z (.fr,.bl y)):JS a b U=Z (.fr,.bl (x||y)):=wO f (λe=>by rw[e];exact d) (λe=>by rw[e];rfl)
def i4{m:Md}{b:Bool}(h:a U=Z (m,.bl b)):jF a U=Z (.fr,.bl (!b)):=by
 show (a U).bind _=_;rw[h];rfl
def qj{x y z:Val}(j:a U=Z x)(i:b U=Z y)(h:f x y=Z (.fr,.bl B))(e:c U=Z z)(d:g y z=Z v):gP f g a b c U=Z v:=by
 show (a U).bind _=_;rw[j,Zs,i,Zs,h,Zs];rw[e];exact d
def Bb{n:Nat}{i:Int}(b:0<=i)(a:i<n):G8 n i=Z i.toNat:=by rw[G8,Zp b,Zp a]
def sF(a:i<n):G8 n (i:Int)=Z i:=by
 rw[G8,Zp (Xo i),Zp (Wf.mpr a)];rfl
def AJ(l:W8)(i:Int)(b:0<=i)(a:i<l.length):ay (m,.scr l) (n,.int i)=Z (.fr,.int (l.getD i.toNat 0)):=by
 show (G8 l.length i).bind _=_;rw[Bb b a,Zs,Zr,Zq (by lia)];rfl
def qg{m:Md}(t:Tx)(i:Int)(b:0<=i)(a:i<t.length):ay (m,.str t) (n,.int i)=Z (.fr,.str [t.getD i.toNat 0]):=by
 show (G8 t.length i).bind _=_;rw[Bb b a,Zs,Zr,Zq (by lia)];rfl
def gx{m n:Md}{b:T}{r:Bool}(e:GD 60 a=B)(d:GD 60 b=B)(h:eqT a b=r):oEq (m,a) (n,b)=Z (.fr,.bl r):=by
 show (if GD 60 a/\GD 60 b then Z (Md.fr,T.bl (eqT a b)) else L)=_;rw[Zp ⟨e,d⟩,h]
def uE{m:Md}{b:T}{r:Bool}(e:GD 60 a=B)(d:GD 60 b=B)(h:eqT a b=r):IQ (m,a) (n,b)=Z (.fr,.bl (!r)):=by
 show (if GD 60 a/\GD 60 b then Z (Md.fr,T.bl (!eqT a b)) else L)=_;rw[Zp ⟨e,d⟩,h]
def lA{i:Nat}{U:Env}{l:Vw}{v:T}(d:U[i]?=Z (Z (.ow (.lst l))))(b:e U=Z (.fr,v))(a:l.length<16777216):sX (kR i [] aC (ae e ag)) U=Z (.nx (U.set i (Z (.ow (.lst (l++[v])))))):=by
 unfold sX kR;rw[d];show ((Z ([])).bind _ |>.map _)=_;rw[Zs,(xv b Y),Zs];show ((aC (.lst l) [(.fr,v)]).map _ |>.map _)=_;rw[eI a];rfl
def iC{m n:Md}{y:Tx}(e:a U=Z (m,.str x))(d:b U=Z (n,.str y))(h:x.length+y.length<=16777216):e2 bO a b U=Z (.fr,.str (x++y)):=e2v e d (rJ h)
def Dq(l:List Tx)(h:a U=Z (l.map λx=>(Md.fr,T.str x)))(b:l.length<=16777216):cQ a U=Z (.fr,.lst (l.map .str)):=by
 unfold cQ;rw[h,Zs];have e:trees (l.map λx=>(Md.fr,T.str x))=l.map T.str:=by unfold trees;rw[ZF];rfl
 rw[e,jt (by rw[Zy];exact b),hZ _ (λ_=>rfl) l];rfl
def CG{x y:List Tx}(e:a U=Z (m,.lst (x.map .str)))(d:b U=Z (n,.lst (y.map .str)))(h:x.length+y.length<=16777216):e2 bO a b U=Z (.fr,.lst ((x++y).map .str)):=by
 refine e2v e d ?_;rw[wq,← Z3,jt (by rw[Zy,Zt];exact h),hZ _ (λ_=>rfl) _];rfl
end VS
end
section
namespace T51
open VS AU
noncomputable abbrev pc(t:T):Vz:=Z (.pu t)
abbrev Q0(i:Int):Option Cell:=Z (.pu (.int i))
abbrev Q2(t:Tx):Option Cell:=Z (.pu (.str t))
noncomputable abbrev oc(t:T):Vz:=Z (.ow t)
noncomputable def Gc(w:List (Nat×Nat)):T:=.dct 0 (w.map λp=>(T.str [p.1],T.int (p.2:Int)))
noncomputable def DP:Option Nat->T
 |none=>.non
 |some n=>.int (n:Int)
def Il(S:St):qY:=[(1,.lst (S.lg.map λ(n:Nat)=>T.int (n:Int))),(2,.lst (S.lk.map DP)),(3,.lst (S.wy.map Gc))]
def pe(S:St)(b:Bool):T:=.obj 1 ((0,.bl b) :: Il S)
def gO(o:Option Nat):FW (DP o)=B:=by cases o<;>rfl
theorem eO{α:Type}(f:α->T)(h:∀a,gT (f a)=B):∀l:List α,dG (l.map f)=B
 |[]=>rfl
 |a :: l=>by rw[Zi,dG,h a,eO f h l];rfl
def yJ(w:List (Nat×Nat)):gT (Gc w)=B:=by
 show qQ (w.map λp=>(T.str [p.1],T.int (p.2:Int)))=B
 induction w with
 |nil=>rfl
 |cons p w a=>rw[Zi,qQ,a];rfl
def kj(S:St):fg (Il S)=B:=by
 have d:gT (.lst (S.lg.map λ(n:Nat)=>T.int (n:Int)))=B:=eO _ (λ_=>rfl) _;have b:gT (.lst (S.lk.map DP))=B:=eO _ (λo=>ng _ (gO o)) _;have a:gT (.lst (S.wy.map Gc))=B:=eO _ yJ _;show ((gT _ && !(1==0&&Ll _))&&((gT _ && !(2==0&&Ll _))&&((gT _ && !(3==0&&Ll _))&&B)))=B;rw[d,b,a];rfl
def D1(S:St)(b:Bool):pS 1 (pe S b)=Z (.lst (S.lg.map λ(n:Nat)=>T.int (n:Int))):=rfl
def Fl(S:St)(b:Bool):pS 2 (pe S b)=Z (.lst (S.lk.map DP)):=rfl
def Fm(S:St)(b:Bool):pS 3 (pe S b)=Z (.lst (S.wy.map Gc)):=rfl
def gI{m:Md}{t:T}(h:a U=Z (m,t))(b:pS k t=Z u):aU k a U=Z (sub m u):=by
 unfold aU;rw[h,Zs,b];rfl
def nO{α:Type}(f:α->T)(l:List α)(i:Nat)(d:α)(h:i<l.length):ay (m,.lst (l.map f)) (n,.int (i:Int))=Z (sub m (f (l.getD i d))):=by
 show (G8 (l.map f).length (i:Int)).bind _=_;rw[Zy,sF h,Zs,ZU,Zq h,Zr,Zq h];rfl
section
def qS{i:Nat}(h:a U=Z (m,pe S b))(he:e U=Z (n,.int (i:Int)))(d:i<S.lg.length):e2 ay (aU 1 a) e U=Z (.fr,.int ((S.lg.getD i 0:Nat):Int)):=e2v (gI h (D1 S b)) he (nO _ _ i 0 d)
def uM{i:Nat}(h:a U=Z (m,pe S b))(he:e U=Z (n,.int (i:Int)))(d:i<S.lk.length):e2 ay (aU 2 a) e U=Z (.fr,DP (S.lk.getD i L)):=(e2v (gI h (Fl S b)) he (nO _ _ i L d)).trans (by
 show Z (up _ _)=_;unfold up;rw[gO];rfl)
def nF{i:Nat}(h:a U=Z (m,pe S b))(he:e U=Z (n,.int (i:Int)))(d:i<S.wy.length):e2 ay (aU 3 a) e U=Z (m,Gc (S.wy.getD i [])):=e2v (gI h (Fm S b)) he (nO _ _ i [] d)
def Ce(h:a U=Z (m,pe S b)):eN cP (ae (aU 1 a) ag) U=Z (.fr,.int (S.lg.length:Nat)):=fJ (xv (gI h (D1 S b)) Y) (by
 show Z (Md.fr,T.int (((S.lg.map λ(n:Nat)=>T.int (n:Int)).length:Nat):Int))=_;rw[Zy])
end
def BM(a c:Nat):eqT (.str [a]) (.str [c])=(a==c):=by
 simp only[eqT];by_cases h:a=c
 ·simp[h]
 ·simp[h]
def oV(w:List (Nat×Nat))(c:Nat):ft (w.map λp=>(T.str [p.1],T.int (p.2:Int))) (.str [c])=(gW w c).map λ(n:Nat)=>T.int (n:Int):=by
 unfold ft gW;rw[List.find?_map];have:((λp:T×T=>eqT p.1 (.str [c])) ∘ λp:Nat×Nat=>(T.str [p.1],T.int (p.2:Int)))=λp:Nat×Nat=>p.1==c:=by
  funext p;exact BM p.1 c
 rw[this];cases w.find? λp=>p.1==c with
 |none=>rfl
 |some p=>rfl
def DR(w:List (Nat×Nat))(c m:Nat):dput (w.map λp=>(T.str [p.1],T.int (p.2:Int))) (.str [c]) (.int (m:Int))=(pW w c m).map λp=>(T.str [p.1],T.int (p.2:Int)):=by
 have a:(w.map λp=>(T.str [p.1],T.int (p.2:Int))).any (λp=>eqT p.1 (.str [c]))=w.any λp=>p.1==c:=by
  rw[List.any_map];congr 1;funext p;exact BM p.1 c
 unfold dput pW;rw[a];split
 ·rw[ZF,ZF];apply XR;intro p _;simp only[Function.comp,BM];split<;>rfl
 ·rw[Z3];rfl
section
def Fz(h:a U=Z (m,Gc w))(he:e U=Z (n,.str [c])):e2 mE e a U=Z (.fr,.bl (gW w c).isSome):=e2v he h (by
 show (if B=B then Z (Md.fr,T.bl (ft _ _).isSome) else L)=_;rw[Zp Y,oV,YJ])
def D0(h:a U=Z (m,Gc w))(he:e U=Z (n,.str [c])):e2 dy e a U=Z (.fr,.bl (!(gW w c).isSome)):=e2v he h (by
 show (match (if B=B then Z (Md.fr,T.bl (ft (w.map λp=>(T.str [p.1],T.int (p.2:Int))) (.str [c])).isSome) else L) with | some (_,.bl b)=>some (Md.fr,T.bl (!b)) | _=>none)=_;rw[Zp Y,oV,YJ])
def vI(h:a U=Z (m,Gc w))(he:e U=Z (n,.str [c]))(d:gW w c=Z v):e2 HI a e U=Z (.fr,.int (v:Int)):=e2v h he (by
 show (if B=B then (ft _ _).map (sub m) else L)=_;rw[Zp Y,oV,d];rfl)
def DU(h:a U=Z (m,Gc w))(he:e U=Z (n,.str [c])):e2 uR a e U=Z (.fr,DP (gW w c)):=e2v h he (by
 show (if B=B then Z (match ft (w.map λp=>(T.str [p.1],T.int (p.2:Int))) (.str [c]) with | some t=>sub m t | none=>(.fr,.non)) else none)=_;rw[Zp Y,oV];cases gW w c with
 |none=>rfl
 |some v=>rfl)
def yI{S:St}{v:Nat}(d:i<S.wy.length)(he:e (oc (pe S b) :: r)=Z (n,.int (i:Int)))(l:ec (oc (pe S b) :: r)=Z (m,.str [c]))(g:ev (oc (pe S b) :: r)=Z (k,.int (v:Int)))(f:(S.wy.getD i []).length<16777216) :
  fL 0 [.fld 3,.ix e] ec ev (oc (pe S b) :: r)=Z (.nx (oc (pe ⟨S.lg,S.lk,S.wy.set i (pW (S.wy.getD i []) c v)⟩ b) :: r)):=by
 unfold fL;rw[g,Zs];show ((keys [.fld 3,.ix e] (oc (pe S b) :: r)).bind _)=_;have j:keys [.fld 3,.ix e] (oc (pe S b) :: r)=Z [.fld 3,.at (.int (i:Int))]:=by
  show ((e _).bind _).map _=_;rw[he];rfl
 rw[j,Zs,l,Zs];have h:pm (jA (m,.str [c]) (k,.int (v:Int))) [.fld 3,.at (.int (i:Int))] (pe S b)=Z (pe ⟨S.lg,S.lk,S.wy.set i (pW (S.wy.getD i []) c v)⟩ b,()):=by
  show ((pm (jA (m,.str [c]) (k,.int (v:Int))) [.at (.int (i:Int))] (.lst (S.wy.map Gc))).map _)=_;have:pm (jA (m,.str [c]) (k,.int (v:Int))) [.at (.int (i:Int))] (.lst (S.wy.map Gc))=Z (.lst ((S.wy.set i (pW (S.wy.getD i []) c v)).map Gc),()):=by
   show ((G8 (S.wy.map Gc).length (i:Int)).bind _)=_;rw[Zy,sF d,Zs,ZU,Zq d];show ((jA (m,.str [c]) (k,.int (v:Int)) (Gc S.wy[i])).map _)=_;have e1:S.wy.getD i []=S.wy[i]:=by rw[Zr,Zq d];rfl
   rw[e1]at f ⊢;show ((if B=B/\B=B/\(S.wy[i].map _).length<dq then Z (T.dct 0 (dput _ _ _),()) else L).map _)=_;rw[Zp ⟨rfl,rfl,by rw[Zy];exact f⟩,DR,Wi];rfl
  rw[this];rfl
 rw[h];rfl
def xr{S:St}{v:Nat}{r:List (Vz)}(h:i<S.lk.length)(he:e (oc (pe S b) :: r)=Z (n,.int (i:Int)))(d:ev (oc (pe S b) :: r)=Z (.fr,.int (v:Int))) :
  fL 0 [.fld 2] e ev (oc (pe S b) :: r)=Z (.nx (oc (pe ⟨S.lg,S.lk.set i (Z v),S.wy⟩ b) :: r)):=by
 unfold fL;rw[d,Zs];show ((keys [.fld 2] (oc (pe S b) :: r)).bind _)=_;have g:keys [.fld 2] (oc (pe S b) :: r)=Z [.fld 2]:=rfl;rw[g,Zs,he,Zs];have f:pm (jA (n,.int (i:Int)) (.fr,.int (v:Int))) [.fld 2] (pe S b)=Z (pe ⟨S.lg,S.lk.set i (Z v),S.wy⟩ b,()):=by
  show ((jA (n,.int (i:Int)) (.fr,.int (v:Int)) (.lst (S.lk.map DP))).map _)=_;have:jA (n,.int (i:Int)) (.fr,.int (v:Int)) (.lst (S.lk.map DP))=Z (.lst ((S.lk.set i (Z v)).map DP),()):=by
   show ((G8 (S.lk.map DP).length (i:Int)).map _)=_;rw[Zy,sF h,Wi];rfl
  rw[this];rfl
 rw[f];rfl
end
def pM{c:Ex}{n:Nat}{m:Md}(e:c U=Z (m,.bl B))(d:a U=Z (.nx b)):fu c a (n+1) U=fu c a n b:=by
 show (c U).bind _=_;rw[e];show (if B=B then (a U).bind _ else Z (.nx U))=_;rw[Zp Y,d];rfl
def gz{m:Md}(b:c U=Z (m,.bl O)):fu c a (n+1) U=Z (.nx U):=by
 show (c U).bind _=_;rw[b];rfl
def i5{mv:List Bool}{as:Gf}{xs:Vy}{S:St}{v:T}{b:Bool}{r:List (Vz)}(h:as (oc (pe S b) :: r)=Z xs)(i:argsOk mv xs=B)(j:dG (trees xs)=B)(f:g (Il S) (trees xs)=Z (Il a,v))(e:FW v=B) :
  bB 0 [] 0 mv g as (oc (pe S b) :: r)=Z ((.fr,v),oc (pe a b) :: r):=by
 show ((Z ([]:List Ky)).bind λd=>(as (oc (pe S b) :: r)).bind λxs=>(pm (lG 0 mv g xs) d (pe S b)).map λz=>(z.2,(oc (pe S b) :: r).set 0 (oc z.1)))=_;rw[Zs,h,Zs];show ((if 1=0+1/\fg (Il S)=B/\argsOk mv xs=B/\dG (trees xs)=B then (g (Il S) (trees xs)).bind λz=>if fg z.1=B/\FW z.2=B then Z (T.obj 1 ((0,.bl b) :: z.1),(Md.fr,z.2)) else L else L).map _)=_;rw[Zp ⟨rfl,kj S,i,j⟩,f,Zs,Zp ⟨kj a,e⟩];rfl
def DB{e:Ex}{S:St}{b:Bool}{r:List (Vz)}{v:Nat}(h:e (oc (pe S b) :: r)=Z (.fr,.int (v:Int)))(f:S.lg.length<16777216):sX (iD 0 [.fld 1] aC (ae e ag)) (oc (pe S b) :: r)=Z (.nx (oc (pe ⟨S.lg++[v],S.lk,S.wy⟩ b) :: r)):=by
 show (((Z [Ky.fld 1]).bind λd=>(ae e ag (oc (pe S b) :: r)).bind λa=>(pm (λx=>aC x a) d (pe S b)).map _).map _)=_;rw[Zs,xv (r:=ag) h Y,Zs];show (((aC (.lst (S.lg.map λ(n:Nat)=>T.int (n:Int))) [(.fr,.int (v:Int))]).map _).map _ |>.map _)=_;rw[eI (by rw[Zy];exact f),show (S.lg.map λ(n:Nat)=>T.int (n:Int))++[.int (v:Int)]=(S.lg++[v]).map λ(n:Nat)=>T.int (n:Int) from by rw[Z3];rfl];rfl
def C2{e:Ex}{S:St}{b:Bool}{r:List (Vz)}{v:Option Nat}(h:e (oc (pe S b) :: r)=Z (.fr,DP v))(f:S.lk.length<16777216):sX (iD 0 [.fld 2] aC (ae e ag)) (oc (pe S b) :: r)=Z (.nx (oc (pe ⟨S.lg,S.lk++[v],S.wy⟩ b) :: r)):=by
 show (((Z [Ky.fld 2]).bind λd=>(ae e ag (oc (pe S b) :: r)).bind λa=>(pm (λx=>aC x a) d (pe S b)).map _).map _)=_;rw[Zs,xv (r:=ag) h Y,Zs];show (((aC (.lst (S.lk.map DP)) [(.fr,DP v)]).map _).map _ |>.map _)=_;rw[eI (by rw[Zy];exact f),show (S.lk.map DP)++[DP v]=(S.lk++[v]).map DP from by rw[Z3];rfl];rfl
def Dd(o:Option Nat):up .pu (DP o)=(.fr,DP o):=by
 unfold up;rw[gO];rfl
def vK(S:St)(l:Nat)(o:Option Nat)(w:List (Nat×Nat))(f:S.lg.length<16777216)(d:S.lk.length<16777216)(a:S.wy.length<16777216):aF (Il S) [.int (l:Int),DP o,Gc w]=Z (Il ⟨S.lg++[l],S.lk++[o],S.wy++[w]⟩,.int (S.lg.length:Int)):=by
 have j:=DB (S:=S) (b:=B) (r:=[Q0 (l:Int),pc (DP o),oc (Gc w)]) (e:=ab 1) (v:=l) Y f;have i:=C2 (S:=⟨S.lg++[l],S.lk,S.wy⟩) (b:=B) (r:=[Q0 (l:Int),pc (DP o),oc (Gc w)]) (e:=ab 2) (v:=o) (congrArg Z (Dd o)) d;have h:nL 0 [.fld 3] 3 [oc (pe ⟨S.lg++[l],S.lk++[o],S.wy⟩ B),Q0 (l:Int),pc (DP o),oc (Gc w)]=Z (.nx [oc (pe ⟨S.lg++[l],S.lk++[o],S.wy++[w]⟩ B),Q0 (l:Int),pc (DP o),L]):=by
  show ((aC (.lst (S.wy.map Gc)) [(.fr,Gc w)]).map _ |>.map _)=_;rw[eI (by rw[Zy];exact a),show (S.wy.map Gc)++[Gc w]=(S.wy++[w]).map Gc from by rw[Z3];rfl];rfl
 have g:=bQ (e:=e2 qh (eN cP (ae (aU 1 (ab 0)) ag)) (Q3 1)) (U:=[oc (pe ⟨S.lg++[l],S.lk++[o],S.wy++[w]⟩ B),Q0 (l:Int),pc (DP o),L]) (t:=.int (S.lg.length:Int)) (e2v (Ce (m:=.bo) Y) Y (by
  show Z (Md.fr,T.int ((((S.lg++[l]).length:Nat):Int)-1))=_;rw[Zt,Za,show (((S.lg.length+1:Nat)):Int)-1=(S.lg.length:Int) by omega]))
 unfold aF Hl;rw[Zp ⟨rfl,rfl⟩];have body:=sq (b:=aq (sX (iD 0 [.fld 2] aC (ae (ab 2) ag))) (aq (nL 0 [.fld 3] 3) (cX (e2 qh (eN cP (ae (aU 1 (ab 0)) ag)) (Q3 1))))) j (sq i (sq h g));exact congrArg (λz:Option Out=>z.bind _) body
def B0(D:97<=c/\c<=122):∀(k:Nat)(S b:St)(o:Option Nat),WF S->v<S.lg.length->(∀n,o=Z n->n<S.lg.length)->KH c a v k S o=Z b->WF b/\b.lg=S.lg/\∃f,∀N,k<N->∀z:Vz,
  fu (fH (ie (ab 1)) (e2 oEq (e2 uR (e2 ay (aU 3 (ab 0)) (ab 1)) (ab 2)) (ab 3))) bK N [oc (pe S B),pc (DP o),Q2 ([c]),Q0 (a:Int),z,Q0 (v:Int)] =
   Z (.nx [oc (pe b B),pc (DP f),Q2 ([c]),Q0 (a:Int),z,Q0 (v:Int)]):=by
 intro k
 induction k with
 |zero =>
  intro S b o W g l e;cases o with
  |none =>
   cases (show Z S=Z b from e);refine⟨W,rfl,L,λN hN z=>?_⟩;obtain⟨N,rfl⟩:∃d,N=d+1:=⟨N-1,by omega⟩
   exact gz (m:=.fr) Y
  |some n=>cases e
 |succ k A =>
  intro S b o W g l e;cases o with
  |none =>
   cases (show Z S=Z b from e);refine⟨W,rfl,L,λN hN z=>?_⟩;obtain⟨N,rfl⟩:∃d,N=d+1:=⟨N-1,by omega⟩
   exact gz (m:=.fr) Y
  |some n =>
   have p:=l n Y;have r:n<S.wy.length:=by rw[W.wy];exact p
   have cond:∀z:Vz,fH (ie (ab 1)) (e2 oEq (e2 uR (e2 ay (aU 3 (ab 0)) (ab 1)) (ab 2)) (ab 3)) [oc (pe S B),Q0 (n:Int),Q2 ([c]),Q0 (a:Int),z,Q0 (v:Int)]=Z (.fr,.bl (decide (gW (S.wy.getD n []) c=Z a))):=λz=>by
    refine pQ (m:=.fr) (x:=B) Y (λ_=>?_) (λh=>by cases h);refine e2v (DU (m:=.bo) (nF (m:=.bo) (n:=.fr) Y Y r) (n:=.fr) Y) (y:=(.fr,.int (a:Int))) Y ?_;cases hg:gW (S.wy.getD n []) c with
    |none=>rw[ZK (by simp)];exact gx Y Y Y
    |some q =>
     refine(gx Y Y (show eqT (.int (q:Int)) (.int (a:Int))=decide (Z q=Z a) from ?_));simp only[eqT];by_cases h:q=a
     ·subst h;simp
     ·have F:¬(q:Int)=(a:Int):=by omega
      have E:¬Z q=Z a:=λz=>h (Zh z);rw[ZK E];exact ZO.mpr F
   unfold KH at e;split at e
   ·rename_i j;have G:=W.way (n:=n) (c:=c) (v:=v) g D;obtain⟨w,u,f,s⟩:=A _ b (S.lk.getD n L) G g (λm C=>W.up n m C) e;refine⟨w,u,f,λN hN z=>?_⟩;obtain⟨N,rfl⟩:∃d,N=d+1:=⟨N-1,by omega⟩
    refine(pM (m:=.fr) ((cond z).trans (by rw[decide_eq_true j])) ?_).trans (s N (by omega) z);unfold bK;refine sq (yI (S:=S) (i:=n) (n:=.fr) (m:=.fr) (k:=.fr) (c:=c) (v:=v) r Y Y Y (W.small n)) ?_;have H:n<S.lk.length:=by rw[W.lk];exact p
    exact ax (m:=.fr) (t:=DP (S.lk.getD n L)) (uM (S:=⟨S.lg,S.lk,S.wy.set n (pW (S.wy.getD n []) c v)⟩) (m:=.bo) (n:=.fr) Y Y H) (by decide) (by decide:1<6)
   ·rename_i j;cases e;refine⟨W,rfl,Z n,λN hN z=>?_⟩;obtain⟨N,rfl⟩:∃d,N=d+1:=⟨N-1,by omega⟩
    exact gz (m:=.fr) ((cond z).trans (by rw[ZK j]))
def CN(A:97<=c/\c<=122):∀(k:Nat)(S a:St)(o b:Option Nat),WF S->v<S.lg.length->(∀n,o=Z n->n<S.lg.length)->up1 c v k S o=Z (a,b)->WF a/\a.lg=S.lg/\(∀n,b=Z n->n<S.lg.length)/\∀N,k<N->∀z:Vz,
  fu (fH (ie (ab 4)) (e2 dy (ab 2) (e2 ay (aU 3 (ab 0)) (ab 4)))) bJ N [oc (pe S B),z,Q2 ([c]),Q0 (v:Int),pc (DP o)] =
   Z (.nx [oc (pe a B),z,Q2 ([c]),Q0 (v:Int),pc (DP b)]):=by
 intro k
 induction k with
 |zero =>
  intro S a o b W f j e;cases o with
  |none =>
   cases (show Z (S,L)=Z (a,b) from e);refine⟨W,rfl,(λn h=>nomatch h),λN hN z=>?_⟩;obtain⟨N,rfl⟩:∃d,N=d+1:=⟨N-1,by omega⟩
   exact gz (m:=.fr) Y
  |some n=>cases e
 |succ k w =>
  intro S a o b W f j e;cases o with
  |none =>
   cases (show Z (S,L)=Z (a,b) from e);refine⟨W,rfl,(λn h=>nomatch h),λN hN z=>?_⟩;obtain⟨N,rfl⟩:∃d,N=d+1:=⟨N-1,by omega⟩
   exact gz (m:=.fr) Y
  |some n =>
   have l:=j n Y;have p:n<S.wy.length:=by rw[W.wy];exact l
   have cond:∀z:Vz,fH (ie (ab 4)) (e2 dy (ab 2) (e2 ay (aU 3 (ab 0)) (ab 4))) [oc (pe S B),z,Q2 ([c]),Q0 (v:Int),Q0 (n:Int)]=Z (.fr,.bl (!(gW (S.wy.getD n []) c).isSome)):=λz =>
    pQ (m:=.fr) (x:=B) Y (λ_=>D0 (m:=.bo) (n:=.fr) (nF (m:=.bo) (n:=.fr) Y Y p) Y) (λh=>by cases h)
   unfold up1 at e;split at e
   ·rename_i g;cases e;refine⟨W,rfl,j,λN hN z=>?_⟩;obtain⟨N,rfl⟩:∃d,N=d+1:=⟨N-1,by omega⟩
    exact gz (m:=.fr) ((cond z).trans (by rw[g];rfl))
   ·rename_i g;have C:=W.way (n:=n) (c:=c) (v:=v) f A;obtain⟨u,s,q,r⟩:=w _ a (S.lk.getD n L) b C f (λm y=>W.up n m y) e;refine⟨u,s,q,λN hN z=>?_⟩;obtain⟨N,rfl⟩:∃d,N=d+1:=⟨N-1,by omega⟩
    have E:(gW (S.wy.getD n []) c).isSome=O:=by simpa using g
    refine(pM (m:=.fr) ((cond z).trans (by rw[E];rfl)) ?_).trans (r N (by omega) z);unfold bJ;refine sq (yI (S:=S) (i:=n) (n:=.fr) (m:=.fr) (k:=.fr) (c:=c) (v:=v) p Y Y Y (W.small n)) ?_;have D:n<S.lk.length:=by rw[W.lk];exact l
    exact ax (m:=.fr) (t:=DP (S.lk.getD n L)) (uM (S:=⟨S.lg,S.lk,S.wy.set n (pW (S.wy.getD n []) c v)⟩) (m:=.bo) (n:=.fr) Y Y D) (by decide) (by decide:4<5)
def BZ(a b:Nat):oEq (m,.int (a:Int)) (n,.int (b:Int))=Z (.fr,.bl (decide (a=b))):=gx Y Y (by
 simp only[eqT];by_cases h:a=b
 ·subst h;simp
 ·rw[ZK h];exact ZO.mpr (by omega))
def vV{S:St}{n r:Nat}(W:WF S)(G:Sm S)(s:n<S.lg.length)(H:97<=c/\c<=122)(e:Ko S n c=Z (a,r)):WF a/\r<a.lg.length/\S.lg.length<=a.lg.length/\a.lg.length<=S.lg.length+1/\au (Il S) [.int (n:Int),.str [c]]=Z (Il a,.int (r:Int)):=by
 unfold Ko at e;obtain⟨old,q,e⟩:=Zz.mp e;have hold:=W.on n c old q;have R:n<S.wy.length:=by rw[W.wy];exact s
 have how:old<S.wy.length:=by rw[W.wy];exact hold
 have oe:old<S.lk.length:=by rw[W.lk];exact hold
 have Lq:S.lg.length<=100001:=G;unfold au Hl;rw[Zp ⟨rfl,rfl⟩];have j:=ax (i:=3) (m:=.fr) (e:=e2 HI (e2 ay (aU 3 (ab 0)) (ab 1)) (ab 2)) (U:=[oc (pe S B),Q0 (n:Int),Q2 ([c]),L,L,L]) (vI (m:=.bo) (n:=.fr) (nF (m:=.bo) (n:=.fr) Y Y R) Y q) (by decide) (by decide:3<6);have h:=ax (i:=4) (m:=.fr) (e:=e2 bO (e2 ay (aU 1 (ab 0)) (ab 1)) (Q3 1)) (U:=[oc (pe S B),Q0 (n:Int),Q2 ([c]),Q0 (old:Int),L,L]) (t:=.int ((S.lg.getD n 0+1:Nat):Int)) (e2v (qS (m:=.bo) (n:=.fr) Y Y s) Y Y) (by decide) (by decide:4<6);have cd:e2 oEq (e2 ay (aU 1 (ab 0)) (ab 3)) (ab 4) [oc (pe S B),Q0 (n:Int),Q2 ([c]),Q0 (old:Int),Q0 ((S.lg.getD n 0+1:Nat):Int),L]=Z (.fr,.bl (decide (S.lg.getD old 0=S.lg.getD n 0+1))):=e2v (qS (m:=.bo) (n:=.fr) Y Y hold) (y:=(.fr,.int ((S.lg.getD n 0+1:Nat):Int))) Y (BZ _ _);split at e
 ·rename_i g;obtain⟨rfl,rfl⟩:=XE (Zh e);rw[decide_eq_true g]at cd;refine⟨W,hold,Zm _,Xm _,?_⟩;have body:∀b:Sx,aq (aB 3 (e2 HI (e2 ay (aU 3 (ab 0)) (ab 1)) (ab 2))) (aq (aB 4 (e2 bO (e2 ay (aU 1 (ab 0)) (ab 1)) (Q3 1))) (aq (GH (e2 oEq (e2 ay (aU 1 (ab 0)) (ab 3)) (ab 4)) (iE 3) dH) b)) [oc (pe S B),Q0 (n:Int),Q2 ([c]),L,L,L]=Z (.rt (.fr,.int (old:Int)) [oc (pe S B),Q0 (n:Int),Q2 ([c]),Q0 (old:Int),Q0 ((S.lg.getD n 0+1:Nat):Int),L]):=λb =>
   sq j (sq h (kH (Ks cd Y)))
  exact congrArg (λz:Option Out=>z.bind _) (body _)
 ·rename_i g;rw[ZK g]at cd;obtain⟨u,Q,e3⟩:=Zu.mp e;obtain⟨rfl,rfl⟩:=XE e3;have wn:=W.Mr old;have P:=W.more (l:=S.lg.getD n 0+1) (o:=S.lk.getD old L) (w:=S.wy.getD old []) (λm f=>W.up old m f) (λd m f=>W.on old d m f) wn.1 wn.2;have hlen:(S.lg++[S.lg.getD n 0+1]).length=S.lg.length+1:=by rw[Zt];rfl
  have N:=P.link (n:=old) (v:=S.lg.length) (by show S.lg.length<(S.lg++[S.lg.getD n 0+1]).length;omega);obtain⟨C,A,X,x⟩:=B0 H 1000 _ u (Z n) N (by show S.lg.length<(S.lg++[S.lg.getD n 0+1]).length;omega) (λm f=>by cases f;show n<(S.lg++[S.lg.getD n 0+1]).length;omega) Q;have Sf:u.lg.length=S.lg.length+1:=by rw[A];exact hlen
  refine⟨C,by omega,by omega,by omega,?_⟩;have nw:=vK S (S.lg.getD n 0+1) (S.lk.getD old L) (S.wy.getD old []) (by omega) (by rw[W.lk];omega) (by rw[W.wy];omega);have args:ae (ab 4) (ae (e2 ay (aU 2 (ab 0)) (ab 3)) (ae (eN kP (ae (e2 ay (aU 3 (ab 0)) (ab 3)) ag)) ag)) [oc (pe S B),Q0 (n:Int),Q2 ([c]),Q0 (old:Int),Q0 ((S.lg.getD n 0+1:Nat):Int),L]=Z [(.fr,.int ((S.lg.getD n 0+1:Nat):Int)),(.fr,DP (S.lk.getD old L)),(.fr,Gc (S.wy.getD old []))] :=
   xv Y (xv (uM (m:=.bo) (n:=.fr) Y Y oe) (xv (fJ (xv (nF (m:=.bo) (n:=.fr) Y Y how) Y) (by
    show (if ij (((S.wy.getD old []).map λp=>(T.str [p.1],T.int (p.2:Int))).map (·.2))=B then Z (Md.fr,Gc (S.wy.getD old [])) else L)=_;rw[Zp (by rw[ZF];exact hZ _ (λ_=>rfl) _)])) Y))
  have M:argsOk [O,O,B] [(.fr,.int ((S.lg.getD n 0+1:Nat):Int)),(.fr,DP (S.lk.getD old L)),(.fr,Gc (S.wy.getD old []))]=B:=by
   show (B&&(FW (DP (S.lk.getD old L))&&B))=B;rw[gO];rfl
  have an:dG (trees [(Md.fr,T.int ((S.lg.getD n 0+1:Nat):Int)),(.fr,DP (S.lk.getD old L)),(.fr,Gc (S.wy.getD old []))])=B:=by
   show (B&&(gT (DP (S.lk.getD old L))&&(gT (Gc (S.wy.getD old []))&&B)))=B;rw[ng _ (gO _),yJ];rfl
  have J:=i5 (b:=B) args M an nw Y;have F:jq 5 (bB 0 [] 0 [O,O,B] aF (ae (ab 4) (ae (e2 ay (aU 2 (ab 0)) (ab 3)) (ae (eN kP (ae (e2 ay (aU 3 (ab 0)) (ab 3)) ag)) ag)))) [oc (pe S B),Q0 (n:Int),Q2 ([c]),Q0 (old:Int),Q0 ((S.lg.getD n 0+1:Nat):Int),L]=Z (.nx [oc (pe ⟨S.lg++[S.lg.getD n 0+1],S.lk++[S.lk.getD old L],S.wy++[S.wy.getD old []]⟩ B),Q0 (n:Int),Q2 ([c]),Q0 (old:Int),Q0 ((S.lg.getD n 0+1:Nat):Int),Q0 (S.lg.length:Int)]):=by
   unfold jq;rw[J];rfl
  have E:=xr (S:=⟨S.lg++[S.lg.getD n 0+1],S.lk++[S.lk.getD old L],S.wy++[S.wy.getD old []]⟩) (b:=B) (r:=[Q0 (n:Int),Q2 ([c]),Q0 (old:Int),Q0 ((S.lg.getD n 0+1:Nat):Int),Q0 (S.lg.length:Int)]) (i:=old) (v:=S.lg.length) (n:=.fr) (e:=ab 3) (ev:=ab 5) (by show old<(S.lk++[S.lk.getD old L]).length;rw[Zt];omega) Y Y;have D:=x xH (by decide) (Q0 ((S.lg.getD n 0+1:Nat):Int));exact congrArg (λz:Option Out=>z.bind _) (sq j (sq h (sq (iH cd Y) (sq F (sq E (sq D Y))))))
def DS{S S':St}{r:Nat}(W:WF S)(X:S.lg.length<=100000)(y:h<S.lg.length)(A:97<=c/\c<=122)(e:hb S h c=Z (S',r)):WF S'/\r<S'.lg.length/\S.lg.length<=S'.lg.length/\S'.lg.length<=S.lg.length+2/\bH (Il S) [.int (h:Int),.str [c]]=Z (Il S',.int (r:Int)):=by
 have hw:h<S.wy.length:=by rw[W.wy];exact y
 unfold hb at e;unfold bH Hl;rw[Zp ⟨rfl,rfl⟩];have cd:e2 mE (ab 2) (e2 ay (aU 3 (ab 0)) (ab 1)) [oc (pe S B),Q0 (h:Int),Q2 ([c]),L,L]=Z (.fr,.bl (gW (S.wy.getD h []) c).isSome):=Fz (m:=.bo) (n:=.fr) (nF (m:=.bo) (n:=.fr) Y Y hw) Y;split at e
 ·rename_i x;rw[x]at cd;obtain⟨s,q,t,C,F⟩:=vV W (Nat.le_succ_of_le X) y A e;refine⟨s,q,t,by omega,?_⟩;have j:=i5 (mv:=[O,O]) (as:=ae (ab 1) (ae (ab 2) ag)) (xs:=[(.fr,.int (h:Int)),(.fr,.str [c])]) (b:=B) (r:=[Q0 (h:Int),Q2 ([c]),L,L]) Y Y Y F Y;have u:rP (bB 0 [] 0 [O,O] au (ae (ab 1) (ae (ab 2) ag))) [oc (pe S B),Q0 (h:Int),Q2 ([c]),L,L]=Z (.rt (.fr,.int (r:Int)) [oc (pe S' B),Q0 (h:Int),Q2 ([c]),L,L]):=by
   unfold rP;rw[j];rfl
  exact congrArg (λz:Option Out=>z.bind _) (kH (Ks cd u))
 ·rename_i x;have IG:(gW (S.wy.getD h []) c).isSome=O:=by simpa using x
  rw[IG]at cd;obtain⟨⟨a,o⟩,e1,E⟩:=Zz.mp e;have U:=W.more (l:=S.lg.getD h 0+1) (o:=Z 0) (w:=[]) (λm g=>by cases g;exact W.pos) (λd m g=>by cases g) YY (λp P=>nomatch P);have hlen:(S.lg++[S.lg.getD h 0+1]).length=S.lg.length+1:=by rw[Zt];rfl
  obtain⟨s,q,t,C⟩:=CN A 1000 _ a (Z h) o U (by show S.lg.length<(S.lg++[S.lg.getD h 0+1]).length;omega) (λm g=>by cases g;show h<(S.lg++[S.lg.getD h 0+1]).length;omega) e1;have Sf:a.lg.length=S.lg.length+1:=by rw[q];exact hlen
  have nw:=vK S (S.lg.getD h 0+1) (Z 0) [] (by omega) (by rw[W.lk];omega) (by rw[W.wy];omega);have args:ae (e2 bO (e2 ay (aU 1 (ab 0)) (ab 1)) (Q3 1)) (ae (Q3 0) (ae (qH 0 []) ag)) [oc (pe S B),Q0 (h:Int),Q2 ([c]),L,L]=Z [(.fr,.int ((S.lg.getD h 0+1:Nat):Int)),(.fr,.int 0),(.fr,.dct 0 [])] :=
   xv (e2v (qS (m:=.bo) (n:=.fr) Y Y y) Y Y) (xv Y (xv Y Y))
  have j:=i5 (mv:=[O,O,B]) (b:=B) args Y Y nw Y;have u:jq 3 (bB 0 [] 0 [O,O,B] aF (ae (e2 bO (e2 ay (aU 1 (ab 0)) (ab 1)) (Q3 1)) (ae (Q3 0) (ae (qH 0 []) ag)))) [oc (pe S B),Q0 (h:Int),Q2 ([c]),L,L]=Z (.nx [oc (pe ⟨S.lg++[S.lg.getD h 0+1],S.lk++[Z 0],S.wy++[[]]⟩ B),Q0 (h:Int),Q2 ([c]),Q0 (S.lg.length:Int),L]):=by
   unfold jq;rw[j];rfl
  have N:=C xH (by decide) (Q0 (h:Int));have hd:∀b:Sx,aq (GH (e2 mE (ab 2) (e2 ay (aU 3 (ab 0)) (ab 1))) (rP (bB 0 [] 0 [O,O] au (ae (ab 1) (ae (ab 2) ag)))) dH)
    (aq (jq 3 (bB 0 [] 0 [O,O,B] aF (ae (e2 bO (e2 ay (aU 1 (ab 0)) (ab 1)) (Q3 1)) (ae (Q3 0) (ae (qH 0 []) ag)))))
    (aq (aB 4 (ab 1)) (aq (nu (fH (ie (ab 4)) (e2 dy (ab 2) (e2 ay (aU 3 (ab 0)) (ab 4)))) bJ) b))) [oc (pe S B),Q0 (h:Int),Q2 ([c]),L,L] =
    b [oc (pe a B),Q0 (h:Int),Q2 ([c]),Q0 (S.lg.length:Int),pc (DP o)]:=λb =>
   sq (iH cd Y) (sq u (sq Y (bD N)))
  cases o with
  |none =>
   obtain⟨rfl,rfl⟩:=XE (Zh E);have fin:aq (GH (ie (ab 4)) (jW 0 [.fld 2] (ab 3) (bB 0 [] 0 [O,O] au (ae (ab 4) (ae (ab 2) ag)))) dH) (iE 3) [oc (pe a B),Q0 (h:Int),Q2 ([c]),Q0 (S.lg.length:Int),pc (DP L)] =
     Z (.rt (.fr,.int (S.lg.length:Int)) [oc (pe a B),Q0 (h:Int),Q2 ([c]),Q0 (S.lg.length:Int),pc (DP L)]):=sq (iH (m:=.fr) Y Y) Y
   refine⟨s,by show S.lg.length<a.lg.length;omega,by show S.lg.length<=a.lg.length;omega,by show a.lg.length<=_;omega,?_⟩;exact congrArg (λz:Option Out=>z.bind _) ((hd _).trans fin)
  |some n =>
   obtain⟨⟨f,m⟩,e3,R⟩:=Zu.mp E;obtain⟨rfl,rfl⟩:=XE R;have Q:n<a.lg.length:=by
    have:=t n Y;rw[q];exact this
   obtain⟨D,J,v3,v4,H⟩:=vV s (by show a.lg.length<=100001;omega) Q A e3;have G:=D.link (n:=S.lg.length) (v:=m) J;have j:=i5 (mv:=[O,O]) (as:=ae (ab 4) (ae (ab 2) ag)) (xs:=[(.fr,.int (n:Int)),(.fr,.str [c])]) (b:=B) (r:=[Q0 (h:Int),Q2 ([c]),Q0 (S.lg.length:Int),Q0 (n:Int)]) Y Y Y H Y;have pl:=xr (S:=f) (b:=B) (r:=[Q0 (h:Int),Q2 ([c]),Q0 (S.lg.length:Int),Q0 (n:Int)]) (i:=S.lg.length) (v:=m) (n:=.fr) (e:=ab 3) (ev:=λ_=>Z (.fr,.int (m:Int))) (by rw[D.lk];omega) Y Y;have M:jW 0 [.fld 2] (ab 3) (bB 0 [] 0 [O,O] au (ae (ab 4) (ae (ab 2) ag))) [oc (pe a B),Q0 (h:Int),Q2 ([c]),Q0 (S.lg.length:Int),Q0 (n:Int)]=Z (.nx [oc (pe ⟨f.lg,f.lk.set S.lg.length (Z m),f.wy⟩ B),Q0 (h:Int),Q2 ([c]),Q0 (S.lg.length:Int),Q0 (n:Int)]):=by
    unfold jW;rw[j];exact pl
   have fin:aq (GH (ie (ab 4)) (jW 0 [.fld 2] (ab 3) (bB 0 [] 0 [O,O] au (ae (ab 4) (ae (ab 2) ag)))) dH) (iE 3) [oc (pe a B),Q0 (h:Int),Q2 ([c]),Q0 (S.lg.length:Int),Q0 (n:Int)] =
     Z (.rt (.fr,.int (S.lg.length:Int)) [oc (pe ⟨f.lg,f.lk.set S.lg.length (Z m),f.wy⟩ B),Q0 (h:Int),Q2 ([c]),Q0 (S.lg.length:Int),Q0 (n:Int)]):=sq (Ks (m:=.fr) Y M) Y
   refine⟨G,by show S.lg.length<f.lg.length;omega,by show S.lg.length<=f.lg.length;omega,by show f.lg.length<=_;omega,?_⟩;exact congrArg (λz:Option Out=>z.bind _) ((hd _).trans fin)
theorem vT{S S':St}:∀{word:W7}{h r:Nat},WF S->S.lg.length+2*word.length<=100000->h<S.lg.length->(∀c∈word,97<=c/\c<=122)->hg S h word=Z (S',r) →
  WF S'/\r<S'.lg.length/\S'.lg.length<=S.lg.length+2*word.length/\∀f:Vz,∀a:T,∃j,forL (ba 3) bW (word.map λc=>T.str [c]) [oc (pe S B),Q0 (h:Int),pc a,f]=Z (.nx [oc (pe S' B),Q0 (r:Int),pc a,j])
 |[],h,r,W,l,g,i,e=>by
  obtain⟨rfl,rfl⟩:=XE (Zh e);exact⟨W,g,by simp,λf a=>⟨f,rfl⟩⟩
 |c :: word,h,r,W,l,g,i,e=>by
  obtain⟨⟨v,A⟩,e1,w⟩:=Zz.mp e;rw[Zf]at l;obtain⟨o,n,y,x,m⟩:=DS W (by omega) g (i c Zw) e1;obtain⟨t,s,z,p⟩:=vT (S:=v) (S':=S') (word:=word) o (by omega) n (λd hd=>i d (Zx _ hd)) w;refine⟨t,s,by rw[Zf];omega,λf a=>?_⟩;obtain⟨j,q⟩:=p (Q2 ([c])) a;refine⟨j,?_⟩;rw[Zi];refine(dU (U1:=[oc (pe S B),Q0 (h:Int),pc a,Q2 ([c])]) Y ?_).trans q;have u:=i5 (mv:=[O,O]) (as:=ae (ab 1) (ae (ab 3) ag)) (xs:=[(.fr,.int (h:Int)),(.fr,.str [c])]) (b:=B) (r:=[Q0 (h:Int),pc a,Q2 ([c])]) Y Y Y m Y;unfold bW jq;rw[u];rfl
def Bz{S S':St}{a:Tx}{r:Nat}(W:WF S)(j:S.lg.length+2*a.length<=100000)(n:h<S.lg.length)(o:∀c∈a,97<=c/\c<=122)(e:hg S h a=Z (S',r)) :
  WF S'/\r<S'.lg.length/\S'.lg.length<=S.lg.length+2*a.length/\aM (Il S) [.int (h:Int),.str a]=Z (Il S',.int (r:Int)):=by
 obtain⟨g,f,d,b⟩:=vT W j n o e;obtain⟨p,q⟩:=b L (.str a);refine⟨g,f,d,?_⟩;unfold aM Hl;rw[Zp ⟨rfl,rfl⟩];have i:=(eZ (tg:=ba 3) (it:=fE (ab 2)) (body:=bW) (U:=[oc (pe S B),Q0 (h:Int),Q2 a,L]) (m:=.fr) (l:=a.map λc=>T.str [c]) Y Y).trans q;exact congrArg (λz:Option Out=>z.bind _) (sq i Y)
end T51
end
section
namespace AU
noncomputable abbrev Wd:=W7
noncomputable abbrev W(a:List Wd)(n:Nat):Wd:=a.getD n []
structure I(fr:Option Nat)(S:St)(nd:Wd->Option Nat)(wd:List Wd):Prop where
 wf:WF S
 len:wd.length=S.lg.length
 lg:∀n,n<wd.length->S.lg.getD n 0=(W wd n).length
 z:nd []=some 0
 wz:W wd 0=[]
 lt:∀{x n},nd x=some n->n<wd.length
 sf:∀{x n},nd x=some n->x <:+ W wd n
 top:∀{n},n<wd.length->nd (W wd n)=some n
 iv:∀{x y n},nd x=some n->x <:+ y->y <:+ W wd n->nd y=some n
 pre:∀{x c n},nd (x++[c])=some n->∃m,nd x=some m
 Kl:∀{x y n},nd y=some n->x <:+ y->∃m,nd x=some m
 ML:S.lk.getD 0 none=none
 lk:∀{n},0<n->n<wd.length->some n≠fr->∃m,S.lk.getD n none=some m/\(m<wd.length/\some m≠fr)/\W wd m <:+ W wd n/\(W wd m).length<(W wd n).length/\∀y,y <:+ W wd n->(W wd m).length<y.length->nd y=some n
 wy:∀{x n},nd x=some n->∀c,gW (S.wy.getD n []) c=nd (x++[c])
def di{α:Type}{x y w:List α}(d:x <:+ w)(b:y <:+ w)(a:x.length<=y.length):x <:+ y:=List.suffix_of_suffix_length_le d b a
section
def I.up(H:I fr S nd wd):∀(k n:Nat)(x:Wd),(W wd n).length<=k->n<wd.length->Z n≠fr->x <:+ W wd n->∃m,nd x=Z m/\W wd m <:+ W wd n:=by
 intro k
 induction k with
 |zero =>
  intro n x e b f a;rw[(List.length_eq_zero_iff.mp (Nat.le_zero.mp e))]at a;have:x=[]:=Y5.mp a;subst this;exact⟨0,H.z,by rw[H.wz];exact XT⟩
 |succ k l =>
  intro n x e b f a;by_cases h:n=0
  ·subst h;rw[H.wz]at a;have:x=[]:=Y5.mp a;subst this;exact⟨0,H.z,Yr _⟩
  ·obtain⟨m,t,⟨p,r⟩,g,s,o⟩:=H.lk (Xq h) b f;by_cases d:(W wd m).length<x.length
   ·exact⟨n,o x a d,Yr _⟩
   ·obtain⟨q,j,i⟩:=l m x (by lia) p r (di a g (by exact ZP d));exact⟨q,j,i.trans g⟩
def I.Nz(H:I fr S nd wd)(b:n<wd.length)(d:Z n≠fr)(a:x <:+ W wd n):∃m,nd x=Z m/\W wd m <:+ W wd n:=H.up _ n x (Zm _) b d a
def I.all(H:I fr S nd wd)(e:q<wd.length)(f:Z q≠fr)(d:nd x=Z n)(b:nd y=Z n)(h:x <:+ W wd q):y <:+ W wd q:=by
 obtain⟨m,a,g⟩:=H.Nz e f h;rw[d]at a;cases a;exact(H.sf b).trans g
def I.inj(H:I fr S nd wd)(b:m<wd.length)(a:n<wd.length)(h:W wd m=W wd n):m=n:=by
 have:=H.top b;rw[h,H.top a]at this;exact(Zh this).symm
def I.way(H:I fr S nd wd){n c:Nat}(b:n<wd.length)(h:gW (S.wy.getD n []) c=Z a):nd (W wd n++[c])=Z a:=by
 rw[← H.wy (H.top b) c];exact h
def I.zero(H:I fr S nd wd)(h:nd x=Z 0):x=[]:=by
 have:=H.sf h;rw[H.wz]at this;exact Y5.mp this
def I.low(H:I fr S nd wd)(g:Z n≠fr)(a:S.lk.getD n L=Z m)(b:nd y=Z n):(W wd m).length<y.length/\m<wd.length/\W wd m <:+ W wd n/\Z m≠fr:=by
 by_cases f:n=0
 ·subst f;rw[H.ML]at a;cases a
 ·obtain⟨l,i,⟨e,j⟩,d,h,o⟩:=H.lk (Xq f) (H.lt b) g;rw[i]at a;cases a;refine⟨Nat.lt_of_not_le λhle=>?_,e,d,j⟩;have:=H.iv b (di (H.sf b) d hle) d;rw[H.top e]at this;cases this;exact YZ _ h
def I.below(H:I fr S nd wd)(e:n<wd.length)(g:Z n≠fr)(a:S.lk.getD n L=Z q)(f:m<wd.length)(b:W wd m <:+ W wd n)(l:m≠n):W wd m <:+ W wd q:=by
 by_cases d:n=0
 ·subst d;rw[H.ML]at a;cases a
 ·obtain⟨p,j,⟨s,_⟩,i,r,h⟩:=H.lk (Xq d) e g;rw[j]at a;cases a;refine di b i (ZP λo=>l ?_);have:=h _ b o;rw[H.top f]at this;exact Zh this
def I.root(H:I fr S nd wd)(b:n<wd.length)(g:Z n≠fr)(d:S.lk.getD n L=L)(f:m<wd.length)(a:W wd m <:+ W wd n):m=n:=by
 have i:n=0:=Nat.eq_zero_of_not_pos λe=>by
  obtain⟨q,h,_⟩:=H.lk e b g;rw[h]at d;cases d
 subst i;rw[H.wz]at a;exact H.inj f b (by rw[H.wz,Y5.mp a])
def fY(a:List (List (Nat×Nat)))(n m c v d:Nat)(b:n<a.length):gW ((a.set n (pW (a.getD n []) c v)).getD m []) d=if m=n/\d=c then Z v else gW (a.getD m []) d:=by
 rw[g5];by_cases h:n=m
 ·subst h;rw[Zp ⟨rfl,b⟩,Bt];by_cases hd:d=c
  ·rw[Zp hd,Zp ⟨rfl,hd⟩]
  ·rw[Zn hd,Zn (λz=>hd z.2)]
 ·rw[Zn (λz=>h z.1),Zn (λz=>h z.1.symm)]
def I.LN(H:I fr S nd wd){c v:Nat}:∀(k:Nat)(T:St)(n:Nat),n<wd.length->Z n≠fr->(W wd n).length<k->(∀m,m<wd.length->W wd m <:+ W wd n->T.lk.getD m L=S.lk.getD m L)->wd.length<=T.wy.length →
  (∀m i,m<wd.length->i<wd.length->W wd m <:+ W wd i->W wd i <:+ W wd n->gW (T.wy.getD m []) c=Z b->gW (T.wy.getD i []) c=Z b) →
  ∃o,KH c b v k T (Z n)=Z ⟨T.lg,T.lk,o⟩/\o.length=T.wy.length/\∀m d,gW (o.getD m []) d=if d=c/\m<wd.length/\W wd m <:+ W wd n/\gW (T.wy.getD m []) c=Z b then Z v else gW (T.wy.getD m []) d:=by
 intro k
 induction k with
 |zero=>intro T n _ _ h;lia
 |succ k D =>
  intro T n f t G y hw mono;have l:=ZS f hw;unfold KH;by_cases j:gW (T.wy.getD n []) c=Z b
  ·rw[Zp j,y n f (Yr _)];cases s:S.lk.getD n L with
   |none =>
    refine⟨T.wy.set n (pW (T.wy.getD n []) c v),by cases k<;>rfl,Yt,λm d=>?_⟩;rw[fY _ _ _ _ _ _ l];by_cases a:m=n/\d=c
    ·rw[Zp a,Zp ⟨a.2,by rw[a.1];exact f,by rw[a.1];exact Yr _,by rw[a.1];exact j⟩]
    ·rw[Zn a,Zn λz=>a ⟨H.root f t s z.2.1 z.2.2.1,z.1⟩]
   |some q =>
    obtain⟨F,C,r,A⟩:=H.low t s (H.top f);have ne:∀m,W wd m <:+ W wd q->m≠n:=λm a e=>by
     rw[e]at a;have:=a.length_le;lia
    obtain⟨o,e1,e2,e3⟩:=D ⟨T.lg,T.lk,T.wy.set n (pW (T.wy.getD n []) c v)⟩ q C A (by lia) (λm a p=>y m a (p.trans r)) (by rw[Yt];exact hw) (λm i a E p u h=>by
     have w:=h;rw[fY _ _ _ _ _ _ l,Zn (λz=>ne m (p.trans u) z.1)]at w;rw[fY _ _ _ _ _ _ l,Zn (λz=>ne i u z.1)];exact mono m i a E p (u.trans r) w)
    refine⟨o,e1,by rw[e2];exact Yt,λm d=>?_⟩;rw[e3 m d];by_cases a:m=n
    ·subst a;rw[Zn (λz=>ne m z.2.2.1 Y),fY _ _ _ _ _ _ l];by_cases hd:d=c
     ·rw[Zp ⟨rfl,hd⟩,Zp ⟨hd,f,Yr _,j⟩]
     ·rw[Zn (λz=>hd z.2),Zn (λz=>hd z.1)]
    ·have x:∀d,gW ((T.wy.set n (pW (T.wy.getD n []) c v)).getD m []) d=gW (T.wy.getD m []) d:=λd=>by rw[fY _ _ _ _ _ _ l,Zn (λz=>a z.1)]
     rw[x,x];by_cases g:d=c/\m<wd.length/\W wd m <:+ W wd n/\gW (T.wy.getD m []) c=Z b
     ·rw[Zp g,Zp ⟨g.1,g.2.1,H.below f t s g.2.1 g.2.2.1 a,g.2.2.2⟩]
     ·rw[Zn g,Zn λz=>g ⟨z.1,z.2.1,z.2.2.1.trans r,z.2.2.2⟩]
  ·rw[Zn j];refine⟨T.wy,rfl,rfl,λm d=>?_⟩;rw[Zn λz=>j (mono m n z.2.1 f z.2.2.1 (Yr _) z.2.2.2)]
def I.LO(H:I fr S nd wd){c v:Nat}:∀(k:Nat)(T:St)(n:Nat),n<wd.length->Z n≠fr->(W wd n).length<k->(∀m,m<wd.length->W wd m <:+ W wd n->T.lk.getD m L=S.lk.getD m L)->wd.length<=T.wy.length →
  (∀m i,m<wd.length->i<wd.length->W wd m <:+ W wd i->W wd i <:+ W wd n->(gW (T.wy.getD i []) c).isSome->(gW (T.wy.getD m []) c).isSome) →
  ∃y s,up1 c v k T (Z n)=Z (⟨T.lg,T.lk,y⟩,s)/\y.length=T.wy.length/\(∀m d,gW (y.getD m []) d=if d=c/\m<wd.length/\W wd m <:+ W wd n/\gW (T.wy.getD m []) c=L then Z v else gW (T.wy.getD m []) d) ∧
   (s=L->∀m,m<wd.length->W wd m <:+ W wd n->gW (T.wy.getD m []) c=L) ∧
   ∀p,s=Z p->p<wd.length/\W wd p <:+ W wd n/\(gW (T.wy.getD p []) c).isSome/\∀m,m<wd.length->W wd m <:+ W wd n->(W wd p).length<(W wd m).length->gW (T.wy.getD m []) c=L:=by
 intro k
 induction k with
 |zero=>intro T n _ _ h;lia
 |succ k X =>
  intro T n f o hk J hw mono;have r:=ZS f hw;unfold up1;by_cases l:(gW (T.wy.getD n []) c).isSome=B
  ·rw[Zp l];refine⟨T.wy,Z n,rfl,rfl,λm d=>?_,(λh=>nomatch h),λp t=>?_⟩
   ·rw[Zn λz=>?_];have:=mono m n z.2.1 f z.2.2.1 (Yr _) l;rw[z.2.2.2]at this;cases this
   ·cases t;refine⟨f,Yr _,l,λm a b j=>?_⟩;have:=b.length_le;lia
  ·have w:gW (T.wy.getD n []) c=L:=by
    cases h:gW (T.wy.getD n []) c with
    |none=>rfl
    |some x=>rw[h]at l;exact absurd Y l
   rw[Zn l,J n f (Yr _)];cases j:S.lk.getD n L with
   |none =>
    refine⟨T.wy.set n (pW (T.wy.getD n []) c v),L,by cases k<;>rfl,Yt,λm d=>?_,λ_ m a b=>?_,(λp t=>nomatch t)⟩
    ·rw[fY _ _ _ _ _ _ r];by_cases a:m=n/\d=c
     ·rw[Zp a,Zp ⟨a.2,by rw[a.1];exact f,by rw[a.1];exact Yr _,by rw[a.1];exact w⟩]
     ·rw[Zn a,Zn λz=>a ⟨H.root f o j z.2.1 z.2.2.1,z.1⟩]
    ·rw[H.root f o j a b];exact w
   |some q =>
    refine L2.ar λP_ U=>?_;obtain⟨l1,R,A,Q⟩:=H.low o j (H.top f);have ne:∀m,W wd m <:+ W wd q->m≠n:=λm a e=>by
     rw[e]at a;have:=a.length_le;lia
    obtain⟨y,s,e1,e2,e3,e4,e5⟩:=X ⟨T.lg,T.lk,T.wy.set n (pW (T.wy.getD n []) c v)⟩ q R Q (by lia) (λm a b=>J m a (b.trans A)) (by rw[Yt];exact hw) (λm i a Hw b C h=>by
     have E:=h;rw[fY _ _ _ _ _ _ r,Zn (λz=>ne i C z.1)]at E;rw[fY _ _ _ _ _ _ r,Zn (λz=>ne m (b.trans C) z.1)];exact mono m i a Hw b (C.trans A) E)
    refine U ?_;have old:∀m,W wd m <:+ W wd q->gW ((T.wy.set n (pW (T.wy.getD n []) c v)).getD m []) c=gW (T.wy.getD m []) c:=λm a=>by rw[fY _ _ _ _ _ _ r,Zn (λz=>ne m a z.1)]
    refine⟨y,s,e1,by rw[e2];exact Yt,λm d=>?_,λho m a b=>?_,λp t=>?_⟩
    ·rw[e3 m d];by_cases a:m=n
     ·subst a;rw[Zn (λz=>ne m z.2.2.1 Y),fY _ _ _ _ _ _ r];by_cases hd:d=c
      ·rw[Zp ⟨rfl,hd⟩,Zp ⟨hd,f,Yr _,w⟩]
      ·rw[Zn (λz=>hd z.2),Zn (λz=>hd z.1)]
     ·have F:∀d,gW ((T.wy.set n (pW (T.wy.getD n []) c v)).getD m []) d=gW (T.wy.getD m []) d:=λd=>by rw[fY _ _ _ _ _ _ r,Zn (λz=>a z.1)]
      rw[F,F];by_cases g:d=c/\m<wd.length/\W wd m <:+ W wd n/\gW (T.wy.getD m []) c=L
      ·rw[Zp g,Zp ⟨g.1,g.2.1,H.below f o j g.2.1 g.2.2.1 a,g.2.2.2⟩]
      ·rw[Zn g,Zn λz=>g ⟨z.1,z.2.1,z.2.2.1.trans A,z.2.2.2⟩]
    ·by_cases u:m=n
     ·rw[u];exact w
     ·have hb:=H.below f o j a b u;rw[← old m hb];exact e4 ho m a hb
    ·obtain⟨P,D,N,M⟩:=e5 p t;have G:=N;rw[old p D]at G;refine⟨P,D.trans A,G,λm a b G7=>?_⟩;by_cases u:m=n
     ·rw[u];exact w
     ·have hb:=H.below f o j a b u;rw[← old m hb];exact M m a hb G7
end
def Dt(g:97<=c/\c<=122):∀(k:Nat)(S a:St)(o:Option Nat),WF S->v<S.lg.length->KH c b v k S o=Z a->WF a:=by
 intro k
 induction k with
 |zero =>
  intro S a o H d e;cases o with
  |none=>cases (e);exact H
  |some n=>cases e
 |succ k f =>
  intro S a o H d e;cases o with
  |none=>cases (e);exact H
  |some n =>
   unfold KH at e;split at e
   ·exact f ⟨S.lg,S.lk,S.wy.set n (pW (S.wy.getD n []) c v)⟩ a _ (H.way (n:=n) d g) d e
   ·cases e;exact H
def CP(g:97<=c/\c<=122):∀(k:Nat)(S a:St)(o b:Option Nat),WF S->v<S.lg.length->up1 c v k S o=Z (a,b)->WF a:=by
 intro k
 induction k with
 |zero =>
  intro S a o b H d e;cases o with
  |none=>cases (e);exact H
  |some n=>cases e
 |succ k f =>
  intro S a o b H d e;cases o with
  |none=>cases (e);exact H
  |some n =>
   unfold up1 at e;split at e
   ·cases e;exact H
   ·exact f ⟨S.lg,S.lk,S.wy.set n (pW (S.wy.getD n []) c v)⟩ a _ b (H.way (n:=n) d g) d e
def i9{α:Type}{x y:List α}{a b:α}(h:x++[a] <:+ y++[b]):a=b/\x <:+ y:=by
 obtain⟨t,e⟩:=h;rw[← Z2]at e;obtain⟨e1,e2⟩:=List.append_inj' e Y;exact⟨by simpa using e2,⟨t,e1⟩⟩
def g9{α:Type}{x y:List α}(a:α)(h:x <:+ y):x++[a] <:+ y++[a]:=by
 obtain⟨t,e⟩:=h;exact⟨t,by rw[← e,Z2]⟩
noncomputable def iG(b:Wd->Option Nat)(a l h:Nat)(x:Wd):Option Nat:=if b x=Z a/\x.length<=l then Z h else b x
theorem I.split(H:I N S o b)(G:n<b.length)(hf:Z n≠N)(hc:97<=c/\c<=122)(ho:gW (S.wy.getD n []) c=Z a)(Ls:Z a≠N)(KY:N≠Z b.length)(Hb:S.lg.getD a 0≠S.lg.getD n 0+1)(hk:(W b n).length<1000) :
  ∃S',Ko S n c=Z (S',S.lg.length)/\I N S' (iG o a ((W b n).length+1) b.length) (b++[W b n++[c]]):=by
 have J:=H.len.symm;have hw:=H.way G ho;have hold:=H.lt hw;have t:=H.sf hw;have lw:(W b n++[c]).length=(W b n).length+1:=by rw[Zt];rfl
 rw[H.lg a hold,H.lg n G]at Hb;have G7:(W b n).length+1<(W b a).length:=by
  have:=t.length_le;rw[lw]at this;lia
 have U:a≠0:=λe=>by
  rw[e,H.wz]at G7;simp at G7
 have M0:0<b.length:=by rw[H.len];exact H.wf.pos
 have l1:S.lk.length=b.length:=by rw[H.wf.lk,J]
 have l2:S.wy.length=b.length:=by rw[H.wf.wy,J]
 have KS:∀m,((S.lk++[S.lk.getD a L]).set a (Z S.lg.length)).getD m L=if m=a then Z b.length else if m=b.length then S.lk.getD a L else S.lk.getD m L:=λm=>by
  rw[g5,bP,l1,J];by_cases h:m=a
  ·rw[Zp ⟨h.symm,by rw[Zt,l1];lia⟩,Zp h]
  ·rw[Zn (λz=>h z.1.symm),Zn h]
 have HX:∀m,(S.wy++[S.wy.getD a []]).getD m []=if m=b.length then S.wy.getD a [] else S.wy.getD m []:=λm=>by rw[bP,l2]
 have Ju:∀m,m<b.length->(S.wy++[S.wy.getD a []]).getD m []=S.wy.getD m []:=λm f=>by rw[HX,Zn (Zg f)]
 obtain⟨w2,e1,e2,e3⟩:=H.LN (c:=c) (v:=S.lg.length) 1000 ⟨S.lg++[S.lg.getD n 0+1],(S.lk++[S.lk.getD a L]).set a (Z S.lg.length),S.wy++[S.wy.getD a []]⟩ n G hf hk (λm f X=>by
   have:=X.length_le;rw[KS,Zn (λe=>by rw[e]at this;lia),Zn (Zg f)])
  (by rw[Zt,l2];exact YS _ _)
  (λm u f D X Hv h=>by
   have C:=h;rw[Ju m f]at C;rw[Ju u D,H.wy (H.top D) c];rw[H.wy (H.top f) c]at C;exact H.iv C (g9 c X) ((g9 c Hv).trans t))
 have wn:=H.wf.Mr a;have W1:=H.wf.more (l:=S.lg.getD n 0+1) (λm f=>H.wf.up a m f) (λd m f=>H.wf.on a d m f) wn.1 wn.2;have hlen:(S.lg++[S.lg.getD n 0+1]).length=S.lg.length+1:=by rw[Zt];rfl
 have W2:=W1.link (n:=a) (v:=S.lg.length) (by lia);have Od:=Dt hc 1000 _ _ _ W2 (by lia) e1;refine⟨⟨S.lg++[S.lg.getD n 0+1],(S.lk++[S.lk.getD a L]).set a (Z S.lg.length),w2⟩,?_,?_⟩
 ·unfold Ko;rw[ho,Zs,Zn (by rw[H.lg a hold,H.lg n G];exact Hb),e1];rfl
 have Wn:∀m,W (b++[W b n++[c]]) m=if m=b.length then W b n++[c] else W b m:=λm=>bP b _ _ m
 have s:W (b++[W b n++[c]]) b.length=W b n++[c]:=by rw[Wn,Zp Y]
 have g:∀{m},m<b.length->W (b++[W b n++[c]]) m=W b m:=λ{m} f=>by rw[Wn,Zn (Zg f)]
 have ed:(b++[W b n++[c]]).length=b.length+1:=by rw[Zt];rfl
 have tell:∀{x m},iG o a ((W b n).length+1) b.length x=Z m->(m=b.length/\o x=Z a/\x.length<=(W b n).length+1)\/(m<b.length/\o x=Z m/\¬(m=a/\x.length<=(W b n).length+1)):=λ{x m} h=>by
  unfold iG at h;split at h
  ·rename_i q;cases h;exact .inl ⟨rfl,q.1,q.2⟩
  ·rename_i q;exact .inr ⟨H.lt h,h,λz=>q ⟨by rw[h,z.1],z.2⟩⟩
 have R:∀{x},o x=Z a->x.length<=(W b n).length+1->iG o a ((W b n).length+1) b.length x=Z b.length:=λ{x} A h2=>Zp ⟨A,h2⟩;have tO:∀{x m},o x=Z m->¬(m=a/\x.length<=(W b n).length+1)->iG o a ((W b n).length+1) b.length x=Z m:=λ{x m} A h2=>by
  unfold iG;rw[Zn (λz=>h2 ⟨by rw[A]at z;exact Zh z.1,z.2⟩),A]
 have KL:∀{x m},o x=Z m->∃u,iG o a ((W b n).length+1) b.length x=Z u:=λ{x m} h=>by
  unfold iG;split
  ·exact⟨_,rfl⟩
  ·exact⟨m,h⟩
 have un:∀{x m},iG o a ((W b n).length+1) b.length x=Z m->∃u,o x=Z u:=λ{x m} h=>(tell h).elim (λz=>⟨_,z.2.1⟩) λz=>⟨_,z.2.1⟩
 refine⟨Od,by rw[ed,hlen,J],λm f=>?_,tO H.z (λz=>U z.1.symm),by rw[g M0];exact H.wz,λ{x m} h=>by rcases tell h with z | z<;>lia,λ{x m} h=>?_,λ{m} f=>?_,λ{x y m} h P i=>?_,λ{x d m} h=>?_,λ{x y m} h P=>?_,?_,λ{m} h0 f OT=>?_,λ{x m} h d=>?_⟩
 ·rw[ed]at f;rw[bP,J];by_cases e:m=b.length
  ·rw[Zp e,e,s,H.lg n G,lw]
  ·rw[Zn e,g (by lia),H.lg m (by lia)]
 ·rcases tell h with⟨rfl,j,E⟩ | ⟨F,j,_⟩
  ·rw[s];exact di (H.sf j) t (by rw[lw];exact E)
  ·rw[g F];exact H.sf j
 ·rw[ed]at f;by_cases e:m=b.length
  ·rw[e,s];exact R hw (by rw[lw];exact Zm _)
  ·rw[g (by lia)];exact tO (H.top (by lia)) (λz=>by have:=z.2;rw[z.1]at this;lia)
 ·rcases tell h with⟨rfl,j,E⟩ | ⟨F,j,E⟩
  ·rw[s]at i;have:=i.length_le;rw[lw]at this;exact R (H.iv j P (i.trans t)) this
  ·rw[g F]at i;exact tO (H.iv j P i) (λz=>E ⟨z.1,ZY P.length_le z.2⟩)
 ·obtain⟨u,C⟩:=un h;obtain⟨q,p⟩:=H.pre C;exact KL p
 ·obtain⟨u,C⟩:=un h;obtain⟨q,p⟩:=H.Kl C P;exact KL p
 ·rw[KS,Zn (Ya U),Zn (by exact Zg M0)];exact H.ML
 ·rw[ed]at f;show ∃q,((S.lk++[S.lk.getD a L]).set a (Z S.lg.length)).getD m L=Z q/\_;rw[KS,ed];refine L2.ar λP_ M=>?_;obtain⟨q,q1,⟨Q,SG⟩,q3,q4,q5⟩:=H.lk (Xq U) hold Ls;obtain⟨lo,_⟩:=H.low Ls q1 hw;refine M ?_;rw[lw]at lo;by_cases e:m=a
  ·subst e;rw[Zp Y];refine⟨b.length,rfl,⟨by exact Z6 _,λz=>KY z.symm⟩,?_,?_,λy i w=>?_⟩
   ·rw[s,g hold];exact t
   ·rw[s,g hold,lw];exact G7
   ·rw[s,lw]at w;rw[g hold]at i;exact tO (H.iv hw (di t i (by rw[lw];exact Xv w)) i) (λz=>by have:=z.2;lia)
  ·rw[Zn e];by_cases eL:m=b.length
   ·subst eL;rw[Zp Y,q1];refine⟨q,rfl,⟨by exact Yo Q,SG⟩,?_,?_,λy i w=>?_⟩
    ·rw[s,g Q];exact di q3 t (by rw[lw];exact Xv lo)
    ·rw[s,g Q,lw];exact lo
    ·rw[s]at i;rw[g Q]at w;have:=i.length_le;rw[lw]at this;exact R (q5 y (i.trans t) w) this
   ·rw[Zn eL];have D:m<b.length:=by lia
    refine L2.ar λP_ M=>?_;obtain⟨r,r1,⟨r2,SF⟩,r3,r4,r5⟩:=H.lk h0 D OT;refine M ?_;rw[r1];refine⟨r,rfl,⟨by exact Yo r2,SF⟩,by rw[g r2,g D];exact r3,by rw[g r2,g D];exact r4,λy i w=>?_⟩;rw[g D]at i;rw[g r2]at w;exact tO (r5 y i w) (λz=>e z.1)
 ·rw[e3 m d];rcases tell h with⟨rfl,j,E⟩ | ⟨F,j,E⟩
  ·rw[Zn (λz=>YZ _ z.2.1),HX,Zp Y,H.wy j d];unfold iG;rw[Zn];intro z;have A:=z.1;rw[← H.wy j d,H.wy (H.top hold) d]at A;have:=(H.sf A).length_le;rw[Zt,Za]at this;lia
  ·rw[Ju m F,H.wy j c,H.wy j d];unfold iG;by_cases p:o (x++[d])=Z a/\(x++[d]).length<=(W b n).length+1
   ·refine L2.ar λP_ M=>?_;obtain⟨rfl,hx⟩:=i9 (di (H.sf p.1) t (by rw[lw];exact p.2));obtain⟨u,m1,m2⟩:=H.Nz G hf hx;rw[j]at m1;cases m1;refine M ?_;rw[Zp ⟨rfl,F,m2,p.1⟩,Zp p,J]
   ·rw[Zn p,Zn];rintro⟨rfl,_,a3,a4⟩;refine p ⟨a4,?_⟩;have b1:=(H.sf j).length_le;have b2:=a3.length_le;rw[Zt,Za];lia
end AU
end
section
namespace AU
open Classical in
noncomputable def iz(a:Wd->Option Nat)(w:Wd)(f:Nat)(x:Wd):Option Nat:=match a x with
 |some m=>Z m
 |none=>if x <:+ w then Z f else L
def dv(h:a x=Z m):iz a w f x=Z m:=by
 unfold iz;rw[h]
def gh(h:a x=L)(b:x <:+ w):iz a w f x=Z f:=by
 unfold iz;rw[h];exact Zp b
def cN(h:iz a w f x=Z m):a x=Z m\/(m=f/\a x=L/\x <:+ w):=by
 unfold iz at h;split at h
 ·rename_i q e;cases h;exact .inl e
 ·rename_i e;split at h
  ·rename_i b;cases h;exact .inr ⟨rfl,e,b⟩
  ·cases h
def yg{α:Type}{y t:List α}{c:α}(h:y <:+ t++[c])(d:y≠[]):∃a,y=a++[c]/\a <:+ t:=by
 rcases List.eq_nil_or_concat y with e | ⟨a,b,e⟩
 ·exact absurd e d
 ·rw[List.concat_eq_append]at e;subst e;obtain⟨e1,e2⟩:=i9 h;exact⟨a,by rw[e1],e2⟩
section
def I.fresh(H:I L S nd wd)(t:h<wd.length)(hc:97<=c/\c<=122)(hn:gW (S.wy.getD h []) c=L)(hk:(W wd h).length<1000) :
  ∃D u,up1 c S.lg.length 1000 ⟨S.lg++[S.lg.getD h 0+1],S.lk++[Z 0],S.wy++[[]]⟩ (Z h)=Z (D,u)/\I (Z wd.length) D (iz nd (W wd h++[c]) wd.length) (wd++[W wd h++[c]])/\D.lk.getD wd.length L=Z 0/\D.lg.length=S.lg.length+1 ∧
   (∀m,m<wd.length->(gW (S.wy.getD m []) c).isSome->gW (D.wy.getD m []) c=gW (S.wy.getD m []) c) ∧
   (u=L->∀m,m<wd.length->W wd m <:+ W wd h->gW (S.wy.getD m []) c=L) ∧
   ∀p,u=Z p->p<wd.length/\W wd p <:+ W wd h/\(gW (S.wy.getD p []) c).isSome/\∀m,m<wd.length->W wd m <:+ W wd h->(W wd p).length<(W wd m).length->gW (S.wy.getD m []) c=L:=by
 have C:=H.len.symm;have l1:S.lk.length=wd.length:=by rw[H.wf.lk,C]
 have l2:S.wy.length=wd.length:=by rw[H.wf.wy,C]
 have M0:0<wd.length:=by rw[H.len];exact H.wf.pos
 have N:∀m,(S.lk++[Z 0]).getD m L=if m=wd.length then Z 0 else S.lk.getD m L:=λm=>by rw[bP,l1]
 have HX:∀m,(S.wy++[[]]).getD m []=if m=wd.length then [] else S.wy.getD m []:=λm=>by rw[bP,l2]
 have s:∀m,m<wd.length->(S.wy++[[]]).getD m []=S.wy.getD m []:=λm b=>by rw[HX,Zn (Zg b)]
 obtain⟨w2,u,e1,e2,e3,e4,e5⟩:=H.LO (c:=c) (v:=S.lg.length) 1000 ⟨S.lg++[S.lg.getD h 0+1],S.lk++[Z 0],S.wy++[[]]⟩ h t (λz=>nomatch z) hk (λm b _=>by
   rw[N,Zn (Zg b)])
  (by rw[Zt,l2];exact YS _ _)
  (λm m' b j g Hv q=>by
   have U:=q;rw[s m' j,H.wy (H.top j) c]at U;rw[s m b,H.wy (H.top b) c];obtain⟨r,f⟩:=YH.mp U;obtain⟨R,Tc⟩:=H.Kl f (g9 c g);rw[Tc];rfl)
 have hlen:(S.lg++[S.lg.getD h 0+1]).length=S.lg.length+1:=by rw[Zt];rfl
 have Od:=CP hc 1000 _ _ _ _ (H.wf.more (l:=S.lg.getD h 0+1) (o:=Z 0) (w:=[]) (λm b=>by cases b;exact H.wf.pos) (λd m b=>by cases b) YY (λp Q=>nomatch Q)) (by lia) e1;have lw:(W wd h++[c]).length=(W wd h).length+1:=by rw[Zt];rfl
 have Wn:∀m,W (wd++[W wd h++[c]]) m=if m=wd.length then W wd h++[c] else W wd m:=λm=>bP wd _ _ m
 have M:W (wd++[W wd h++[c]]) wd.length=W wd h++[c]:=by rw[Wn,Zp Y]
 have i:∀{m},m<wd.length->W (wd++[W wd h++[c]]) m=W wd m:=λ{m} b=>by rw[Wn,Zn (Zg b)]
 have ed:(wd++[W wd h++[c]]).length=wd.length+1:=by rw[Zt];rfl
 refine⟨⟨S.lg++[S.lg.getD h 0+1],S.lk++[Z 0],w2⟩,u,e1,?_,by rw[N,Zp Y],hlen,λm b g=>?_,λho m b g=>?_,λp Q=>?_⟩
 rotate_left
 ·rw[e3 m c];rw[s m b,Zn (λz=>by rw[z.2.2.2]at g;cases g)]
 ·have:=e4 ho m b g;have F:=this;rw[s m b]at F;exact F
 ·obtain⟨X,p2,p3,p4⟩:=e5 p Q;have MA:=p3;rw[s p X]at MA;refine⟨X,p2,MA,λm b g J=>?_⟩;have:=p4 m b g J;have F:=this;rw[s m b]at F;exact F
 refine⟨Od,by rw[ed];rw[hlen,C],λm b=>?_,dv H.z,by rw[i M0];exact H.wz,λ{x m} q=>?_,λ{x m} q=>?_,λ{m} b=>?_,λ{x y m} q E n=>?_,λ{x d m} q=>?_,λ{x y m} q E=>?_,?_,λ{m} h0 b OT=>?_,λ{x m} q d=>?_⟩
 ·rw[ed]at b;rw[bP,C];by_cases e:m=wd.length
  ·rw[Zp e,e,M,H.lg h t,lw]
  ·rw[Zn e,i (by lia),H.lg m (by lia)]
 ·rw[ed];rcases cN q with z | z
  ·have:=H.lt z;exact Yo this
  ·lia
 ·rcases cN q with z | ⟨rfl,_,z⟩
  ·rw[i (H.lt z)];exact H.sf z
  ·rw[M];exact z
 ·rw[ed]at b;by_cases e:m=wd.length
  ·rw[e,M];exact gh (by rw[← H.wy (H.top t) c];exact hn) (Yr _)
  ·rw[i (by lia)];exact dv (H.top (by lia))
 ·rcases cN q with z | ⟨rfl,G,z2⟩
  ·rw[i (H.lt z)]at n;exact dv (H.iv z E n)
  ·rw[M]at n;refine gh ?_ n;cases e:nd y with
   |none=>rfl
   |some r =>
    obtain⟨R,f⟩:=H.Kl e E;rw[G]at f;cases f
 ·rcases cN q with z | ⟨_,_,z⟩
  ·obtain⟨r,f⟩:=H.pre z;exact⟨r,dv f⟩
  ·obtain⟨_,A⟩:=i9 z;obtain⟨r,f⟩:=H.Kl (H.top t) A;exact⟨r,dv f⟩
 ·rcases cN q with z | ⟨_,_,z⟩
  ·obtain⟨r,f⟩:=H.Kl z E;exact⟨r,dv f⟩
  ·cases e:nd x with
   |none=>exact⟨_,gh e (E.trans z)⟩
   |some r=>exact⟨r,dv e⟩
 ·rw[N,Zn (by exact Zg M0)];exact H.ML
 ·rw[ed]at b;have j:m<wd.length:=by
   have:m≠wd.length:=λe=>OT (by rw[e]);lia
  show ∃q,(S.lk++[Z 0]).getD m L=Z q/\_;rw[N,Zn (Zg j),ed];refine L2.ar λP_ P=>?_;obtain⟨r,r1,⟨r2,_⟩,r3,r4,r5⟩:=H.lk h0 j (λz=>nomatch z);refine P ?_;refine⟨r,r1,⟨by exact Yo r2,λz=>?_⟩,by rw[i r2,i j];exact r3,by rw[i r2,i j];exact r4,λy n J=>?_⟩
  ·have:=Zh z;lia
  ·rw[i j]at n;rw[i r2]at J;exact dv (r5 y n J)
 ·rw[e3 m d];rcases cN q with z | ⟨rfl,G,z2⟩
  ·have b:=H.lt z;rw[s m b,H.wy z c,H.wy z d];cases e:nd (x++[d]) with
   |some r =>
    rw[dv e,Zn];rintro⟨rfl,_,_,a⟩;rw[e]at a;cases a
   |none =>
    by_cases g:x++[d] <:+ W wd h++[c]
    ·refine L2.ar λP_ P=>?_;obtain⟨rfl,A⟩:=i9 g;obtain⟨m',m1,m2⟩:=H.Nz t (λz=>nomatch z) A;rw[z]at m1;cases m1;refine P ?_;rw[gh e g,Zp ⟨rfl,b,m2,e⟩,C]
    ·have:iz nd (W wd h++[c]) wd.length (x++[d])=L:=by
      unfold iz;rw[e];exact Zn g
     rw[this,Zn];rintro⟨rfl,_,a,_⟩;exact g (g9 d ((H.sf z).trans a))
  ·rw[Zn (λa=>YZ _ a.2.1),HX,Zp Y];have e:nd (x++[d])=L:=by
    cases e:nd (x++[d]) with
    |none=>rfl
    |some r =>
     obtain⟨R,f⟩:=H.pre e;rw[G]at f;cases f
   have:iz nd (W wd h++[c]) wd.length (x++[d])=L:=by
    unfold iz;rw[e];refine Zn λg=>?_;obtain⟨_,A⟩:=i9 g;obtain⟨r,f⟩:=H.Kl (H.top t) A;rw[G]at f;cases f
   rw[this];rfl
def I.fix{f m:Nat}(H:I (Z f) S nd wd)(j:f<wd.length)(b:m<wd.length)(h:W wd m <:+ W wd f)(a:(W wd m).length<(W wd f).length)(g:∀y,y <:+ W wd f->(W wd m).length<y.length->nd y=Z f):I L ⟨S.lg,S.lk.set f (Z m),S.wy⟩ nd wd:=by
 refine⟨H.wf.link (by rw[← H.len];exact b),H.len,H.lg,H.z,H.wz,H.lt,H.sf,H.top,H.iv,H.pre,H.Kl,?_,λ{n} l i _=>?_,H.wy⟩
 ·rw[g5,Zn (λz=>(λe=>by
  rw[e,H.wz]at a;simp at a) z.1)]
  exact H.ML
 ·show ∃q,(S.lk.set f (Z m)).getD n L=Z q/\_;rw[g5];by_cases e:f=n
  ·subst e;rw[Zp ⟨rfl,(by rw[H.wf.lk,← H.len];exact j)⟩];exact⟨m,rfl,⟨b,λz=>nomatch z⟩,h,a,g⟩
  ·rw[Zn (λz=>e z.1)];obtain⟨r,r1,⟨r2,_⟩,d⟩:=H.lk l i (λz=>e (Zh z).symm);exact⟨r,r1,⟨r2,λz=>nomatch z⟩,d⟩
end
end AU
end
section
namespace AU
structure Nu(nd G1:Wd->Option Nat)(w:Wd):Prop where
 eq:∀{x y m n},G1 x=some m->G1 y=some n->(m=n↔nd x=nd y/\(x <:+ w↔y <:+ w))
section
def I.MO(H:I fr S nd wd){n c:Nat}(t:n<wd.length)(R:Z n≠fr)(U:97<=c/\c<=122)(s:gW (S.wy.getD n []) c=Z a)(j:Z a≠fr)(o:fr≠Z wd.length)(Q:(W wd n).length<1000) :
  ∃i r p e,Ko S n c=Z (i,r)/\I fr i p e/\r<e.length/\Z r≠fr/\W e r=W wd n++[c]/\(∀m,m<wd.length->W e m=W wd m)/\wd.length<=e.length/\e.length<=wd.length+1 ∧
   (∀x,(∃m,p x=Z m) ↔ ∃m,nd x=Z m)/\Nu nd p (W wd n++[c])/\∀x f,f≠a->nd x=Z f->p x=Z f:=by
 have hw:=H.way t s;have hold:=H.lt hw;have G:=H.sf hw;have lw:(W wd n++[c]).length=(W wd n).length+1:=by rw[Zt];rfl
 by_cases v:S.lg.getD a 0=S.lg.getD n 0+1
 ·have u:W wd a=W wd n++[c]:=by
   have:=v;rw[H.lg a hold,H.lg n t]at this;exact(G.eq_of_length (by rw[lw,this])).symm
  refine⟨S,a,nd,wd,?_,H,hold,j,u,λm _=>rfl,Zm _,Xm _,λx=>Iff.rfl,⟨λ{x y m k} d b=>?_⟩,λx f _ h=>h⟩
  ·unfold Ko;rw[s,Zs,Zp v]
  ·constructor
   ·rintro rfl;exact⟨by rw[d,b],λh=>by rw[← u]at h ⊢;exact H.all hold j d b h,λh=>by rw[← u]at h ⊢;exact H.all hold j b d h⟩
   ·rintro⟨h,_⟩;rw[d,b]at h;exact Zh h
 ·obtain⟨i,e1,w⟩:=H.split t R U s j o v Q;have E:W (wd++[W wd n++[c]]) wd.length=W wd n++[c]:=(bP wd _ _ _).trans (Zp Y);have ed:(wd++[W wd n++[c]]).length=wd.length+1:=by rw[Zt];rfl
  have inv:∀{x m},iG nd a ((W wd n).length+1) wd.length x=Z m->(m=wd.length/\nd x=Z a/\x.length<=(W wd n).length+1)\/nd x=Z m:=λ{x m} h=>by
   unfold iG at h;split at h
   ·rename_i q;cases h;exact .inl ⟨rfl,q.1,q.2⟩
   ·exact .inr h
  have F:∀{x},nd x=Z a->(x.length<=(W wd n).length+1↔x <:+ W wd n++[c]):=λ{x} h=>⟨λP=>di (H.sf h) G (by rw[lw];exact P),λg=>by have:=g.length_le;rw[lw]at this;exact this⟩
  refine⟨i,S.lg.length,_,_,e1,w,by rw[ed,← H.len];exact Z6 _,by rw[← H.len];exact λz=>o z.symm,by rw[← H.len];exact E,(λm N=>(bP wd _ _ m).trans (Zn (Zg N))),by lia,by exact Xu ed,λx=>⟨λ⟨m,h⟩=>(inv h).elim (λz=>⟨_,z.2.1⟩) λz=>⟨_,z⟩,λ⟨m,h⟩=>?_⟩,⟨λ{x y m k} d b=>?_⟩,λx f X h=>?_⟩
  ·unfold iG;split
   ·exact⟨_,rfl⟩
   ·exact⟨m,h⟩
  ·constructor
   ·rintro rfl;have A:wd.length<(wd++[W wd n++[c]]).length:=by lia
    have D:=λh=>w.all A (λz=>o z.symm) d b h;have C:=λh=>w.all A (λz=>o z.symm) b d h;rw[E]at D C;refine⟨?_,D,C⟩;rcases inv d with⟨z1,J,_⟩ | z
    ·rcases inv b with⟨_,M,_⟩ | y
     ·rw[J,M]
     ·have:=H.lt y;lia
    ·rcases inv b with⟨y1,_,_⟩ | y
     ·have:=H.lt z;lia
     ·rw[z,y]
   ·rintro⟨h,g⟩;have:iG nd a ((W wd n).length+1) wd.length x=iG nd a ((W wd n).length+1) wd.length y:=by
     unfold iG;rw[h];by_cases q:nd y=Z a
     ·have e1:=F (by rw[h,q]);have e2:=F q;by_cases l:y.length<=(W wd n).length+1
      ·rw[Zp ⟨q,e1.mpr (g.mpr (e2.mp l))⟩,Zp ⟨q,l⟩]
      ·rw[Zn (λz=>l (e2.mpr (g.mp (e1.mp z.2)))),Zn (λz=>l z.2)]
     ·rw[Zn (λz=>q z.1),Zn (λz=>q z.1)]
    rw[d,b]at this;exact Zh this
  ·unfold iG;rw[Zn (λz=>X (by rw[h]at z;exact Zh z.1))];exact h
end
section
def I.step(H:I L S nd wd)(G:h<wd.length)(hc:97<=c/\c<=122)(hk:(W wd h).length+1<1000) :
  ∃S' r w o,hb S h c=Z (S',r)/\I L S' w o/\r<o.length/\W o r=W wd h++[c]/\(∀m,m<wd.length->W o m=W wd m)/\wd.length<=o.length/\o.length<=wd.length+2 ∧
   (∀x,(∃m,w x=Z m)↔(∃m,nd x=Z m)\/x <:+ W wd h++[c])/\Nu nd w (W wd h++[c]):=by
 cases hg:gW (S.wy.getD h []) c with
 |some old =>
  refine L2.ar λP_ E=>?_;obtain⟨S',r,w,o,e,H',h1,_,h2,h3,h4,h5,h6,h7,_⟩:=H.MO G (λz=>nomatch z) hc hg (λz=>nomatch z) (λz=>nomatch z) (by exact Nat.lt_of_succ_lt hk);refine E ?_;refine⟨S',r,w,o,?_,H',h1,h2,h3,h4,by exact Nat.le_succ_of_le h5,λx=>(h6 x).trans ⟨.inl,λz=>z.elim id λz=>H.Kl (H.way G hg) z⟩,h7⟩;unfold hb;rw[hg];exact e
 |none =>
  have J:=H.len.symm;refine L2.ar λP_ E=>?_;obtain⟨s,o',e1,v,k0,k1,k2,k3,k4⟩:=H.fresh G hc hg (by exact Nat.lt_of_succ_lt hk);refine E ?_;have WL:W (wd++[W wd h++[c]]) wd.length=W wd h++[c]:=(bP wd _ _ _).trans (Zp Y);have X:∀m,m<wd.length->W (wd++[W wd h++[c]]) m=W wd m:=λm hm=>(bP wd _ _ m).trans (Zn (Zg hm));have ed:(wd++[W wd h++[c]]).length=wd.length+1:=by rw[Zt];rfl
  have lw:(W wd h++[c]).length=(W wd h).length+1:=by rw[Zt];rfl
  have ex:∀x,(∃m,iz nd (W wd h++[c]) wd.length x=Z m)↔(∃m,nd x=Z m)\/x <:+ W wd h++[c]:=λx=>⟨λ⟨m,q⟩=>(cN q).elim (λz=>.inl ⟨_,z⟩) λz=>.inr z.2.2,λq=>by
   cases e:nd x with
   |some m=>exact⟨m,dv e⟩
   |none=>exact q.elim (λ⟨m,z⟩=>by rw[e]at z;cases z) λz=>⟨_,gh e z⟩⟩
  have same:∀{x y m n},iz nd (W wd h++[c]) wd.length x=Z m->iz nd (W wd h++[c]) wd.length y=Z n->(m=n↔nd x=nd y):=λ{x y m n} t j=>by
   rcases cN t with z | ⟨z1,z2,_⟩
   ·rcases cN j with i | ⟨y1,y2,_⟩
    ·rw[z,i];exact⟨λe=>by rw[e],λe=>Zh e⟩
    ·have:=H.lt z;refine⟨λe=>by lia,λe=>?_⟩;rw[z,y2]at e;cases e
   ·rcases cN j with i | ⟨y1,y2,_⟩
    ·have:=H.lt i;refine⟨λe=>by lia,λe=>?_⟩;rw[z2,i]at e;cases e
    ·exact⟨λ_=>by rw[z2,y2],λ_=>by rw[z1,y1]⟩
  have KI:∀{y},y <:+ W wd h++[c]->y≠[]->∀{q},nd y=Z q->∃i m,y=i++[c]/\i <:+ W wd h/\nd i=Z m/\m<wd.length/\W wd m <:+ W wd h/\(gW (S.wy.getD m []) c).isSome:=λ{y} d Hb {q} R=>by
   obtain⟨i,rfl,QP⟩:=yg d Hb;obtain⟨m,D,m2⟩:=H.Nz G (λz=>nomatch z) QP;exact⟨i,m,rfl,QP,D,H.lt D,m2,by rw[H.wy D c,R];rfl⟩
  unfold hb;rw[hg,Zn (by simp),e1];cases o' with
  |none =>
   have none_:∀{y},y <:+ W wd h++[c]->y≠[]->nd y=L:=λ{y} d Hb=>by
    cases e:nd y with
    |none=>rfl
    |some q =>
     obtain⟨i,m,_,_,_,m3,m4,C⟩:=KI d Hb e;rw[(k3 Y) m m3 m4]at C;cases C
   have H3:=v.fix (m:=0) (by lia) (by lia) (by rw[v.wz];exact XT) (by rw[v.wz,WL,lw];exact Nat.succ_pos _) (λy d g=>by
    rw[WL]at d;rw[v.wz]at g;exact gh (none_ d (λe=>by rw[e]at g;cases g)) d)
   have eS:(⟨s.lg,s.lk.set wd.length (Z 0),s.wy⟩:St)=s:=by
    have g:wd.length<s.lk.length:=by rw[v.wf.lk,← v.len,ed];exact Z6 _
    have:s.lk.set wd.length (Z 0)=s.lk:=by
     rw[Zr,Zq g,YD]at k0;rw[← k0];exact X9 g
    rw[this]
   rw[eS]at H3;refine⟨s,S.lg.length,_,_,rfl,H3,by rw[ed,J];exact Z6 _,by rw[J];exact WL,X,by lia,by lia,ex,⟨λ{x y m n} t j=>?_⟩⟩;rw[same t j];refine⟨λe=>⟨e,?_⟩,λe=>e.1⟩;have key:∀{x y m n},iz nd (W wd h++[c]) wd.length x=Z m->iz nd (W wd h++[c]) wd.length y=Z n->nd x=nd y->x <:+ W wd h++[c]->y <:+ W wd h++[c]:=λ{x y m n} t j e hx=>by
    rcases cN j with z | z
    ·rw[z]at e;by_cases L6:x=[]
     ·subst L6;rw[H.z]at e;cases e;rw[H.zero z];exact XT
     ·rw[none_ hx L6]at e;cases e
    ·exact z.2.2
   exact⟨key t j e,key j t e.symm⟩
  |some p =>
   refine L2.ar λP_ E=>?_;obtain⟨A,P,p3,p4⟩:=k4 p Y;obtain⟨old,U⟩:=YH.mp p3;have Tq:gW (s.wy.getD p []) c=Z old:=by rw[k2 p A p3];exact U
   have QI:=H.way A U;have hold:=H.lt QI;have ph:(W wd p).length<(W wd h).length:=by
    rcases Nat.lt_or_eq_of_le P.length_le with l | l
    ·exact l
    ·have:=H.inj A G (P.eq_of_length l);rw[this,hg]at U;cases U
   obtain⟨S3,r,w,o,f1,H3,f2,Vk,f3,f4,f5,f6,f7,f8,f9⟩:=v.MO (n:=p) (c:=c) (by lia) (λz=>by have:=Zh z;lia) hc Tq (λz=>by have:=Zh z;lia) (λz=>by have:=Zh z;lia) (by rw[X p A];lia);refine E ?_;rw[X p A]at f3 f8;have OI:(W wd p++[c]).length=(W wd p).length+1:=by rw[Zt];rfl
   have N6:W o wd.length=W wd h++[c]:=by rw[f4 _ (by lia),WL]
   have none_:∀{y},y <:+ W wd h++[c]->(W wd p).length+1<y.length->nd y=L:=λ{y} d g=>by
    cases e:nd y with
    |none=>rfl
    |some q =>
     obtain⟨i,m,rfl,D,m2,m3,m4,C⟩:=KI d (λe=>by rw[e]at g;cases g) e;have l1:=(H.sf m2).length_le;rw[Zt,Za]at g;rw[p4 m m3 m4 (by lia)]at C;cases C
   refine⟨⟨S3.lg,S3.lk.set S.lg.length (Z r),S3.wy⟩,S.lg.length,w,o,?_,by rw[J];exact(H3.fix (f:=wd.length) (m:=r) (by lia) f2 (by rw[f3,N6];exact g9 c P) (by rw[f3,N6,OI,lw];exact Nat.succ_lt_succ ph) (λy d g=>by
    rw[N6]at d;rw[f3,OI]at g;exact f9 y wd.length (by exact Xi hold) (gh (none_ d g) d))),by rw[J];lia,by rw[J];exact N6,λm hm=>by rw[f4 m (by lia),X m hm],by lia,by lia,λx=>(f7 x).trans (ex x),⟨λ{x y m n} t j=>?_⟩⟩
   ·show (Ko s p c).map _=_;rw[f1];rfl
   ·rw[f8.eq t j];obtain⟨D,N⟩:=(f7 x).mp ⟨m,t⟩;obtain⟨n1,M⟩:=(f7 y).mp ⟨n,j⟩;have e1:iz nd (W wd h++[c]) wd.length x=iz nd (W wd h++[c]) wd.length y↔nd x=nd y:=by
     rw[N,M];exact⟨λe=>(same N M).mp (Zh e),λe=>by rw[(same N M).mpr e]⟩
    rw[e1];have sw:=g9 c P;have Q:∀{z q},nd z=Z q->(z <:+ W wd h++[c]↔z <:+ W wd p++[c]):=λ{z q} F=>⟨λa=>di a sw (by
     rw[OI];refine ZP λb=>?_;rw[none_ a b]at F;cases F),λa=>a.trans sw⟩
    have un:∀{z q},nd z=L->iz nd (W wd h++[c]) wd.length z=Z q->z <:+ W wd h++[c]/\¬z <:+ W wd p++[c]:=λ{z q} F a=>by
     rcases cN a with b | b
     ·rw[F]at b;cases b
     ·refine⟨b.2.2,λa=>?_⟩;obtain⟨q',R⟩:=H.Kl QI a;rw[F]at R;cases R
    refine⟨λ⟨a,b⟩=>⟨a,?_⟩,λ⟨a,b⟩=>⟨a,?_⟩⟩
    ·cases u:nd x with
     |some q=>rw[Q u,Q (by rw[← a,u])];exact b
     |none =>
      exact⟨λ_=>(un (show nd y=L by rw[← a,u]) M).1,λ_=>(un u N).1⟩
    ·cases u:nd x with
     |some q=>rw[← Q u,← Q (by rw[← a,u])];exact b
     |none =>
      exact⟨λz=>absurd z (un u N).2,λz=>absurd z (un (show nd y=L by rw[← a,u]) M).2⟩
end
structure K(P:Wd->Prop)(S:St)(nd:Wd->Option Nat)(wd:List Wd):Prop where
 i:I none S nd wd
 nil:P []
 some:∀x,(∃m,nd x=some m) ↔ ∃p,P p/\x <:+ p
 eq:∀{x y m n},nd x=.some m->nd y=.some n->(m=n ↔ ∀p,P p->(x <:+ p↔y <:+ p))
def K.congr(H:K P S b a)(h:∀p,P p↔Q p):K Q S b a:=by
 have:P=Q:=funext λp=>propext (h p);rw[← this];exact H
noncomputable def OG(x:Wd):Option Nat:=if x=[] then Z 0 else L
def fD(h:OG x=Z n):x=[]/\n=0:=by
 unfold OG at h;split at h
 ·exact⟨by assumption,(Zh h).symm⟩
 ·cases h
def K0:K (λp=>p=[]) S0 OG [[]]:=by
 refine⟨⟨Bq,rfl,λn d=>?_,rfl,rfl,λ{x n} h=>?_,λ{x n} h=>?_,λ{n} d=>?_,λ{x y n} h b a=>?_,λ{x c n} h=>?_,λ{x y n} h b=>?_,rfl,λ{n} b a=>?_,λ{x n} h c=>?_⟩,rfl,λx=>?_,λ{x y m n} b a=>?_⟩
 ·have:n=0:=Nat.lt_one_iff.mp d;subst this;rfl
 ·rw[(fD h).2];exact Nat.one_pos
 ·rw[(fD h).1];exact XT
 ·have:n=0:=Nat.lt_one_iff.mp d;subst this;rfl
 ·have e:=(fD h).2;subst e;have:y=[]:=Y5.mp a;subst this;rfl
 ·have:=(fD h).1;exact absurd this (by simp)
 ·have e:=(fD h).1;subst e;have:x=[]:=Y5.mp b;subst this;exact⟨0,rfl⟩
 ·have:n<1:=a;lia
 ·obtain⟨rfl,rfl⟩:=(fD h)
  rfl
 ·constructor
  ·rintro⟨m,h⟩;exact⟨[],rfl,by rw[(fD h).1];exact XT⟩
  ·rintro⟨p,rfl,h⟩;have:x=[]:=Y5.mp h;subst this;exact⟨0,rfl⟩
 ·obtain⟨rfl,rfl⟩:=fD b;obtain⟨rfl,rfl⟩:=fD a;exact⟨λ_ _ _=>Iff.rfl,λ_=>rfl⟩
section
theorem K.step(H:K P S nd wd)(C:h<wd.length)(D:97<=c/\c<=122)(A:(W wd h).length+1<1000) :
  ∃j r l f,hb S h c=.some (j,r)/\K (λp=>P p\/p=W wd h++[c]) j l f/\r<f.length/\W f r=W wd h++[c]/\(∀m,m<wd.length->W f m=W wd m)/\wd.length<=f.length/\f.length<=wd.length+2:=by
 refine L2.ar λR v=>?_;obtain⟨j,r,l,f,e,Q,N,M,J,G,F,u,E⟩:=H.i.step C D A;refine v ?_;refine⟨j,r,l,f,e,⟨Q,.inl H.nil,λx=>?_,λ{x y m n} t s=>?_⟩,N,M,J,G,F⟩
 ·rw[u,H.some];constructor
  ·rintro (⟨p,a,b⟩ | a)
   ·exact⟨p,.inl a,b⟩
   ·exact⟨_,.inr Y,a⟩
  ·rintro⟨p,a | rfl,b⟩
   ·exact .inl ⟨p,a,b⟩
   ·exact .inr b
 ·rw[E.eq t s];have un:∀{z q},l z=.some q->nd z=L->z <:+ W wd h++[c]/\∀p,P p->¬z <:+ p:=λ{z q} a b=>⟨((u z).mp ⟨q,a⟩).elim (λ⟨m,x⟩=>by rw[b]at x;cases x) id,λp d w=>by
   obtain⟨m,x⟩:=(H.some z).mpr ⟨p,d,w⟩;rw[b]at x;cases x⟩
  have old:nd x=nd y ↔ ∀p,P p->(x <:+ p↔y <:+ p):=by
   cases ex:nd x with
   |some a =>
    cases g:nd y with
    |some b=>exact⟨λe=>(H.eq ex g).mp (Zh e),λe=>by rw[(H.eq ex g).mpr e]⟩
    |none =>
     refine⟨λe=>(nomatch e),λe=>?_⟩;obtain⟨p,d,o⟩:=(H.some x).mp ⟨a,ex⟩;exact absurd ((e p d).mp o) ((un s g).2 p d)
   |none =>
    cases g:nd y with
    |some b =>
     refine⟨λe=>(nomatch e),λe=>?_⟩;obtain⟨p,d,o⟩:=(H.some y).mp ⟨b,g⟩;exact absurd ((e p d).mpr o) ((un t ex).2 p d)
    |none=>exact⟨λ_ p d=>⟨λz=>absurd z ((un t ex).2 p d),λz=>absurd z ((un s g).2 p d)⟩,λ_=>rfl⟩
  rw[old];constructor
  ·rintro⟨a,b⟩ p (d | rfl)
   ·exact a p d
   ·exact b
  ·intro a;exact⟨λp d=>a p (.inl d),a _ (.inr Y)⟩
end
def K.grow:∀(w:W7){P:Wd->Prop}{S:St}{nd:Wd->Option Nat}{b:List Wd}(H:K P S nd b){h:Nat},h<b.length->P (W b h)->(∀c∈w,97<=c/\c<=122)->(W b h).length+w.length<1000 →
  ∃o r M e,hg S h w=.some (o,r)/\K (λp=>P p\/∃v,v <+: w/\p=W b h++v) o M e/\r<e.length/\W e r=W b h++w/\(∀m,m<b.length->W e m=W b m)/\b.length<=e.length/\e.length<=b.length+2*w.length:=by
 intro w
 induction w with
 |nil =>
  intro P S nd b H h i g hw l;refine⟨S,h,nd,b,rfl,H.congr λp=>⟨.inl,?_⟩,i,(ZJ _).symm,λ_ _=>rfl,Zm _,Zm _⟩;rintro (a | ⟨v,a,rfl⟩)
  ·exact a
  ·rw[List.prefix_nil.mp a,ZJ];exact g
 |cons c w s =>
  intro P S nd b H h i g hw l;rw[Zf]at l;refine L2.ar λX q=>?_;obtain⟨U,r1,Y,R,e1,J,A,f,z,n,Q⟩:=H.step i (hw c Zw) (by lia);obtain⟨D,r2,F,E,e2,G,y,x,u,t,N⟩:=s J A (.inr f) (λd hd=>hw d (Zx _ hd)) (by rw[f,Zt,Za];lia);refine q ?_;refine⟨D,r2,F,E,?_,G.congr λp=>?_,y,?_,λm j=>by rw[u m (by exact ZS j n),z m j],by exact ZY n t,by rw[Zf];lia⟩
  ·show (hb S h c).bind _=_;rw[e1];exact e2
  ·rw[f];constructor
   ·rintro ((a | rfl) | ⟨v,a,rfl⟩)
    ·exact .inl a
    ·exact .inr ⟨[c],Wz.mpr ⟨rfl,List.nil_prefix⟩,rfl⟩
    ·exact .inr ⟨c :: v,Wz.mpr ⟨rfl,a⟩,by rw[Z2];rfl⟩
   ·rintro (a | ⟨v,a,rfl⟩)
    ·exact .inl (.inl a)
    ·cases v with
     |nil=>rw[ZJ];exact .inl (.inl g)
     |cons d v =>
      obtain⟨rfl,C⟩:=Wz.mp a;exact .inr ⟨v,C,by rw[Z2];rfl⟩
  ·rw[x,f,Z2];rfl
def mB(S:St):List Wd->Option St
 |[]=>Z S
 |t :: b=>(hg S 0 t).bind λz=>mB z.1 b
def K.book:∀(b:List Wd){P:Wd->Prop}{S:St}{nd:Wd->Option Nat}{d:List Wd}(H:K P S nd d),(∀t∈b,∀c∈t,97<=c/\c<=122)->(∀t∈b,t.length<1000) →
  ∃l A g,mB S b=.some l/\K (λp=>P p\/∃t∈b,p <+: t) l A g/\d.length<=g.length/\g.length<=d.length+2*(b.map List.length).sum:=by
 intro b
 induction b with
 |nil =>
  intro P S nd d H _ _;refine⟨S,nd,d,rfl,H.congr λp=>⟨.inl,?_⟩,Zm _,YS _ _⟩;rintro (a | ⟨t,f,_⟩)
  ·exact a
  ·cases f
 |cons t b n =>
  intro P S nd d H j h;refine L2.ar λN m=>?_;obtain⟨M,r1,Q,J,e1,y,G,F,E,q,D⟩:=H.grow t (H.i.lt H.i.z) (by rw[H.i.wz];exact H.nil) (j t Zw) (by rw[H.i.wz];have:=h t Zw;simpa using this);obtain⟨r,w,s,e2,x,o,C⟩:=n y (λt f=>j t (Zx _ f)) (λt f=>h t (Zx _ f));refine m ?_;refine⟨r,w,s,?_,x.congr λp=>?_,by exact ZY q o,by rw[Zi,XX];lia⟩
  ·show (hg S 0 t).bind _=_;rw[e1];exact e2
  ·rw[H.i.wz];constructor
   ·rintro ((a | ⟨v,a,rfl⟩) | ⟨u,e,a⟩)
    ·exact .inl a
    ·exact .inr ⟨t,Zw,a⟩
    ·exact .inr ⟨u,Zx _ e,a⟩
   ·rintro (a | ⟨u,e,a⟩)
    ·exact .inl (.inl a)
    ·rcases Zk.mp e with rfl | e
     ·exact .inl (.inr ⟨p,a,rfl⟩)
     ·exact .inr ⟨u,e,a⟩
noncomputable def Hd(b:List Wd)(p:Wd):Prop:=p=[]\/∃t∈b,p <+: t
def K.of(b:List Wd)(f:∀t∈b,∀c∈t,97<=c/\c<=122)(d:∀t∈b,t.length<1000):∃S nd a,mB S0 b=.some S/\K (Hd b) S nd a/\a.length<=1+2*(b.map List.length).sum:=by
 obtain⟨S,nd,a,e,H,_,l⟩:=K0.book b f d;exact⟨S,nd,a,e,H,l⟩
def sk(w:List (Nat×Nat)):W7:=(List.range' 97 26).filter λc=>(gW w c).isSome
def visit(w:List (Nat×Nat)):W7->W7->W7
 |[],met=>met
 |c :: r,met=>visit w r (if (gW w c).getD 0∈met then met else met++[(gW w c).getD 0])
def IW(S:St):Nat->W7->Nat->Option (W7)
 |k,met,d=>if d<met.length then (match k with
  |0=>L
  |k+1=>IW S k (visit (S.wy.getD (met.getD d 0) []) (sk (S.wy.getD (met.getD d 0) [])) met) (d+1)) else Z met
def steps(S:St)(a:W7)(n:Nat):List (Nat×Nat):=(sk (S.wy.getD n [])).map λc=>(c,a.idxOf ((gW (S.wy.getD n []) c).getD 0))
noncomputable abbrev Row:=Nat×Nat×Option Nat×List (Nat×Nat)
def row(S:St)(a:W7)(n:Nat):Row:=match S.lk.getD n L with
 |none=>(0,0,L,steps S a n)
 |some l=>(S.lg.getD l 0+1,S.lg.getD n 0,Z (a.idxOf l),steps S a n)
def tab(S:St)(a:W7):List Row:=a.map (row S a)
section
def qk(h:c∈sk w):∃m,gW w c=Z m:=YH.mp (XS.mp h).2
theorem nq(hw:∀c m,gW w c=Z m->m<N):∀(r met:W7),(∀c∈r,∃m,gW w c=Z m)->(∀x∈met,x<N)->∀x∈visit w r met,x<N
 |[],met,_,a=>a
 |c :: r,met,b,a=>by
  refine nq hw r _ (λd hd=>b d (Zx _ hd)) ?_;obtain⟨m,e⟩:=b c Zw;rw[e,YD];split
  ·exact a
  ·intro x g;rcases Zd.mp g with h | h
   ·exact a x h
   ·rw[Zj.mp h];exact hw c m e
def getD_mem{l:W7}(h:d<l.length):l.getD d 0∈l:=by
 rw[Zr,Zq h];exact Z7 h
end
theorem kN{w:List (Nat×Nat)}:∀(r met:W7),∃l,visit w r met=met++l
 |[],met=>⟨[],(ZJ _).symm⟩
 |c :: r,met=>by
  obtain⟨l,e⟩:=kN (w:=w) r (if (gW w c).getD 0∈met then met else met++[(gW w c).getD 0]);show ∃l,visit w r _=_;rw[e];split
  ·exact⟨l,rfl⟩
  ·exact⟨_,Z2 _ _ _⟩
theorem nP{w:List (Nat×Nat)}:∀(r met:W7),met.Nodup->(visit w r met).Nodup
 |[],met,h=>h
 |c :: r,met,h=>by
  refine nP (w:=w) r _ ?_;split
  ·exact h
  ·rename_i q;rw[ZL];refine⟨h,by simp,λa d b hb e=>q ?_⟩;rw[Zj.mp hb]at e;rw[← e];exact d
theorem oG{w:List (Nat×Nat)}:∀(r met:W7),∀c∈r,(gW w c).getD 0∈visit w r met
 |d :: r,met,c,a=>by
  rcases Zk.mp a with rfl | a
  ·obtain⟨l,e⟩:=kN (w:=w) r (if (gW w c).getD 0∈met then met else met++[(gW w c).getD 0]);show _∈visit w r _;rw[e];refine Yv _ ?_;split
   ·assumption
   ·exact ZM _ Zw
  ·exact oG r _ c a
def x6(d:∀p∈w,97<=p.1/\p.1<=122)(h:gW w c=Z m):c∈sk w:=by
 refine XS.mpr ⟨?_,by rw[h];rfl⟩;obtain⟨p,a,_⟩:=Zu.mp h;have:=d p (List.mem_of_find?_eq_some a);have b:p.1=c:=by simpa using(List.find?_some a)
 rw[b]at this;rw[List.mem_range'_1];lia
def Dc(j:WF S):∀(k:Nat)(met:W7)(d:Nat),met.Nodup->(∀x∈met,x<S.lg.length)->d<=met.length->S.lg.length<=k+d->(∀i,i<d->∀c m,gW (S.wy.getD (met.getD i 0) []) c=Z m->m∈met) →
  ∃l,IW S k met d=Z (met++l)/\(met++l).Nodup/\(∀x∈met++l,x<S.lg.length)/\∀n∈met++l,∀c m,gW (S.wy.getD n []) c=Z m->m∈met++l:=by
 intro k;have fin:∀(met:W7)(d:Nat),¬d<met.length->d<=met.length->(∀i,i<d->∀c m,gW (S.wy.getD (met.getD i 0) []) c=Z m->m∈met)->∀n∈met,∀c m,gW (S.wy.getD n []) c=Z m->m∈met:=by
  intro met d f b h n s c m e;obtain⟨i,hi,q⟩:=List.mem_iff_getElem.mp s;refine h i (by lia) c m ?_;have:met.getD i 0=n:=by rw[Zr,Zq hi,q];rfl
  rw[this];exact e
 induction k with
 |zero =>
  intro met d nd lt hd t h;have y:met.length<=S.lg.length:=by
   have:=sub_len met (List.range S.lg.length) nd λx r=>YX.mpr (lt x r)
   rwa [Z1]at this
  have a:¬d<met.length:=by lia
  refine⟨[],?_,?_⟩
  ·unfold IW;rw[Zn a,ZJ]
  ·rw[ZJ];exact⟨nd,lt,fin met d a hd h⟩
 |succ k p =>
  intro met d nd lt hd t h;by_cases a:d<met.length
  ·obtain⟨o,e1⟩:=kN (sk (S.wy.getD (met.getD d 0) [])) met;obtain⟨l,e,f,b,g⟩:=p (visit (S.wy.getD (met.getD d 0) []) (sk (S.wy.getD (met.getD d 0) [])) met) (d+1) (nP _ _ nd) (nq (λc m e=>j.on _ c m e) _ _ (λc u=>qk u) lt) (by rw[e1,Zt];lia) (by lia) (λi hi c m e=>by
    have v:(visit (S.wy.getD (met.getD d 0) []) (sk (S.wy.getD (met.getD d 0) [])) met).getD i 0=met.getD i 0:=by
     rw[e1,Zr,Zr,Z5 (by lia)]
    rw[v]at e;by_cases q:i=d
    ·subst q;have:=oG (w:=S.wy.getD (met.getD i 0) []) (sk (S.wy.getD (met.getD i 0) [])) met c (x6 (j.Mr _).2 e);rw[e]at this;exact this
    ·rw[e1];exact Yv _ (h i (by lia) c m e))
   rw[e1,Z2]at f b g;refine⟨o++l,?_,f,b,g⟩;unfold IW;rw[Zp a];show IW S k _ (d+1)=_;rw[e,e1,Z2]
  ·refine⟨[],?_,?_⟩
   ·unfold IW;rw[Zn a,ZJ]
   ·rw[ZJ];exact⟨nd,lt,fin met d a hd h⟩
def AG{α:Type}{p:List α->Prop}(h0:p [])(h1:∀l a,p l->p (l++[a]))(l:List α):p l:=by
 have:∀l:List α,p l.reverse:=by
  intro l
  induction l with
  |nil=>exact h0
  |cons a l ih=>rw[List.reverse_cons];exact h1 _ a ih
 rw[← List.reverse_reverse l];exact this _
def K.met(H:K P S nd wd){k:Nat}(hk:wd.length<=k):∃l,IW S k [0] 0=Z (0 :: l)/\(0 :: l).Nodup/\(∀x,x∈0 :: l↔x<wd.length)/\(0 :: l).length=wd.length:=by
 have L:=H.i.len.symm;obtain⟨l,e,h1,h2,h3⟩:=Dc H.i.wf k [0] 0 (by simp) (λx hx=>by rw[Zj.mp hx];exact H.i.wf.pos) (Yw _) (by lia) (λi hi=>absurd hi (Nat.not_lt_zero _));have h0:∀(x:Wd) n,nd x=Z n->n∈0 :: l:=by
  intro x
  induction x using AG with
  |h0=>intro n e;rw[H.i.z]at e;cases e;exact Zw
  |h1 x c ih =>
   intro n e;obtain⟨m,hm⟩:=H.i.pre e;exact h3 m (ih m hm) c n (by rw[H.i.wy hm];exact e)
 have hx:∀x,x∈0 :: l↔x<wd.length:=λx=>⟨λz=>by rw[← L];exact h2 x z,λz=>h0 _ x (H.i.top z)⟩
 refine⟨l,e,h1,hx,Nat.le_antisymm ?_ ?_⟩
 ·have:=sub_len (0 :: l) (List.range wd.length) h1 λx z=>YX.mpr ((hx x).mp z)
  rwa [Z1]at this
 ·have:=sub_len (List.range wd.length) (0 :: l) List.nodup_range λx z=>(hx x).mpr (YX.mp z)
  rwa [Z1]at this
end AU
end
section
namespace T51
open VS AU
def As(w:List (Nat×Nat))(c:Nat):c∈w.map (·.1)↔(gW w c).isSome=B:=by
 rw[← BG,XY,Z0];exact⟨λ⟨p,b,a⟩=>⟨p,b,by rw[a];exact beq_self_eq_true c⟩,λ⟨p,b,a⟩=>⟨p,b,by simpa using a⟩⟩
def tY{w:List (Nat×Nat)}(a:(w.map (·.1)).Nodup)(b:∀p∈w,97<=p.1/\p.1<=122):(sk w).Perm (w.map (·.1)):=by
 refine(XH ?_ a).mpr λc=>?_
 ·exact List.Nodup.sublist List.filter_sublist List.nodup_range'
 ·rw[As];constructor
  ·intro h;exact(XS.mp h).2
  ·intro h;obtain⟨m,e⟩:=YH.mp h;exact x6 b e
def xT{w:List (Nat×Nat)}(e:(w.map (·.1)).Nodup)(d:∀p∈w,97<=p.1/\p.1<=122):gM [(m,Gc w)]=Z (.fr,.lst ((sk w).map λc=>T.str [c])):=by
 show ((strs? ((w.map λp=>(T.str [p.1],T.int (p.2:Int))).map (·.1))).bind _)=_;have e1:(w.map λp=>(T.str [p.1],T.int (p.2:Int))).map (·.1)=(w.map (·.1)).map λc=>T.str [c]:=by
  rw[ZF,ZF];rfl
 rw[e1,strs_map (λc=>[c]),Zs,Zp]
 ·have:(sk w).map (λc=>[c])=d7 ((w.map (·.1)).map λc=>[c]):=by
   refine kQ ((tY e d).map _) ?_;rw[Y8];refine List.Pairwise.imp ?_ (List.Pairwise.filter _ (List.pairwise_lt_range' (s:=97) (n:=26)));intro a b j h;rcases Y7.mp h with h | ⟨_,h⟩
   ·omega
   ·exact absurd h (List.not_lt_nil _)
  rw[← this,ZF];rfl
 ·refine⟨?_,ZE.mpr ?_⟩
  ·rw[Zy,← (tY e d).length_eq];have:(sk w).length<=(List.range' 97 26).length:=Xa _ _;rw[List.length_range']at this;omega
  intro s f;obtain⟨c,i,rfl⟩:=Z0.mp f;obtain⟨p,g,rfl⟩:=Z0.mp i;have:=d p g;show (decide (1<=dq)&&(decide (p.1<1114112)&&B))=B;rw[decide_eq_true (show p.1<1114112 by omega)];rfl
noncomputable def nE:Nat->W7->List (T×T)
 |_,[]=>[]
 |k,n :: r=>(T.int (n:Int),T.int (k:Int)) :: nE (k+1) r
theorem wH:∀(met:W7)(k:Nat),(nE k met).length=met.length
 |[],_=>rfl
 |_ :: r,k=>by rw[nE,Zf,Zf,wH r]
theorem p5:∀(met:W7)(k:Nat),(nE k met).map (·.1)=met.map λ(n:Nat)=>T.int (n:Int)
 |[],_=>rfl
 |_ :: r,k=>by rw[nE,Zi,Zi,p5 r]
theorem yG:∀(met:W7)(k n:Nat),nE k (met++[n])=nE k met++[(T.int (n:Int),T.int ((k+met.length:Nat):Int))]
 |[],k,n=>rfl
 |m :: r,k,n=>by
  rw[YR,nE,nE,yG r (k+1) n,Zf,YR];rw[show k+1+r.length=k+(r.length+1) by omega]
def Fc(a b:Nat):eqT (.int (a:Int)) (.int (b:Int))=(a==b):=by
 simp only[eqT];by_cases h:a=b
 ·simp[h]
 ·have d:¬(a:Int)=(b:Int):=by omega
  rw[ZO.mpr h,ZO.mpr d]
theorem pP:∀(met:W7)(k n:Nat),ft (nE k met) (.int (n:Int))=if n∈met then Z (T.int ((k+met.idxOf n:Nat):Int)) else L
 |[],_,_=>rfl
 |m :: r,k,n=>by
  show ((((T.int (m:Int),T.int (k:Int)) :: nE (k+1) r).find? λp=>eqT p.1 (.int (n:Int))).map (·.2))=_;rw[Ys];simp only[Fc];by_cases h:m=n
  ·subst h;simp[List.idxOf_cons]
  ·have hb:(m==n)=O:=ZO.mpr h;have a:=pP r (k+1) n;unfold ft at a;simp only[hb];rw[a,List.idxOf_cons,hb];by_cases q:n∈r
   ·rw[Zp q,Zp (Zx _ q)];show Z (T.int ((k+1+r.idxOf n:Nat):Int))=Z (T.int ((k+(r.idxOf n+1):Nat):Int));rw[show k+1+r.idxOf n=k+(r.idxOf n+1) by omega]
   ·rw[Zn q,Zn (λz=>(Zk.mp z).elim (λe=>h e.symm) q)]
def Cb(a:W7)(n:Nat)(h:n∉a):dput (nE 0 a) (.int (n:Int)) (.int (a.length:Int))=nE 0 (a++[n]):=by
 unfold dput;rw[Zn,yG]
 ·rw[Xj]
 ·intro z;obtain⟨p,b,e⟩:=XY.mp z;have:(ft (nE 0 a) (.int (n:Int))).isSome=B:=by
   unfold ft;rw[YJ,List.find?_isSome];exact⟨p,b,e⟩
  rw[pP,Zn h]at this;cases this
def nT(met:W7):T:=.dct 0 (nE 0 met)
noncomputable def mT(met:W7):T:=.lst (met.map λ(n:Nat)=>T.int (n:Int))
def Bj{m k:Md}{met:W7}{n:Nat}(h:a U=Z (m,nT met))(he:e U=Z (k,.int (n:Int))):e2 dy e a U=Z (.fr,.bl (decide (n∉met))):=e2v he h (by
 show (match (if B=B then Z (Md.fr,T.bl (ft (nE 0 met) (.int (n:Int))).isSome) else L) with | some (_,.bl b)=>some (Md.fr,T.bl (!b)) | _=>none)=_;rw[Zp Y,pP];by_cases q:n∈met
 ·rw[Zp q,ZK (λz=>z q)];rfl
 ·rw[Zn q,decide_eq_true q];rfl)
section
theorem wD{d:Nat}{ob:Vz}:∀(r met:W7)(z:Vz),(∀c∈r,∃m,gW w c=Z m)->met.length+r.length<16777216->∃a,forL (ba 5) bq (r.map λc=>T.str [c]) [ob,oc (nT met),oc (mT met),Q0 (d:Int),pc (Gc w),z]=Z (.nx [ob,oc (nT (visit w r met)),oc (mT (visit w r met)),Q0 (d:Int),pc (Gc w),a])
 |[],met,z,_,_=>⟨z,rfl⟩
 |c :: r,met,z,f,p=>by
  obtain⟨m,e⟩:=f c Zw;rw[Zf]at p;have hlen:(nE 0 met).length=met.length:=wH met 0;by_cases q:m∈met
  ·obtain⟨a,b⟩:=wD r met (Q2 ([c])) (λd hd=>f d (Zx _ hd)) (by omega);refine⟨a,?_⟩;have ev:visit w (c :: r) met=visit w r met:=by
    show visit w r (if (gW w c).getD 0∈met then met else met++[(gW w c).getD 0])=_;rw[e,YD,Zp q]
   rw[ev,Zi];refine(dU (U1:=[ob,oc (nT met),oc (mT met),Q0 (d:Int),pc (Gc w),Q2 ([c])]) Y ?_).trans b;unfold bq;refine iH (m:=.fr) ?_ Y;refine(Bj (m:=.bo) (k:=.fr) (met:=met) (n:=m) Y (vI (m:=.pu) (n:=.fr) (c:=c) (w:=w) Y Y e)).trans ?_;rw[ZK (λz=>z q)]
  ·obtain⟨a,b⟩:=wD r (met++[m]) (Q2 ([c])) (λd hd=>f d (Zx _ hd)) (by rw[Zt,Za];omega);refine⟨a,?_⟩;have ev:visit w (c :: r) met=visit w r (met++[m]):=by
    show visit w r (if (gW w c).getD 0∈met then met else met++[(gW w c).getD 0])=_;rw[e,YD,Zn q]
   rw[ev,Zi];refine(dU (U1:=[ob,oc (nT met),oc (mT met),Q0 (d:Int),pc (Gc w),Q2 ([c])]) Y ?_).trans b;unfold bq;refine Ks (m:=.fr) ?_ ?_
   ·refine(Bj (m:=.bo) (k:=.fr) (met:=met) (n:=m) Y (vI (m:=.pu) (n:=.fr) (c:=c) (w:=w) Y Y e)).trans ?_;rw[decide_eq_true q]
   ·have h:∀nn g:Vz,e2 HI (ab 4) (ab 5) [ob,nn,g,Q0 (d:Int),pc (Gc w),Q2 ([c])]=Z (.fr,.int (m:Int)):=λnn g=>vI (m:=.pu) (n:=.fr) (c:=c) (w:=w) Y Y e;have j:ue 1 (e2 HI (ab 4) (ab 5)) (eN cP (ae (ab 2) ag)) [ob,oc (nT met),oc (mT met),Q0 (d:Int),pc (Gc w),Q2 ([c])]=Z (.nx [ob,oc (nT (met++[m])),oc (mT met),Q0 (d:Int),pc (Gc w),Q2 ([c])]):=by
     have o:eN cP (ae (ab 2) ag) [ob,oc (nT met),oc (mT met),Q0 (d:Int),pc (Gc w),Q2 ([c])]=Z (.fr,.int (met.length:Int)):=fJ (xv (x:=(.bo,mT met)) Y Y) (by
      show Z (Md.fr,T.int (((met.map λ(n:Nat)=>T.int (n:Int)).length:Nat):Int))=_;rw[Zy])
     unfold ue;rw[o,Zs];show ((e2 HI (ab 4) (ab 5) [ob,oc (nT met),oc (mT met),Q0 (d:Int),pc (Gc w),Q2 ([c])]).bind _)=_;rw[h,Zs];show (if B=B/\B=B/\(nE 0 met).length<dq then Z (Out.nx [ob,oc (.dct 0 (dput (nE 0 met) (.int (m:Int)) (.int (met.length:Int)))),oc (mT met),Q0 (d:Int),pc (Gc w),Q2 ([c])]) else L)=_;rw[Zp ⟨rfl,rfl,by rw[hlen];show met.length<16777216;omega⟩,Cb met m q];rfl
    refine sq j ?_;refine(lA (i:=2) (l:=met.map λ(n:Nat)=>T.int (n:Int)) (v:=.int (m:Int)) Y (h _ _) (by rw[Zy];omega)).trans ?_;rw[show (met.map λ(n:Nat)=>T.int (n:Int))++[.int (m:Int)]=(met++[m]).map λ(n:Nat)=>T.int (n:Int) from by rw[Z3];rfl];rfl
end
def tK(w:List (Nat×Nat)):(sk w).length<=26:=by
 refine ZY (Xa _ _) ?_;rw[List.length_range'];exact Zm _
def yY{S:St}{a:W7}(b:a.Nodup)(d:∀x∈a,x<S.lg.length):a.length<=S.lg.length:=by
 have:=sub_len a (List.range S.lg.length) b λx e=>YX.mpr (d x e)
 rwa [Z1]at this
def DH(o:WF S)(J:S.lg.length<=100001):∀(k:Nat)(met:W7)(d:Nat)(g:W7),met.Nodup->(∀x∈met,x<S.lg.length)->IW S k met d=Z g->∀N,k<N->∀f a:Vz,∃j D E,
  fu (e2 oLt (ab 3) (eN cP (ae (ab 2) ag))) bV N [pc (pe S O),oc (nT met),oc (mT met),Q0 ((d:Nat):Int),f,a] =
   Z (.nx [pc (pe S O),oc (nT g),oc (mT g),pc j,D,E]):=by
 have cond:∀(met:W7)(d:Nat)(f a:Vz),e2 oLt (ab 3) (eN cP (ae (ab 2) ag)) [pc (pe S O),oc (nT met),oc (mT met),Q0 ((d:Nat):Int),f,a]=Z (.fr,.bl (decide (d<met.length))):=λmet d f a =>
  e2v (x:=(.fr,.int (d:Int))) Y (fJ (v:=(.fr,.int (met.length:Int))) (xv (x:=(.bo,mT met)) Y Y) (by
   show Z (Md.fr,T.int (((met.map λ(n:Nat)=>T.int (n:Int)).length:Nat):Int))=_;rw[Zy])) (by
   show Z (Md.fr,T.bl (decide ((d:Int)<(met.length:Int))))=_;rw[show decide ((d:Int)<(met.length:Int))=decide (d<met.length) from decide_eq_decide.mpr (by omega)])
 intro k
 induction k with
 |zero =>
  intro met d g nd lt e N hN f a;obtain⟨N,rfl⟩:∃g,N=g+1:=⟨N-1,by omega⟩
  unfold IW at e;split at e
  ·cases e
  ·rename_i h;cases e;exact⟨_,f,a,gz (m:=.fr) ((cond _ _ _ _).trans (by rw[ZK h]))⟩
 |succ k A =>
  intro met d g nd lt e N hN f a;obtain⟨N,rfl⟩:∃g,N=g+1:=⟨N-1,by omega⟩
  unfold IW at e;split at e
  ·rename_i h;have C:=lt _ (getD_mem h);have F:met.getD d 0<S.wy.length:=by rw[o.wy];exact C
   have H:=yY nd lt;have G:=tK (S.wy.getD (met.getD d 0) []);obtain⟨p,z⟩:=wD (w:=S.wy.getD (met.getD d 0) []) (d:=d) (ob:=pc (pe S O)) (sk (S.wy.getD (met.getD d 0) [])) met a (λc i=>qk i) (by omega);obtain⟨j,s,r,q⟩:=A _ (d+1) g (nP _ _ nd) (nq (λc m e=>o.on _ c m e) _ _ (λc i=>qk i) lt) e N (by omega) (pc (Gc (S.wy.getD (met.getD d 0) []))) p;refine⟨j,s,r,(pM (m:=.fr) ((cond _ _ _ _).trans (by rw[decide_eq_true h])) ?_).trans q⟩;unfold bV;have ix:e2 ay (ab 2) (ab 3) [pc (pe S O),oc (nT met),oc (mT met),Q0 ((d:Nat):Int),f,a]=Z (.fr,.int ((met.getD d 0:Nat):Int)):=e2v (x:=(.bo,mT met)) (y:=(.fr,.int (d:Int))) Y Y (nO _ met d 0 h);have u:aB 4 (e2 ay (aU 3 (ab 0)) (e2 ay (ab 2) (ab 3))) [pc (pe S O),oc (nT met),oc (mT met),Q0 ((d:Nat):Int),f,a]=Z (.nx [pc (pe S O),oc (nT met),oc (mT met),Q0 ((d:Nat):Int),pc (Gc (S.wy.getD (met.getD d 0) [])),a]) :=
    ax (m:=.pu) (nF (S:=S) (b:=O) (m:=.pu) (n:=.fr) Y ix F) (by decide) (by decide:4<6)
   refine sq u ?_;have nw:=o.Mr (met.getD d 0);refine sq ((eZ (m:=.fr) (l:=(sk (S.wy.getD (met.getD d 0) [])).map λc=>T.str [c]) ?_ Y).trans z) ?_
   ·show (eN gM (ae (ab 4) ag) _).bind pb=_;rw[fJ (xv (x:=(.pu,Gc (S.wy.getD (met.getD d 0) []))) Y Y) (xT nw.1 nw.2)];rfl
   ·exact ax (m:=.fr) (t:=.int (((d+1:Nat)):Int)) Y (by decide) (by decide:3<6)
  ·rename_i h;cases e;exact⟨_,f,a,gz (m:=.fr) ((cond _ _ _ _).trans (by rw[ZK h]))⟩
def CU(b:WF S)(h:S.lg.length<=100001)(i:k<1000000)(e:IW S k [0] 0=Z a):aD [pe S O]=Z (.fr,nT a):=by
 obtain⟨j,f,d,q⟩:=DH b h k [0] 0 a (by simp) (λx g=>by rw[Zj.mp g];exact b.pos) e xH (by show k<1000000;exact i) L L;refine cA (U:=[pc (pe S O),L,pc (mT a),pc j,f,d]) Y ?_;exact sq Y (sq Y (sq Y (sq q (sq Y Y))))
noncomputable def Hk(l:List (Nat×Nat)):T:=.tup (l.map λp=>T.tup [.str [p.1],.int (p.2:Int)])
def cR(r:Row):T:=.tup [.int (r.1:Int),.int (r.2.1:Int),DP r.2.2.1,Hk r.2.2.2]
theorem uo:∀l:List (Nat×Nat),ij (l.map λp=>T.tup [.str [p.1],.int (p.2:Int)])=B
 |[]=>rfl
 |p :: l=>by
  rw[Zi];show (B&&ij _)=B;rw[uo l];rfl
def iU(l:List (Nat×Nat)):FW (Hk l)=B:=uo l
def qd(r:Row):FW (cR r)=B:=by
 show (B&&(B&&(FW (DP r.2.2.1)&&(FW (Hk r.2.2.2)&&B))))=B;rw[gO,iU];rfl
def zG(h:a U=Z (.fr,x))(g:b U=Z (.fr,y))(f:c U=Z (.fr,z))(e:d U=Z (.fr,w)):mG (ae a (ae b (ae c (ae d ag)))) U=Z (.fr,.tup [x,y,z,w]):=by
 show (ae a (ae b (ae c (ae d ag))) U).bind oC=_;rw[xv h (xv g (xv f (xv (r:=ag) e Y))),Zs];show Z (up .fr _)=_;unfold up;split<;>rfl
def CY(d:WF S)(p:∀x,x<S.lg.length->x∈a)(j:n<S.lg.length):bU [pe S O,.int (n:Int),.dct 3 (nE 0 a)]=Z (.fr,cR (row S a n)):=by
 have hw:n<S.wy.length:=by rw[d.wy];exact j
 have A:n<S.lk.length:=by rw[d.lk];exact j
 have nw:=d.Mr n;have get:∀v,v<S.lg.length->ft (nE 0 a) (.int (v:Int))=Z (T.int ((a.idxOf v:Nat):Int)):=λv z=>by rw[pP,Zp (p v z),Xj]
 have g:aB 3 (e2 ay (aU 2 (ab 0)) (ab 1)) [pc (pe S O),Q0 (n:Int),pc (.dct 3 (nE 0 a)),L,L,L]=Z (.nx [pc (pe S O),Q0 (n:Int),pc (.dct 3 (nE 0 a)),pc (DP (S.lk.getD n L)),L,L]):=ax (m:=.fr) (uM (S:=S) (b:=O) (m:=.pu) (n:=.fr) Y Y A) (by decide) (by decide:3<6);have f:aB 4 (e2 ay (aU 3 (ab 0)) (ab 1)) [pc (pe S O),Q0 (n:Int),pc (.dct 3 (nE 0 a)),pc (DP (S.lk.getD n L)),L,L]=Z (.nx [pc (pe S O),Q0 (n:Int),pc (.dct 3 (nE 0 a)),pc (DP (S.lk.getD n L)),pc (Gc (S.wy.getD n [])),L]):=ax (m:=.pu) (nF (S:=S) (b:=O) (m:=.pu) (n:=.fr) Y Y hw) (by decide) (by decide:4<6);have D:eN iq (ae (cT 1 (ba 0) (fE (eN gM (ae (ab 4) ag))) L (mG (ae (ab 0) (ae (e2 pH (ab 3) (e2 HI (ab 5) (ab 0))) ag)))) ag) [pc (pe S O),Q0 (n:Int),pc (.dct 3 (nE 0 a)),pc (DP (S.lk.getD n L)),pc (Gc (S.wy.getD n [])),L]=Z (.fr,Hk (steps S a n)):=by
  have E:=bX (k:=1) (tg:=ba 0) (it:=fE (eN gM (ae (ab 4) ag))) (elt:=mG (ae (ab 0) (ae (e2 pH (ab 3) (e2 HI (ab 5) (ab 0))) ag))) (m:=.fr) (U:=[pc (pe S O),Q0 (n:Int),pc (.dct 3 (nE 0 a)),pc (DP (S.lk.getD n L)),pc (Gc (S.wy.getD n [])),L]) (λc=>T.str [c]) (λc=>T.tup [.str [c],.int ((a.idxOf ((gW (S.wy.getD n []) c).getD 0):Nat):Int)]) (sk (S.wy.getD n [])) (by
   show (eN gM (ae (ab 4) ag) _).bind pb=_;rw[fJ (xv (x:=(.pu,Gc (S.wy.getD n []))) Y Y) (xT nw.1 nw.2)];rfl) Y (ZY (tK _) (by decide)) (λc C=>by
   obtain⟨v,ev⟩:=qk C;refine⟨[Q2 ([c]),pc (pe S O),Q0 (n:Int),pc (.dct 3 (nE 0 a)),pc (DP (S.lk.getD n L)),pc (Gc (S.wy.getD n [])),L],rfl,?_⟩;have u:e2 pH (ab 3) (e2 HI (ab 5) (ab 0)) [Q2 ([c]),pc (pe S O),Q0 (n:Int),pc (.dct 3 (nE 0 a)),pc (DP (S.lk.getD n L)),pc (Gc (S.wy.getD n [])),L]=Z (.fr,.int ((a.idxOf v:Nat):Int)) :=
    e2v (x:=(.pu,.dct 3 (nE 0 a))) Y (vI (m:=.pu) (n:=.fr) (c:=c) (w:=S.wy.getD n []) Y Y ev) (by
     show (if B=B then (ft (nE 0 a) (.int (v:Int))).map (sub .pu) else L)=_;rw[Zp Y,get v (d.on n c v ev)];rfl)
   rw[ev,YD];show (ae (ab 0) (ae (e2 pH (ab 3) (e2 HI (ab 5) (ab 0))) ag) _).bind oC=_;rw[xv (x:=(.fr,.str [c])) Y (xv (r:=ag) u Y)];rfl)
  refine fJ (xv (r:=ag) E Y) ?_;show (if _<=dq then Z (up .fr (.tup _)) else L)=_;rw[Zp (by rw[Zy];exact ZY (tK _) (by decide))];have:T.tup ((sk (S.wy.getD n [])).map λc=>T.tup [.str [c],.int ((a.idxOf ((gW (S.wy.getD n []) c).getD 0):Nat):Int)])=Hk (steps S a n):=by
   unfold Hk steps;rw[ZF];rfl
  rw[this];unfold up;rw[iU];rfl
 have e:=ax (i:=5) D (by decide) (by decide:5<6);have q:∀U:Env,U[5]?=Z (pc (Hk (steps S a n)))->ab 5 U=Z (.fr,Hk (steps S a n)):=λU h=>by
  show (match U[5]? with | some (some (.pu t))=>some (up .pu t) | some (some (.ow t))=>some (.bo,t) | _=>none)=_;rw[h];show Z (up .pu _)=_;unfold up;rw[iU];rfl
 unfold row;cases o:S.lk.getD n L with
 |none =>
  rw[o]at g f e;refine cA (v:=(.fr,cR (0,0,L,steps S a n))) (U:=[pc (pe S O),Q0 (n:Int),pc (.dct 3 (nE 0 a)),pc (DP L),pc (Gc (S.wy.getD n [])),pc (Hk (steps S a n))]) Y ?_;refine sq g (sq f (sq e (kH (Ks (m:=.fr) Y (bQ (zG Y Y Y (q _ Y)))))))
 |some l =>
  rw[o]at g f e;have s:=d.up n l o;refine cA (v:=(.fr,cR (S.lg.getD l 0+1,S.lg.getD n 0,Z (a.idxOf l),steps S a n))) (U:=[pc (pe S O),Q0 (n:Int),pc (.dct 3 (nE 0 a)),pc (DP (Z l)),pc (Gc (S.wy.getD n [])),pc (Hk (steps S a n))]) Y ?_;refine sq g (sq f (sq e (sq (iH (m:=.fr) Y Y) (bQ (zG ?_ ?_ ?_ (q _ Y))))))
  ·exact e2v (qS (S:=S) (b:=O) (m:=.pu) (n:=.fr) (i:=l) Y Y s) Y Y
  ·exact qS (S:=S) (b:=O) (m:=.pu) (n:=.fr) (i:=n) Y Y j
  ·exact e2v (x:=(.pu,.dct 3 (nE 0 a))) (y:=(.fr,.int (l:Int))) Y Y (by
    show (if B=B then (ft (nE 0 a) (.int (l:Int))).map (sub .pu) else L)=_;rw[Zp Y,get l s];rfl)
def FV(t:List Row):T:=.lst (t.map cR)
def Dg(d:WF S)(i:S.lg.length<=100001){k:Nat}(q:k<1000000)(e:IW S k [0] 0=Z a)(b:∀x,x∈a↔x<S.lg.length)(o:a.length<=16777216):dm [pe S O]=Z (.fr,FV (tab S a)):=by
 have g:=CU d i q e;refine cA (U:=[pc (pe S O),L]) Y ?_;have f:lP 1 (fA 0 aD (ab 0) ag) [pc (pe S O),L]=Z (.nx [pc (pe S O),oc (nT a)]):=by
  show (fA 0 aD (ab 0) ag [pc (pe S O),L]).bind _=_;have:fA 0 aD (ab 0) ag [pc (pe S O),L]=Z (.fr,nT a):=by
   show ((aD [pe S O]).bind _)=_;rw[g];rfl
  rw[this];rfl
 refine sq f ?_;have r:=bX (k:=1) (tg:=ba 0) (it:=uh 1) (elt:=fA 0 bU (ab 1) (ae (ab 0) (ae (ab 2) ag))) (m:=.fr) (U:=[pc (pe S O),pc (.dct 3 (nE 0 a))]) (λ(n:Nat)=>T.int (n:Int)) (λn=>cR (row S a n)) a (by
  show (if ((nE 0 a).all λp=>isInt p.1)=B then Z (Md.fr,(nE 0 a).map (·.1)) else L)=_;rw[Zp,p5];rw[ZE];intro p j;have:p.1∈(nE 0 a).map (·.1):=List.mem_map_of_mem j;rw[p5]at this;obtain⟨n,_,e⟩:=Z0.mp this;rw[← e];rfl) Y o (λn l=>by
  refine⟨[Q0 (n:Int),pc (pe S O),pc (.dct 3 (nE 0 a))],rfl,?_⟩;show ((bU [pe S O,.int (n:Int),.dct 3 (nE 0 a)]).bind _)=_;rw[CY d (λx h=>(b x).mpr h) ((b n).mp l)];rfl)
 show ((cT 1 (ba 0) (uh 1) L (fA 0 bU (ab 1) (ae (ab 0) (ae (ab 2) ag))) [pc (pe S O),pc (.dct 3 (nE 0 a))]).bind _)=_;rw[r];unfold FV tab;rw[ZF];rfl
def JO(a:List Tx)(b:W7)(S:St):qY:=[(4,.lst (a.map .str)),(5,.lst (b.map λ(n:Nat)=>T.int (n:Int))),(6,pe S O)]
def xt(a:List Tx)(d:W7)(S:St)(b:Bool):T:=.obj 2 ((0,.bl b) :: JO a d S)
def AF(S:St):gT (pe S O)=B:=by
 show ((B && !(0==0&&O))&&fg (Il S))=B;rw[kj];rfl
def kB(a:List Tx)(b:W7)(S:St):fg (JO a b S)=B:=by
 have e:gT (.lst (a.map T.str))=B:=eO _ (λ_=>rfl) _;have d:gT (.lst (b.map λ(n:Nat)=>T.int (n:Int)))=B:=eO _ (λ_=>rfl) _;show ((gT _ && !(4==0&&Ll _))&&((gT _ && !(5==0&&Ll _))&&((gT _ && !(6==0&&Ll _))&&B)))=B;rw[e,d,AF];rfl
def Ap(a:List Tx)(d:W7)(S:St)(b:Bool):pS 4 (xt a d S b)=Z (.lst (a.map .str)):=rfl
def Fh(d:List Tx)(a:W7)(S:St)(b:Bool):pS 5 (xt d a S b)=Z (.lst (a.map λ(n:Nat)=>T.int (n:Int))):=rfl
def Ft(a:List Tx)(d:W7)(S:St)(b:Bool):pS 6 (xt a d S b)=Z (pe S O):=rfl
section
def xE{m:Md}(h:a U=Z (m,xt tx hd S b)):eN cP (ae (aU 4 a) ag) U=Z (.fr,.int (tx.length:Nat)):=fJ (xv (gI h (Ap tx hd S b)) Y) (by
 show Z (Md.fr,T.int (((tx.map T.str).length:Nat):Int))=_;rw[Zy])
def DC{e:Ex}{v:Tx}(h:e (oc (xt tx hd S b) :: r)=Z (.fr,.str v))(f:tx.length<16777216):sX (iD 0 [.fld 4] aC (ae e ag)) (oc (xt tx hd S b) :: r)=Z (.nx (oc (xt (tx++[v]) hd S b) :: r)):=by
 show (((Z [Ky.fld 4]).bind λd=>(ae e ag (oc (xt tx hd S b) :: r)).bind λa=>(pm (λx=>aC x a) d (xt tx hd S b)).map _).map _)=_;rw[Zs,xv (r:=ag) h Y,Zs];show (((aC (.lst (tx.map T.str)) [(.fr,.str v)]).map _).map _ |>.map _)=_;rw[eI (by rw[Zy];exact f),show (tx.map T.str)++[.str v]=(tx++[v]).map T.str from by rw[Z3];rfl];rfl
def BC{e:Ex}{v:Nat}(h:e (oc (xt tx hd S b) :: r)=Z (.fr,.int (v:Int)))(f:hd.length<16777216):sX (iD 0 [.fld 5] aC (ae e ag)) (oc (xt tx hd S b) :: r)=Z (.nx (oc (xt tx (hd++[v]) S b) :: r)):=by
 show (((Z [Ky.fld 5]).bind λd=>(ae e ag (oc (xt tx hd S b) :: r)).bind λa=>(pm (λx=>aC x a) d (xt tx hd S b)).map _).map _)=_;rw[Zs,xv (r:=ag) h Y,Zs];show (((aC (.lst (hd.map λ(n:Nat)=>T.int (n:Int))) [(.fr,.int (v:Int))]).map _).map _ |>.map _)=_;rw[eI (by rw[Zy];exact f),show (hd.map λ(n:Nat)=>T.int (n:Int))++[.int (v:Int)]=(hd++[v]).map λ(n:Nat)=>T.int (n:Int) from by rw[Z3];rfl];rfl
def yb{tx:List Tx}{hd:W7}(h:tx.length<8)(i:hd.length=tx.length):bw (JO tx hd S) []=Z (JO (tx++[[]]) (hd++[0]) S,.int (tx.length:Int)):=by
 unfold bw Hl;rw[Zp ⟨rfl,rfl⟩];have a:e2 L1 (eN cP (ae (aU 4 (ab 0)) ag)) (Q3 8) [oc (xt tx hd S B)]=Z (.fr,.bl O):=e2v (xE (m:=.bo) Y) Y (by
  show Z (Md.fr,T.bl (decide ((8:Int)<=(tx.length:Int))))=_;rw[ZK (by omega)])
 have g:=DC (tx:=tx) (hd:=hd) (S:=S) (b:=B) (r:=[]) (e:=eC (.str [])) (v:=[]) Y (by omega);have f:=BC (tx:=tx++[[]]) (hd:=hd) (S:=S) (b:=B) (r:=[]) (e:=Q3 0) (v:=0) Y (by omega);have d:=bQ (e:=e2 qh (eN cP (ae (aU 4 (ab 0)) ag)) (Q3 1)) (U:=[oc (xt (tx++[[]]) (hd++[0]) S B)]) (t:=.int (tx.length:Int)) (e2v (xE (m:=.bo) Y) Y (by
  show Z (Md.fr,T.int ((((tx++[[]]).length:Nat):Int)-1))=_;rw[Zt,Za,show (((tx.length+1:Nat)):Int)-1=(tx.length:Int) by omega]))
 exact congrArg (λz:Option Out=>z.bind _) (sq (iH a Y) (sq g (sq f d)))
def Et{l:Vw}(a:i<l.length):bh [.lst l,.int (i:Int)]=Z (.fr,.non):=by
 refine DG (U:=[pc (.lst l),Q0 (i:Int)]) Y ?_;refine(vo (m:=.fr) (wO (m:=.fr) (x:=O) ?_ (λ_=>?_) (λh=>by cases h))).trans rfl
 ·exact i4 (m:=.fr) (b:=B) Y
 ·refine i4 (m:=.fr) (b:=B) (qj (x:=(.fr,.int 0)) (y:=(.fr,.int (i:Int))) (z:=(.fr,.int (l.length:Int))) Y Y ?_ (fJ (xv (x:=(.pu,.lst l)) Y Y) Y) ?_)
  ·show Z (Md.fr,T.bl (decide ((0:Int)<=(i:Int))))=_;rw[decide_eq_true (by omega)]
  ·show Z (Md.fr,T.bl (decide ((i:Int)<(l.length:Int))))=_;rw[decide_eq_true (by omega)]
def u7{tx:List Tx}(a:i<tx.length):bh [.lst (tx.map .str),.int (i:Int)]=Z (.fr,.non):=Et (by rw[Zy];exact a)
end
noncomputable def d9(a:List Tx):Nat:=(a.map List.length).sum
theorem tM:∀a:List Tx,(a.map λt=>(t.length:Int)).sum=(d9 a:Int)
 |[]=>rfl
 |t :: a=>by
  rw[Zi,XX,tM a];unfold d9;rw[Zi,XX];omega
def wt(a:List Tx)(b:a.length<=16777216):fW [.lst (a.map .str)]=Z (.fr,.int (d9 a:Int)):=by
 refine cA (U:=[pc (.lst (a.map .str))]) Y ?_;refine bQ (fJ (xv (r:=ag) (bX (m:=.pu) T.str (λ(t:Tx)=>T.int (t.length:Int)) a Y Y b (λt d=>⟨[Q2 t,pc (.lst (a.map .str))],rfl,rfl⟩)) Y) ?_);show (qB (a.map λ(t:Tx)=>T.int (t.length:Int))).bind _=_;rw[ints_map (λ(t:Tx)=>(t.length:Int)),Zs,tM]
section
def Cu{hd:W7}{i v:Nat}{e ev:Ex}{n:Md}{r:List (Vz)}(g:i<hd.length)(he:e (oc (xt tx hd S b) :: r)=Z (n,.int (i:Int)))(a:ev (oc (xt tx hd S b) :: r)=Z (.fr,.int (v:Int))) :
  fL 0 [.fld 5] e ev (oc (xt tx hd S b) :: r)=Z (.nx (oc (xt tx (hd.set i v) S b) :: r)):=by
 unfold fL;rw[a,Zs];show ((keys [.fld 5] (oc (xt tx hd S b) :: r)).bind _)=_;have f:keys [.fld 5] (oc (xt tx hd S b) :: r)=Z [.fld 5]:=rfl;rw[f,Zs,he,Zs];have d:pm (jA (n,.int (i:Int)) (.fr,.int (v:Int))) [.fld 5] (xt tx hd S b)=Z (xt tx (hd.set i v) S b,()):=by
  show ((jA (n,.int (i:Int)) (.fr,.int (v:Int)) (.lst (hd.map λ(n:Nat)=>T.int (n:Int)))).map _)=_;have:jA (n,.int (i:Int)) (.fr,.int (v:Int)) (.lst (hd.map λ(n:Nat)=>T.int (n:Int)))=Z (.lst ((hd.set i v).map λ(n:Nat)=>T.int (n:Int)),()):=by
   show ((G8 (hd.map λ(n:Nat)=>T.int (n:Int)).length (i:Int)).map _)=_;rw[Zy,sF g,Wi];rfl
  rw[this];rfl
 rw[d];rfl
def BO{tx:List Tx}{n:Md}(h:i<tx.length)(he:e (oc (xt tx hd S b) :: r)=Z (n,.int (i:Int)))(d:a (oc (xt tx hd S b) :: r)=Z (.fr,.str v)) :
  fL 0 [.fld 4] e a (oc (xt tx hd S b) :: r)=Z (.nx (oc (xt (tx.set i v) hd S b) :: r)):=by
 unfold fL;rw[d,Zs];show ((keys [.fld 4] (oc (xt tx hd S b) :: r)).bind _)=_;have g:keys [.fld 4] (oc (xt tx hd S b) :: r)=Z [.fld 4]:=rfl;rw[g,Zs,he,Zs];have f:pm (jA (n,.int (i:Int)) (.fr,.str v)) [.fld 4] (xt tx hd S b)=Z (xt (tx.set i v) hd S b,()):=by
  show ((jA (n,.int (i:Int)) (.fr,.str v) (.lst (tx.map T.str))).map _)=_;have:jA (n,.int (i:Int)) (.fr,.str v) (.lst (tx.map T.str))=Z (.lst ((tx.set i v).map T.str),()):=by
   show ((G8 (tx.map T.str).length (i:Int)).map _)=_;rw[Zy,sF h,Wi];rfl
  rw[this];rfl
 rw[f];rfl
def zu{tx:List Tx}{hd:W7}{i r:Nat}{w:Tx}(W:WF S)(H:hd.length=tx.length)(a:i<tx.length)(J:tx.length<=8)(G:d9 tx+w.length<=120)(s:S.lg.length+2*w.length<=100000)(q:hd.getD i 0<S.lg.length)(u:∀c∈w,97<=c/\c<=122)(F:(tx.getD i []).length<=120)(e:hg S (hd.getD i 0) w=Z (S',r)) :
  bu (JO tx hd S) [.int (i:Int),.str w]=Z (JO (tx.set i (tx.getD i []++w)) (hd.set i r) S',.non):=by
 obtain⟨E,D,C,g⟩:=Bz W s q u e;unfold bu Hl;rw[Zp ⟨rfl,rfl⟩];have o:sX (xP (aQ bh (ae (aU 4 (ab 0)) (ae (ab 1) ag)))) [oc (xt tx hd S B),Q0 (i:Int),Q2 w]=Z (.nx [oc (xt tx hd S B),Q0 (i:Int),Q2 w]):=by
  have:aQ bh (ae (aU 4 (ab 0)) (ae (ab 1) ag)) [oc (xt tx hd S B),Q0 (i:Int),Q2 w]=Z (.fr,.non):=aN (xv (gI (m:=.bo) (t:=xt tx hd S B) Y (Ap tx hd S B)) (xv (x:=(.fr,.int (i:Int))) Y Y)) (u7 a);show (((aQ bh _ _).map _).map _)=_;rw[this];rfl
 have A:e2 L0 (e2 bO (aQ fW (ae (aU 4 (ab 0)) ag)) (eN cP (ae (ab 2) ag))) (Q3 120) [oc (xt tx hd S B),Q0 (i:Int),Q2 w]=Z (.fr,.bl O) :=
  e2v (x:=(.fr,.int ((d9 tx:Int)+(w.length:Int)))) (e2v (aN (xv (r:=ag) (gI (m:=.bo) (t:=xt tx hd S B) Y (Ap tx hd S B)) Y) (wt tx (by omega))) (y:=(.fr,.int (w.length:Int))) Y Y) Y (by
   show Z (Md.fr,T.bl (decide ((120:Int)<(d9 tx:Int)+(w.length:Int))))=_;rw[ZK (by omega)])
 have f:bB 0 [.fld 6] 0 [O,O] aM (ae (e2 ay (aU 5 (ab 0)) (ab 1)) (ae (ab 2) ag)) [oc (xt tx hd S B),Q0 (i:Int),Q2 w]=Z ((.fr,.int (r:Int)),[oc (xt tx hd S' B),Q0 (i:Int),Q2 w]):=by
  show ((Z [Ky.fld 6]).bind λp=>(ae (e2 ay (aU 5 (ab 0)) (ab 1)) (ae (ab 2) ag) [oc (xt tx hd S B),Q0 (i:Int),Q2 w]).bind λd=>(pm (lG 0 [O,O] aM d) p (xt tx hd S B)).map λz=>(z.2,[oc z.1,Q0 (i:Int),Q2 w]))=_;rw[Zs,xv (x:=(.fr,.int ((hd.getD i 0:Nat):Int))) (e2v (gI (m:=.bo) (t:=xt tx hd S B) Y (Fh tx hd S B)) (y:=(.fr,.int (i:Int))) Y (nO _ hd i 0 (by omega))) (xv (r:=ag) (x:=(.fr,.str w)) Y Y),Zs];show (((if 1=0+1/\fg (Il S)=B/\argsOk [O,O] [(Md.fr,T.int ((hd.getD i 0:Nat):Int)),(Md.fr,T.str w)]=B/\dG (trees [(Md.fr,T.int ((hd.getD i 0:Nat):Int)),(Md.fr,T.str w)])=B then (aM (Il S) [.int ((hd.getD i 0:Nat):Int),.str w]).bind λz=>if fg z.1=B/\FW z.2=B then Z (T.obj 1 ((0,.bl O) :: z.1),(Md.fr,z.2)) else L else L).map _).map _)=_;rw[Zp ⟨rfl,kj S,rfl,rfl⟩,g,Zs,Zp ⟨kj S',rfl⟩];rfl
 have l:jW 0 [.fld 5] (ab 1) (bB 0 [.fld 6] 0 [O,O] aM (ae (e2 ay (aU 5 (ab 0)) (ab 1)) (ae (ab 2) ag))) [oc (xt tx hd S B),Q0 (i:Int),Q2 w]=Z (.nx [oc (xt tx (hd.set i r) S' B),Q0 (i:Int),Q2 w]):=by
  unfold jW;rw[f];exact Cu (tx:=tx) (hd:=hd) (S:=S') (b:=B) (r:=[Q0 (i:Int),Q2 w]) (e:=ab 1) (ev:=λ_=>Z (.fr,.int (r:Int))) (i:=i) (v:=r) (n:=.fr) (by omega) Y Y
 have j:fL 0 [.fld 4] (ab 1) (e2 bO (e2 ay (aU 4 (ab 0)) (ab 1)) (ab 2)) [oc (xt tx (hd.set i r) S' B),Q0 (i:Int),Q2 w]=Z (.nx [oc (xt (tx.set i (tx.getD i []++w)) (hd.set i r) S' B),Q0 (i:Int),Q2 w]) :=
  BO (n:=.fr) a Y (e2v (gI (m:=.bo) (t:=xt tx (hd.set i r) S' B) Y (Ap tx (hd.set i r) S' B) |> λh=>e2v h (y:=(.fr,.int (i:Int))) Y (nO T.str tx i [] a)) (y:=(.fr,.str w)) Y (rJ (by omega)))
 exact congrArg (λz:Option Out=>z.bind _) (sq o (sq (iH A Y) (sq l j)))
end
def ko{α:Type}(l:List α)(x d:α):(l++[x]).getD l.length d=x:=(bP l x d l.length).trans (Zp Y)
def uf{α:Type}(l:List α)(x y:α):(l++[x]).set l.length y=l++[y]:=by
 rw[List.set_append_right _ _ (Zm _),Nat.sub_self];rfl
def rU(a b:List Tx):d9 (a++b)=d9 a+d9 b:=by
 unfold d9;rw[Z3,List.sum_append]
def B8:∀(rest:List Tx){tx:List Tx}{hd:W7}{S S':St}{B:T}{z:Vz},WF S->hd.length=tx.length->tx.length+rest.length<=8->d9 tx+d9 rest<=120->S.lg.length+2*d9 rest<=100000->(∀t∈rest,∀c∈t,97<=c/\c<=122)->mB S rest=Z S' →
  ∃j h,forL (ba 2) bz (rest.map .str) [oc (xt tx hd S true),pc B,z]=Z (.nx [oc (xt (tx++rest) j S' true),pc B,h]):=by
 intro rest
 induction rest with
 |nil =>
  intro tx hd S S' B z W a n l m f e;cases (show Z S=Z S' from e);exact⟨hd,z,by rw[ZJ];rfl⟩
 |cons t rest s =>
  intro tx hd S S' B z W a n l m f e;obtain⟨⟨d,r⟩,e1,C⟩:=Zz.mp (show (hg S 0 t).bind _=Z S' from e);rw[Zf]at n;have A:d9 (t :: rest)=t.length+d9 rest:=by unfold d9;rw[Zi,XX]
  rw[A]at l m;have y:hg S ((hd++[0]).getD tx.length 0) t=Z (d,r):=by rw[← a,ko];exact e1
  have o:=Bz W (by omega) W.pos (f t Zw) e1;have g:=zu (tx:=tx++[[]]) (hd:=hd++[0]) (S:=S) (S':=d) (i:=tx.length) (r:=r) (w:=t) W (by rw[Zt,Zt,a];rfl) (by rw[Zt];exact Z6 _) (by rw[Zt];show tx.length+1<=8;omega) (by rw[rU];show d9 tx+0+t.length<=120;omega) (by omega) (by rw[← a,ko];exact W.pos) (f t Zw) (by rw[ko];exact Yw _) y;rw[ko,uf,YK]at g;have x:(hd++[0]).set tx.length r=hd++[r]:=by rw[← a];exact uf hd 0 r
  rw[x]at g;have b:=yb (tx:=tx) (hd:=hd) (S:=S) (by omega) a;obtain⟨j,h,q⟩:=s (tx:=tx++[t]) (hd:=hd++[r]) (S:=d) (S':=S') (B:=B) (z:=Q2 t) o.1 (by rw[Zt,Zt,a];rfl) (by rw[Zt,Za];omega) (by rw[rU];show d9 tx+(t.length+0)+d9 rest<=120;omega) (by have:=o.2.2.1;omega) (λu v=>f u (Zx _ v)) C;refine⟨j,h,?_⟩;rw[Zi];refine(dU (U1:=[oc (xt tx hd S true),pc B,Q2 t]) Y ?_).trans (q.trans (by rw[Z2];rfl));have p:bB 0 [] 1 [] bw ag [oc (xt tx hd S true),pc B,Q2 t]=Z ((.fr,.int (tx.length:Int)),[oc (xt (tx++[[]]) (hd++[0]) S true),pc B,Q2 t]):=by
   show (((if 2=1+1/\fg (JO tx hd S)=true/\argsOk [] []=true/\dG (trees [])=true then (bw (JO tx hd S) (trees [])).bind λz=>if fg z.1=true/\FW z.2=true then Z (T.obj 2 ((0,.bl true) :: z.1),(Md.fr,z.2)) else L else L).map _))=_;rw[Zp ⟨rfl,kB tx hd S,rfl,rfl⟩,show trees []=[] from rfl,b,Zs,Zp ⟨kB _ _ _,rfl⟩];rfl
  have x2:oO 0 1 [O,O] bu (bB 0 [] 1 [] bw ag) (ae (ab 2) ag) [oc (xt tx hd S true),pc B,Q2 t]=Z ((.fr,.non),[oc (xt (tx++[t]) (hd++[r]) d true),pc B,Q2 t]):=by
   unfold oO;rw[Zp (show Cj 1 [oc (xt tx hd S true),pc B,pc (T.str t)][0]?=true from rfl),p,Zs,Zp (show FW (T.int (tx.length:Int))=true from rfl)];have ct:lG 1 [O,O] bu [(Md.fr,T.int (tx.length:Int)),(Md.fr,T.str t)] (xt (tx++[[]]) (hd++[0]) S true)=Z (xt (tx++[t]) (hd++[r]) d true,(Md.fr,T.non)):=by
    show (if 2=1+1/\fg (JO (tx++[[]]) (hd++[0]) S)=true/\argsOk [O,O] [(Md.fr,T.int (tx.length:Int)),(Md.fr,T.str t)]=true/\dG (trees [(Md.fr,T.int (tx.length:Int)),(Md.fr,T.str t)])=true then (bu (JO (tx++[[]]) (hd++[0]) S) (trees [(Md.fr,T.int (tx.length:Int)),(Md.fr,T.str t)])).bind λz=>if fg z.1=true/\FW z.2=true then Z (T.obj 2 ((0,.bl true) :: z.1),(Md.fr,z.2)) else L else L)=_;rw[Zp ⟨rfl,kB _ _ _,rfl,rfl⟩,show trees [(Md.fr,T.int (tx.length:Int)),(Md.fr,T.str t)]=[T.int (tx.length:Int),T.str t] from rfl,g,Zs,Zp ⟨kB _ _ _,rfl⟩];rfl
   show ((lG 1 [O,O] bu [(Md.fr,T.int (tx.length:Int)),(Md.fr,T.str t)] (xt (tx++[[]]) (hd++[0]) S true)).map _)=_;rw[ct];rfl
  unfold bz NF;rw[x2];rfl
structure Js(bk:List Tx):Prop where
 GB:bk.length<=8
 sum:d9 bk<=120
 az:∀t∈bk,∀c∈t,97<=c/\c<=122
theorem Js.Lc:∀{l:List Tx},t∈l->t.length<=d9 l
 |a :: l,h=>by
  have e:d9 (a :: l)=a.length+d9 l:=by unfold d9;rw[Zi,XX]
  rw[e];rcases Zk.mp h with rfl | h
  ·omega
  ·have:=Js.Lc h;omega
def Js.len(h:Js a):∀t∈a,t.length<1000:=λt b=>YA (Js.Lc b) (YA h.sum (by decide))
def dI(a:List Tx):St:=(mB S0 a).getD S0
def gF(a:List Tx):W7:=(IW (dI a) 1000 [0] 0).getD []
def tabOf(a:List Tx):List Row:=tab (dI a) (gF a)
theorem Js.k{a:List Tx}(h:Js a):mB S0 a=Z (dI a)/\∃nd b,K (Hd a) (dI a) nd b/\b.length<=241/\IW (dI a) 1000 [0] 0=Z (gF a)/\(∀x,x∈gF a↔x<(dI a).lg.length)/\(gF a).length=b.length/\(gF a).idxOf 0=0/\(gF a).Nodup:=by
 obtain⟨S,nd,b,e,H,l⟩:=K.of a h.az h.len;have d:dI a=S:=by unfold dI;rw[e];rfl
 rw[d];have f:b.length<=241:=by
  have:=h.sum;unfold d9 at this;omega
 obtain⟨m,e2,j,e3,g⟩:=H.met (k:=1000) (by omega);have eM:gF a=0 :: m:=by unfold gF;rw[d,e2];rfl
 rw[eM];exact⟨e,nd,b,H,f,e2,λx=>by rw[e3,H.i.len],g,List.idxOf_cons_self,j⟩
def BF(h:Js d):∃hd,aR [] [.lst (d.map .str)]=Z (JO d hd (dI d),.non):=by
 obtain⟨e,_⟩:=h.k;have g:=h.sum;obtain⟨hd,z,q⟩:=B8 d (tx:=[]) (hd:=[]) (S:=S0) (S':=dI d) (B:=.lst (d.map .str)) (z:=L) Bq Y (by have:=h.GB;simpa using this) (by show 0+d9 d<=120;omega) (by show 1+2*d9 d<=100000;omega) h.az e;rw[YK]at q;refine⟨hd,?_⟩;unfold aR Hl;rw[Zp ⟨rfl,rfl⟩];have f:=(eZ (tg:=ba 2) (it:=fE (ab 1)) (body:=bz) (U:=[oc (xt [] [] S0 true),pc (.lst (d.map .str)),L]) (m:=.pu) (l:=d.map .str) Y Y).trans q;have body:=(bD (a:=jo 0 4 (cQ ag)) (b:=aq (jo 0 5 (cQ ag)) (aq (jo 0 6 (eNew 0 dg ag)) (GH (ie (ab 1)) (ji (ba 2) (fE (ab 1)) bz) dH))) (U:=[oc (.obj 2 [(0,.bl true)]),pc (.lst (d.map .str)),L]) (U1:=[oc (.obj 2 [(0,.bl true),(4,.lst [])]),pc (.lst (d.map .str)),L]) Y).trans
  (sq (U1:=[oc (.obj 2 [(0,.bl true),(4,.lst []),(5,.lst [])]),pc (.lst (d.map .str)),L]) Y (sq (U1:=[oc (xt [] [] S0 true),pc (.lst (d.map .str)),L]) Y (Ks (m:=.fr) Y f)))
 exact congrArg (λz:Option Out=>z.bind _) body
def AE(h:Js a){arg:Ex}{U:Env}{m:Md}(f:arg U=Z (m,.lst (a.map .str))):fA 1 bY (eNew 1 aR (ae arg ag)) ag U=Z (.fr,FV (tabOf a)):=by
 obtain⟨hd,e⟩:=BF h;obtain⟨_,nd,n,H,l,e2,e3,o,_⟩:=h.k;have hlen:(dI a).lg.length<=100001:=by rw[← H.i.len];omega
 have b:=Dg H.i.wf hlen (k:=1000) (by decide) e2 e3 (by omega);have d:eNew 1 aR (ae arg ag) U=Z (.fr,xt a hd (dI a) O):=by
  unfold eNew;rw[xv (r:=ag) f Y,Zs];have j:dG (trees [(m,T.lst (a.map .str))])=B:=by
   show (dG (a.map T.str)&&B)=B;rw[eO _ (λ_=>rfl)];rfl
  rw[Zp j,show trees [(m,T.lst (a.map .str))]=[T.lst (a.map .str)] from rfl,e,Zs,Zp ⟨kB _ _ _,rfl⟩];rfl
 have t2:bY [xt a hd (dI a) O]=Z (.fr,FV (tabOf a)):=by
  refine cA (U:=[pc (xt a hd (dI a) O)]) Y (bQ ?_);have g:aU 6 (ab 0) [pc (xt a hd (dI a) O)]=Z (.pu,pe (dI a) O):=gI (m:=.pu) (t:=xt a hd (dI a) O) Y (Ft a hd (dI a) O);unfold fA;show ((aU 6 (ab 0) [pc (xt a hd (dI a) O)]).bind _)=_;rw[g];show ((dm [pe (dI a) O]).bind _)=_;rw[b];rfl
 show ((eNew 1 aR (ae arg ag) U).bind _)=_;rw[d];show ((bY [xt a hd (dI a) O]).bind _)=_;rw[t2];rfl
end T51
end
section
namespace T51
open VS
theorem jT{β:Type}{tg:Tg}{body:Sx}(g:β->T)(Inv:List β->Env->Prop)(h:∀t r U,Inv (t :: r) U->∃d a,tg (g t) U=Z d/\body d=Z (.nx a)/\Inv r a):∀(l:List β)(U:Env),Inv l U->∃b,forL tg body (l.map g) U=Z (.nx b)/\Inv [] b
 |[],U,hi=>⟨U,rfl,hi⟩
 |t :: l,U,hi=>by
  obtain⟨d,a,e1,e2,e⟩:=h t l U hi;obtain⟨b,e3,f⟩:=jT g Inv h l a e;exact⟨b,(dU e1 e2).trans e3,f⟩
noncomputable def cellAt(a:W8)(k:Nat):Int:=a.getD k 0
def vD(a:W8)(k:Nat):aE [.scr a,.int k]=Z (.fr,.int (cellAt a k)):=by
 by_cases h:k<a.length
 ·refine cA (U:=[pc (.scr a),Q0 k]) Y (kH ((yp (m:=.fr) ?_).trans (bQ (e2v (x:=(.fr,.scr a)) (y:=(.fr,.int k)) Y Y ?_))))
  ·refine e2v (x:=(.fr,.int k)) (y:=(.fr,.int (a.length:Int))) Y Y ?_;show Z (Md.fr,T.bl (decide ((k:Int)<(a.length:Int))))=_;rw[decide_eq_true (by omega)]
  ·rw[AJ a k (by omega) (by omega),Z9];rfl
 ·refine cA (U:=[pc (.scr a),Q0 k]) Y ((bD ((vo (m:=.fr) ?_).trans Y)).trans (bQ ?_))
  ·refine e2v (x:=(.fr,.int k)) (y:=(.fr,.int (a.length:Int))) Y Y ?_;show Z (Md.fr,T.bl (decide ((k:Int)<(a.length:Int))))=_;rw[ZK (by omega)]
  ·unfold cellAt;rw[Zr,ZI (by omega)];rfl
def kf{k:Nat}{m:Md}(b:ab 0 U=Z (m,.scr a))(h:e U=Z (.fr,.int (k:Int))):aQ aE (ae (ab 0) (ae e ag)) U=Z (.fr,.int (cellAt a k)):=aN (xv b (xv (r:=ag) h Y)) (vD a k)
def o5(c k:Int)(h:0<=k)(g:k<1000000):∃v,b6 [.int c,.int k]=Z (.fr,.int v):=by
 have f:=Ym (c%2147483629+48271*k+11) (b:=2147483629) (by decide);have e1:=Yz (c%2147483629+48271*k+11) (b:=2147483629) (by decide);generalize e:(c%2147483629+48271*k+11)%2147483629=n at f e1;have j:=Ym (n*n) (b:=2147483629) (by decide);have i:=Yz (n*n) (b:=2147483629) (by decide);have d:aB 2 (e2 oMod (e2 bO (e2 bO (e2 oMod (ab 0) (Q3 2147483629)) (e2 kL (Q3 48271) (ab 1))) (Q3 11)) (Q3 2147483629)) [Q0 c,Q0 k,L]=Z (.nx [Q0 c,Q0 k,Q0 n]):=by
  refine ax (m:=.fr) (e2v (e2v (e2v (e2v (x:=(.fr,.int c)) (y:=(.fr,.int 2147483629)) Y Y (cj (by decide))) (e2v (x:=(.fr,.int 48271)) (y:=(.fr,.int k)) Y Y (lu (by decide))) Y) (y:=(.fr,.int 11)) Y Y) (y:=(.fr,.int 2147483629)) Y ?_) (by decide) (by show 2<3;decide);rw[cj (by decide),e]
 have a:aB 2 (e2 bO (e2 oMod (e2 kL (ab 2) (ab 2)) (Q3 2147483629)) (e2 kL (Q3 7919) (ab 1))) [Q0 c,Q0 k,Q0 n]=Z (.nx [Q0 c,Q0 k,Q0 (n*n%2147483629+7919*k)]) :=
  ax (m:=.fr) (e2v (e2v (e2v (x:=(.fr,.int n)) (y:=(.fr,.int n)) Y Y (lu (by omega))) (y:=(.fr,.int 2147483629)) Y (cj (by decide))) (e2v (x:=(.fr,.int 7919)) (y:=(.fr,.int k)) Y Y (lu (by decide))) Y) (by decide) (by show 2<3;decide)
 exact⟨_,cA (U:=[Q0 c,Q0 k,Q0 (n*n%2147483629+7919*k)]) Y ((bD d).trans ((bD a).trans (bQ (e2v (e2v (x:=(.fr,.int (n*n%2147483629+7919*k))) (y:=(.fr,.int (n*n%2147483629+7919*k))) Y Y (lu (by omega))) (y:=(.fr,.int 2147483587)) Y (cj (by decide))))))⟩
abbrev ET(d:W8)(L:Tx)(b j c a:Int)(s:W7)(z:Vz):Env:=[pc (.scr d),Q2 L,Q0 b,Q0 j,Q0 c,Q0 a,oc (.lst (s.map λx=>T.str [x])),z]
def xi{U:Env}{L:Tx}{e:Ex}{m:Md}{y:Int}(h:0<L.length)(a:ab 1 U=Z (m,.str L))(he:e U=Z (.fr,.int y)):∃x∈L,e2 ay (ab 1) (e2 oMod e (eN cP (ae (ab 1) ag))) U=Z (.fr,.str [x]):=by
 have g:=Ym y (b:=(L.length:Int)) (by omega);have f:=Yz y (b:=(L.length:Int)) (by omega);have d:(y%(L.length:Int)).toNat<L.length:=by omega
 refine⟨L.getD (y%(L.length:Int)).toNat 0,?_,e2v a (e2v he (fJ (v:=(.fr,.int (L.length:Int))) (xv (r:=ag) a Y) Y) (cj (by omega))) (qg L _ g f)⟩;rw[Zr,Zq d];exact Z7 d
def Bm{L:Tx}{b j c a:Int}{x:Nat}(h:e (ET d L b j c a s z)=Z (.fr,.str [x]))(f:s.length<1000):sX (kR 6 [] aC (ae e ag)) (ET d L b j c a s z)=Z (.nx (ET d L b j c a (s++[x]) z)):=by
 rw[lA (i:=6) (l:=s.map λx=>T.str [x]) Y h (by rw[Zy];omega)];show Z (Out.nx [pc (.scr d),Q2 L,Q0 b,Q0 j,Q0 c,Q0 a,oc (.lst (s.map (λx=>T.str [x])++[T.str [x]])),z])=Z (Out.nx [pc (.scr d),Q2 L,Q0 b,Q0 j,Q0 c,Q0 a,oc (.lst ((s++[x]).map λx=>T.str [x])),z]);rw[Z3];rfl
def yn(d:W8)(L:Tx)(b a:Int)(j:Nat)(G:j<=1000)(u:0<L.length)(J:L.length<1000)(n:Nat)(F:n<1000)(c:Int):∃f s z,forL (ba 7) eY ((List.range n).map λ(k:Nat)=>T.int (k:Int)) (ET d L b j c a [] none)=Z (.nx (ET d L b j f a s z))/\s.length<=n/\∀x∈s,x∈L:=by
 obtain⟨H,e,f,s,z,rfl,o,l,_⟩:=jT (tg:=ba 7) (body:=eY) (λ(k:Nat)=>T.int (k:Int)) (λr U=>∃c s z,U=ET d L b j c a s z/\s.length+r.length<=n/\(∀x∈s,x∈L)/\∀k∈r,k<n) (by
  rintro k r _ ⟨c,s,z,rfl,o,l,w⟩;rw[Zf]at o;have i:=w k Zw;have C:∀U,ab 0 U=Z (Md.fr,T.scr d)->e2 oMod (aQ aE (ae (ab 0) (ae (Q3 0) ag))) (Q3 2) U=Z (.fr,.int (cellAt d 0%2)):=λU h=>e2v (kf (k:=0) h Y) (y:=(.fr,.int 2)) Y (cj (by decide));have A:e2 oEq (e2 oMod (aQ aE (ae (ab 0) (ae (Q3 0) ag))) (Q3 2)) (Q3 0) (ET d L b j c a s (Q0 k))=Z (.fr,.bl (cellAt d 0%2==0)):=by
   refine e2v (C _ Y) (y:=(.fr,.int 0)) Y (gx Y Y ?_);simp only[eqT]
  have fin:∀(f:Int)(x:Nat),x∈L->∃c q z,ET d L b j f a (s++[x]) (Q0 k)=ET d L b j c a q z/\q.length+r.length<=n/\(∀x∈q,x∈L)/\∀k∈r,k<n:=λf x g=>⟨_,_,_,rfl,by rw[Zt,Za];omega,λy D=>(Zd.mp D).elim (l y) (λh=>Zj.mp h ▸ g),λk i=>w k (Zx _ i)⟩
  by_cases p:cellAt d 0%2=0
  ·obtain⟨x,g,ex⟩:=xi (U:=ET d L b j c a s (Q0 k)) (e:=ab 4) (m:=.fr) (y:=c) u Y Y;refine⟨ET d L b j c a s (Q0 k),ET d L b j (c/(L.length:Int)) a (s++[x]) (Q0 k),rfl,(yp (A.trans (by rw[beq_iff_eq.mpr p]))).trans ((bD (Bm ex (by omega))).trans ?_),fin _ x g⟩;exact ax (m:=.fr) (t:=.int (c/(L.length:Int))) (e2v (x:=(.fr,.int c)) (y:=(.fr,.int (L.length:Int))) Y Y (ic (by omega))) (by decide) (by show 4<8;decide)
  ·obtain⟨v,E⟩:=o5 c (30*(j:Int)+k) (by omega) (by omega);obtain⟨x,g,ex⟩:=xi (U:=ET d L b j c a s (Q0 k)) (e:=e2 bC (aQ b6 (ae (ab 4) (ae (e2 bO (e2 kL (Q3 30) (ab 3)) (ab 7)) ag))) (Q3 7)) (m:=.fr) (y:=v/7) u Y (e2v (aN (xv (x:=(.fr,.int c)) Y (xv (r:=ag) (e2v (e2v (x:=(.fr,.int 30)) (y:=(.fr,.int (j:Int))) Y Y (lu (by decide))) (y:=(.fr,.int (k:Int))) Y Y) Y)) E) (y:=(.fr,.int 7)) Y (ic (by decide)));exact⟨ET d L b j c a s (Q0 k),ET d L b j c a (s++[x]) (Q0 k),rfl,(vo (A.trans (by rw[ZO.mpr p]))).trans (Bm ex (by omega)),fin _ x g⟩) (List.range n) (ET d L b j c a [] none) ⟨c,[],none,rfl,by rw[Z1];exact Xu (Xj _),(λ_ h=>nomatch h),λk i=>YX.mp i⟩
 exact⟨f,s,z,e,o,l⟩
def Cc(d:W8)(L:Tx)(a:Int)(j:Nat)(p:j<=1000)(o:0<L.length)(u:L.length<1000)(w:0<=a)(v:a<1000):∃t:Tx,dC [.scr d,.str L,.int a,.int j]=Z (.fr,.str t)/\t.length<=a.toNat/\∀x∈t,x∈L:=by
 generalize q:cellAt d (1+j)=c;have D:=Ym c (b:=a+1) (by omega);have C:=Yz c (b:=a+1) (by omega);obtain⟨f,s,z,e,A,r⟩:=yn d L a (c%(a+1)) j p o u (c%(a+1)).toNat (by omega) (c/(a+1));refine⟨s,?_,by omega,r⟩;have l:aB 4 (aQ aE (ae (ab 0) (ae (e2 bO (Q3 1) (ab 3)) ag))) [pc (.scr d),Q2 L,Q0 a,Q0 j,none,none,none,none]=Z (.nx [pc (.scr d),Q2 L,Q0 a,Q0 j,Q0 c,none,none,none]):=by
  rw[← q];refine ax (m:=.fr) (kf (k:=1+j) Y (e2v (x:=(.fr,.int 1)) (y:=(.fr,.int (j:Int))) Y Y ?_)) (by decide) (by show 4<8;decide);show Z (Md.fr,T.int (1+(j:Int)))=_;rw[show (1+(j:Int))=((1+j:Nat):Int) by omega]
 have i:aB 5 (e2 oMod (ab 4) (e2 bO (ab 2) (Q3 1))) [pc (.scr d),Q2 L,Q0 a,Q0 j,Q0 c,none,none,none]=Z (.nx [pc (.scr d),Q2 L,Q0 a,Q0 j,Q0 c,Q0 (c%(a+1)),none,none]):=ax (m:=.fr) (e2v (x:=(.fr,.int c)) (y:=(.fr,.int (a+1))) Y Y (cj (by omega))) (by decide) (by show 5<8;decide);have h:aB 4 (e2 bC (ab 4) (e2 bO (ab 2) (Q3 1))) [pc (.scr d),Q2 L,Q0 a,Q0 j,Q0 c,Q0 (c%(a+1)),none,none]=Z (.nx [pc (.scr d),Q2 L,Q0 a,Q0 j,Q0 (c/(a+1)),Q0 (c%(a+1)),none,none]):=ax (m:=.fr) (e2v (x:=(.fr,.int c)) (y:=(.fr,.int (a+1))) Y Y (ic (by omega))) (by decide) (by show 4<8;decide);have g:ji (ba 7) (dw (ab 5)) eY (ET d L a j (c/(a+1)) (c%(a+1)) [] none)=Z (.nx (ET d L a j f (c%(a+1)) s z)):=by
  refine(eZ (m:=.fr) ?_ Y).trans e;rw[jN (m:=.fr) (j:=c%(a+1)) Y (by omega),nG]
 refine cA (U:=[pc (.scr d),Q2 L,Q0 a,Q0 j,Q0 f,Q0 (c%(a+1)),pc (.lst (s.map λx=>T.str [x])),z]) Y ((bD l).trans ((bD i).trans ((bD h).trans ((bD (U1:=ET d L a j (c/(a+1)) (c%(a+1)) [] none) Y).trans ((bD g).trans ((bD (U1:=[pc (.scr d),Q2 L,Q0 a,Q0 j,Q0 f,Q0 (c%(a+1)),pc (.lst (s.map λx=>T.str [x])),z]) Y).trans (bQ ?_)))))));have:=vv (m:=.fr) (n:=(up Md.pu (.lst (s.map λx=>T.str [x]))).1) (strs_map (λx=>[x]) s) (by rw[kA];omega);rw[kA]at this;exact this
abbrev EB(e:W8)(d:Int)(L:Tx)(a b:Int):Env:=[pc (.scr e),Q0 d,Q2 L,Q0 a,Q0 b]
def ox(i:W8)(L:Tx)(d b g:Int)(y:0<=d)(w:d<1000)(F:0<=b)(E:b<=8)(u:0<L.length)(A:L.length<1000)(z:∀c∈L,97<=c/\c<=122) :
  ∃bk:List Tx,cT 1 (ba 0) (dw (ab 3)) none (aQ dC (ae (ab 1) (ae (ab 3) (ae (ab 5) (ae (ab 0) ag))))) (EB i g L b d)=Z (.fr,.lst (bk.map .str))/\bk.length<=8/\bk.flatten.length<=b.toNat*d.toNat/\∀t∈bk,∀c∈t,97<=c/\c<=122:=by
 have ex:∀j:Nat,∃t:Tx,j<=1000->dC [.scr i,.str L,.int d,.int j]=Z (.fr,.str t)/\t.length<=d.toNat/\∀x∈t,x∈L:=λj=>by
  by_cases e:j<=1000
  ·obtain⟨t,h⟩:=Cc i L d j e u A y w;exact⟨t,λ_=>h⟩
  ·exact⟨[],λh=>absurd h e⟩
 obtain⟨f,p⟩:=Classical.axiomOfChoice ex;have o:∀j∈List.range b.toNat,j<=1000:=λj e=>by
  have:=YX.mp e;omega
 refine⟨(List.range b.toNat).map f,?_,by rw[Zy,Z1];omega,?_,λt s c v=>?_⟩
 ·rw[ZF];refine bX (m:=.fr) (λ(j:Nat)=>T.int (j:Int)) (λj=>T.str (f j)) (List.range b.toNat) ?_ Y (by rw[Z1];omega) λj e=>⟨_,rfl,aN (xv (x:=(.fr,.scr i)) Y (xv (x:=(.fr,.str L)) Y (xv (x:=(.fr,.int d)) Y (xv (x:=(.fr,.int (j:Int))) (r:=ag) Y Y)))) (p j (o j e)).1⟩
  rw[jN (m:=.fr) (j:=b) Y (by omega),nG]
 ·generalize b.toNat=n at o ⊢;have:∀l:W7,(∀j∈l,j<=1000)->(l.map f).flatten.length<=l.length*d.toNat:=by
   intro l
   induction l with
   |nil=>intro _;exact Yw _
   |cons a l q =>
    intro h;have D:=q λj e=>h j (Zx _ e);have C:=(p a (h a Zw)).2.1;rw[Zi,ZR,Zt,Zf,Nat.succ_mul];omega
  have:=this (List.range n) o;rw[Z1]at this;exact this
 ·obtain⟨j,e,rfl⟩:=Z0.mp s;exact z c ((p j (o j e)).2.2 c v)
noncomputable def eQ:List Tx:=[[97,98],[97,98,99],[97,98,99,100],[97,122],[97],[97,98,99,100,101,102,103,104,105,106,107,108,109,110,111,112,113,114,115,116,117,118,119,120,121,122]]
noncomputable def counts:W8:=[1,2,3,4,2,1,0,8]
def rM:(∀k,k<6->0<(eQ.getD k []).length/\(eQ.getD k []).length<1000/\∀c∈eQ.getD k [],97<=c/\c<=122)/\∀k,k<8->0<=counts.getD k 0/\counts.getD k 0<=8:=by decide
def zc{m n:Md}(c:Int)(b:0<=c)(a:c<=8):∃most:Int,ay (m,.lst [.int 24,.int 12,.int 8,.int 6]) (n,.int ((if 4<c then 4 else c)-1))=Z (.fr,.int most)/\0<=most/\most<=24/\c.toNat*most.toNat<=60:=by
 have:c=0\/c=1\/c=2\/c=3\/c=4\/4<c:=by omega
 rcases this with rfl | rfl | rfl | rfl | rfl | h
 ·exact⟨6,rfl,by decide,by decide,by decide⟩
 ·exact⟨24,rfl,by decide,by decide,by decide⟩
 ·exact⟨12,rfl,by decide,by decide,by decide⟩
 ·exact⟨8,rfl,by decide,by decide,by decide⟩
 ·exact⟨6,rfl,by decide,by decide,by decide⟩
 ·rw[Zp h];refine⟨6,rfl,by decide,by decide,?_⟩;show c.toNat*6<=60;omega
def Cs(a:W8):∃bk:List Tx,fP [.scr a]=Z (.fr,.lst (bk.map .str))/\bk.length<=8/\bk.flatten.length<=120/\∀t∈bk,∀c∈t,97<=c/\c<=122:=by
 generalize S:cellAt a 0=cell;have a0:=Ym (cell/2) (b:=6) (by decide);have a1:=Yz (cell/2) (b:=6) (by decide);have b0:=Ym (cell/12) (b:=8) (by decide);have b1:=Yz (cell/12) (b:=8) (by decide);obtain⟨u,s,p⟩:=rM.1 (cell/2%6).toNat (by omega);obtain⟨f,l⟩:=rM.2 (cell/12%8).toNat (by omega);have li:=sN (m:=.fr) (n:=.fr) T.str eQ (cell/2%6) [] a0 (by show cell/2%6<6;exact a1) Y;have ci:=sN (m:=.fr) (n:=.fr) T.int counts (cell/12%8) 0 b0 (by show cell/12%8<8;exact b1) Y;have fd:∀(U:Env)(q:Int),0<q/\q<1073741824->ab 1 U=Z (Md.fr,T.int cell)->e2 bC (ab 1) (Q3 q) U=Z (.fr,.int (cell/q)):=λU q v h=>e2v h (y:=(.fr,.int q)) Y (ic v);have A:∀(U:Env)(q r:Int),0<q/\q<1073741824->0<r->ab 1 U=Z (Md.fr,T.int cell)->e2 oMod (e2 bC (ab 1) (Q3 q)) (Q3 r) U=Z (.fr,.int (cell/q%r)):=λU q r v R h=>e2v (fd U q v h) (y:=(.fr,.int r)) Y (cj R);generalize eQ.getD (cell/2%6).toNat []=L at u s p li;generalize counts.getD (cell/12%8).toNat 0=count at f l ci;obtain⟨most,N,P,m1,m2⟩:=zc (m:=.fr) (n:=.fr) count f l;have H:aB 1 (aQ aE (ae (ab 0) (ae (Q3 0) ag))) [pc (.scr a),none,none,none,none]=Z (.nx [pc (.scr a),Q0 cell,none,none,none]):=by
  rw[← S];exact ax (m:=.fr) (kf (k:=0) Y Y) (by decide) (by show 1<5;decide)
 have M:e2 oMod (e2 bC (ab 1) (Q3 2)) (Q3 6) [pc (.scr a),Q0 cell,none,none,none]=Z (.fr,.int (cell/2%6)):=A _ 2 6 (by decide) (by decide) Y;have J:e2 oMod (e2 bC (ab 1) (Q3 12)) (Q3 8) [pc (.scr a),Q0 cell,Q2 L,none,none]=Z (.fr,.int (cell/12%8)):=A _ 12 8 (by decide) (by decide) Y;have F:∀x,e2 oMod (e2 bC (ab 1) (Q3 96)) (Q3 8) (EB a cell L count x)=Z (.fr,.int (cell/96%8)):=λx=>A _ 96 8 (by decide) (by decide) Y;have fin:∀(x:Int),0<=x->x<1000->count.toNat*x.toNat<=120->∃bk:List Tx,(aq (GH (fH (e2 oEq (ab 3) (Q3 8)) (e2 IQ (e2 oMod (e2 bC (ab 1) (Q3 96)) (Q3 8)) (Q3 5))) (aB 4 (Q3 3)) dH) (cX (cT 1 (ba 0) (dw (ab 3)) none (aQ dC (ae (ab 1) (ae (ab 3) (ae (ab 5) (ae (ab 0) ag)))))))) (EB a cell L count x)=Z (.rt (.fr,.lst (bk.map .str)) (EB a cell L count (if (count==8 && !(cell/96%8==5))=B then 3 else x)))/\bk.length<=8/\bk.flatten.length<=120/\∀t∈bk,∀c∈t,97<=c/\c<=122:=by
  intro x d C x2;have i:fH (e2 oEq (ab 3) (Q3 8)) (e2 IQ (e2 oMod (e2 bC (ab 1) (Q3 96)) (Q3 8)) (Q3 5)) (EB a cell L count x)=Z (.fr,.bl (count==8 && !(cell/96%8==5))):=by
   refine rX (m:=.fr) (n:=.fr) (e2v (x:=(.fr,.int count)) (y:=(.fr,.int 8)) Y Y (gx Y Y ?_)) (e2v (F x) (y:=(.fr,.int 5)) Y (uE Y Y ?_))
   ·simp only[eqT]
   ·simp only[eqT]
  cases hb:(count==8 && !(cell/96%8==5)) with
  |true =>
   rw[hb]at i;have c8:count=8:=beq_iff_eq.mp (Zb.mp hb).1;obtain⟨bk,e,z,E,w⟩:=ox a L 3 count cell (by decide) (by decide) f l u s p;exact⟨bk,(bD ((yp i).trans (show aB 4 (Q3 3) (EB a cell L count x)=Z (.nx (EB a cell L count 3)) from rfl))).trans (bQ e),z,ZY E (by rw[c8];decide),w⟩
  |false =>
   rw[hb]at i;obtain⟨bk,e,z,E,w⟩:=ox a L x count cell d C f l u s p;exact⟨bk,(bD ((vo i).trans Y)).trans (bQ e),z,by omega,w⟩
 have pre:∀rest:Sx,aq (aB 1 (aQ aE (ae (ab 0) (ae (Q3 0) ag)))) (aq (aB 2 (e2 ay (cQ (ae (eC (.str [97,98])) (ae (eC (.str [97,98,99])) (ae (eC (.str [97,98,99,100])) (ae (eC (.str [97,122])) (ae (eC (.str [97])) (ae (eC (.str [97,98,99,100,101,102,103,104,105,106,107,108,109,110,111,112,113,114,115,116,117,118,119,120,121,122])) ag))))))) (e2 oMod (e2 bC (ab 1) (Q3 2)) (Q3 6)))) (aq (aB 3 (e2 ay (cQ (ae (Q3 1) (ae (Q3 2) (ae (Q3 3) (ae (Q3 4) (ae (Q3 2) (ae (Q3 1) (ae (Q3 0) (ae (Q3 8) ag))))))))) (e2 oMod (e2 bC (ab 1) (Q3 12)) (Q3 8)))) (aq (aB 4 (e2 ay (cQ (ae (Q3 24) (ae (Q3 12) (ae (Q3 8) (ae (Q3 6) ag))))) (e2 qh (eN rW (ae (ab 3) (ae (Q3 4) ag))) (Q3 1)))) rest))) [pc (.scr a),none,none,none,none]=rest (EB a cell L count most):=λrest =>
  (bD H).trans ((bD (ax (m:=.fr) (e2v (x:=(.fr,.lst (eQ.map T.str))) Y M li) (by decide) (by show 2<5;decide))).trans ((bD (ax (m:=.fr) (e2v (x:=(.fr,.lst (counts.map T.int))) Y J ci) (by decide) (by show 3<5;decide))).trans (bD (ax (m:=.fr) (e2v (x:=(.fr,.lst [.int 24,.int 12,.int 8,.int 6])) Y (y:=(.fr,.int ((if 4<count then 4 else count)-1))) Y N) (by decide) (by show 4<5;decide)))))
 have j:e2 oEq (e2 oMod (e2 bC (ab 1) (Q3 96)) (Q3 8)) (Q3 5) (EB a cell L count most)=Z (.fr,.bl (cell/96%8==5)):=by
  refine e2v (F most) (y:=(.fr,.int 5)) Y (gx Y Y ?_);simp only[eqT]
 cases hb:(cell/96%8==5) with
 |true =>
  rw[hb]at j;generalize X:(60:Int)=Q;have o:(1:Int)<=(if count > 1 then count else 1)/\(if count > 1 then count else 1)<=8/\count<=(if count > 1 then count else 1):=by split<;>omega
  generalize hM:(if count > 1 then count else 1)=Mq at o;have D:aB 4 (e2 bC (Q3 Q) (eN qq (ae (Q3 1) (ae (ab 3) ag)))) (EB a cell L count most)=Z (.nx (EB a cell L count (Q/Mq))):=by
   refine ax (m:=.fr) (e2v (x:=(.fr,.int Q)) Y (y:=(.fr,.int Mq)) ?_ (ic (by omega))) (by decide) (by show 4<5;decide);rw[← hM];rfl
  have d:0<=Q/Mq:=Int.ediv_nonneg (by omega) (by omega);have C:Mq*(Q/Mq)<=Q:=Int.mul_ediv_self_le (by omega);have x2:count*(Q/Mq)<=Mq*(Q/Mq):=WY o.2.2 d;have x3:1*(Q/Mq)<=Mq*(Q/Mq):=WY o.1 d;have G:count.toNat*(Q/Mq).toNat<=120:=by
   have:((count.toNat*(Q/Mq).toNat:Nat):Int)=count*(Q/Mq):=by rw[Int.natCast_mul,Wt f,Wt d]
   omega
  obtain⟨bk,e,g⟩:=fin (Q/Mq) d (by omega) G;rw[← X]at D e;exact⟨bk,cA Y ((pre _).trans ((bD ((yp j).trans D)).trans e)),g⟩
 |false =>
  rw[hb]at j;obtain⟨bk,e,g⟩:=fin most P (by omega) (by omega);exact⟨bk,cA Y ((pre _).trans ((bD ((vo j).trans Y)).trans e)),g⟩
def wK{m:Md}{n:Nat}(e:a U=Z (m,.int (n:Int)))(h:n<100000):dw a U=Z (.fr,(List.range n).map λ(k:Nat)=>T.int (k:Int)):=by
 rw[jN e (by lia),nG];rfl
def A2(t:Tx)(i L:Nat)(h:i<=t.length):cut t (Z (i:Int)) (Z ((i:Int)+(L:Int)))=(t.drop i).take L:=by
 have b:¬((i:Int)<0):=by lia
 have a:¬((i:Int)+(L:Int)<0):=by lia
 simp only[cut,clip,Zn b,Zn a,Z9];rw[show ((i:Int)+(L:Int)).toNat=i+L by lia,Yd h];by_cases q:i+L<=t.length
 ·rw[Yd q,show i+L-i=L by exact Nat.add_sub_cancel_left _ _]
 ·rw[X0 (by exact XZ q),Y0 (l:=t.drop i) (by simp),Y0 (l:=t.drop i) (by simp;lia)]
noncomputable abbrev G9:Nat:=1000000000
def Gd(n:Nat):Tx:=lM (n:Int)
def uu(n:Nat):Gd n=(Nat.toDigits 10 n).map Char.toNat:=PySem.W.KIN.signs_num n
def dig:∀d:Nat,d<10->(Nat.digitChar d).toNat=48+d:=by decide
def qz(h:n<10):Gd n=[48+n]:=by
 rw[uu,Nat.toDigits_of_lt_base h,Zi,dig n h];rfl
def xK(h:10<=n):Gd n=Gd (n/10)++[48+n%10]:=by
 have a:n%10<10:=Nat.mod_lt n (by decide);have t:Nat.toDigits 10 (n/10)++Nat.toDigits 10 (n%10)=Nat.toDigits 10 (10*(n/10)+n%10):=Nat.toDigits_append_toDigits (by decide) (by omega) a;rw[Nat.div_add_mod]at t;rw[uu,← t,Z3,← uu,← uu,qz a]
def CM(n:Nat):∀c∈Gd n,48<=c/\c<=57:=by
 induction n using Nat.strongRecOn with
 |_ n ih =>
  intro c hc;by_cases h:n<10
  ·rw[qz h]at hc;cases Zj.mp hc;omega
  ·rw[xK (by omega)]at hc;rcases Zd.mp hc with hc | hc
   ·exact ih (n/10) (by omega) c hc
   ·cases Zj.mp hc;omega
theorem wg:∀(k n:Nat),n<10 ^ (k+1)->(Gd n).length<=k+1
 |0,n,h=>by rw[qz (by simpa using h)];exact Zm _
 |k+1,n,h=>by
  by_cases g:n<10
  ·rw[qz g];exact Yl (Yw _)
  ·have:=wg k (n/10) (by rw[Nat.pow_succ]at h;omega);rw[xK (by omega),Zt];exact Yl this
def Ec(n:Nat):∃c r,Gd n=c :: r/\(c=48->r=[])/\(n≠0->49<=c):=by
 induction n using Nat.strongRecOn with
 |_ n ih =>
  by_cases h:n<10
  ·exact⟨48+n,[],qz h,λ_=>rfl,λz=>by omega⟩
  ·obtain⟨c,r,e,_,q⟩:=ih (n/10) (by omega);have:=q (by omega);exact⟨c,r++[48+n%10],by rw[xK (by omega),e];rfl,λz=>by omega,λ_=>this⟩
structure Nm(t:Tx):Prop where
 hd:∃c r,t=c :: r/\(c=48->r=[])
 len:t.length<=9
 az:∀c∈t,48<=c/\c<=57
def eA(h:n<G9):Nm (Gd n):=by
 obtain⟨c,r,e,q,_⟩:=Ec n;exact⟨⟨c,r,e,q⟩,wg 8 n h,CM n⟩
def wk{t:Tx}(h:t.length<=1000000)(a:∀c∈t,c<256):Lb t=B:=by
 unfold Lb;rw[Ye];refine⟨decide_eq_true (by show t.length<=16777216;omega),ZE.mpr λc b=>decide_eq_true ?_⟩;have:=a c b;omega
def wA{m:Md}(h:n<G9):g6 [(m,.int (n:Int))]=Z (.fr,.str (Gd n)):=by
 have N:=eA h;refine Zp ⟨?_,wk (t:=Gd n) (by have:=N.len;omega) λc a=>by have:=(N.az c a).2;omega⟩;show n.log2<1920;by_cases z:n=0
 ·subst z;decide
 ·rw[Nat.log2_lt z];exact Wk h (by decide)
def wM(h:n<G9):Ca (Gd n)=Z (n:Int):=by
 have:=PySem.W.KIN.num_reads (n:=(n:Int)) (Xo n) (by have:(n:Int)<(G9:Nat):=Wf.mpr h;exact Int.lt_trans this (by decide));unfold Ca;rw[show sx (Gd n)=PySem.Str.ofString (toString (n:Int)) by simp[sx,Gd,lM]];exact this
def Do(h:n<G9):jm [(m,.str (Gd n))]=Z (.fr,.int (n:Int)):=by
 refine(Zp (ZY (eA h).len (by decide))).trans ?_;rw[wM h];rfl
def nk{m:Md}{n:Nat}(he:e U=Z (m,.int (n:Int)))(h:n<G9):eN g6 (ae e ag) U=Z (.fr,.str (Gd n)):=fJ (xv (r:=ag) he Y) (wA h)
def uG{m:Md}{n:Nat}(he:e U=Z (m,.str (Gd n)))(h:n<G9):eN jm (ae e ag) U=Z (.fr,.int (n:Int)):=fJ (xv (r:=ag) he Y) (Do h)
end T51
end
section
namespace T51
open VS AU
def Gg(p:Nat×Nat):Tx:=p.1 :: 58 :: Gd p.2
def Ie:Option Nat->Tx
 |none=>[45]
 |some k=>Gd k
def GQ(r:Row):List Tx:=Gd r.1 :: Gd r.2.1 :: Ie r.2.2.1 :: r.2.2.2.map Gg
def Gi(r:Row):Tx:=bc [32] (GQ r)
structure Ro(r:Row):Prop where
 lo:r.1<G9
 hi:r.2.1<G9
 lk:∀k,r.2.2.1=some k->k<G9
 ws:∀p∈r.2.2.2,97<=p.1/\p.1<=122/\p.2<G9
 up:r.2.2.2.Pairwise (λa b=>a.1<b.1)
 GB:r.2.2.2.length<=26
def gq(h:FW t=B):up m t=(.fr,t):=by unfold up;rw[Zp h]
def xf(h:Ro r):(Ie r.2.2.1).length<=9/\Ie r.2.2.1≠[]/\∀c∈Ie r.2.2.1,45<=c/\c<=57:=by
 cases e:r.2.2.1 with
 |none=>exact⟨by decide,by decide,by decide⟩
 |some k =>
  have N:=eA (h.lk k e);obtain⟨c,q,e,_⟩:=N.hd;exact⟨N.len,λz=>(by rw[show Gd k=[] from z]at e;cases e),λc a=>by have:=N.az c a;omega⟩
def tD(h:Ro r):∀x∈GQ r,x.length<=11/\∀c∈x,45<=c/\c<=122:=by
 intro x e;rcases Zk.mp e with rfl | e
 ·have N:=eA h.lo;exact⟨ZY N.len (by decide),λc d=>by have:=N.az c d;omega⟩
 rcases Zk.mp e with rfl | e
 ·have N:=eA h.hi;exact⟨ZY N.len (by decide),λc d=>by have:=N.az c d;omega⟩
 rcases Zk.mp e with rfl | e
 ·obtain⟨a,_,b⟩:=xf h;exact⟨ZY a (by decide),λc d=>by have:=b c d;omega⟩
 ·obtain⟨p,g,rfl⟩:=Z0.mp e;obtain⟨j,i,f⟩:=h.ws p g;have N:=eA f;refine⟨Yl (Yl N.len),λc d=>?_⟩;rcases Zk.mp d with rfl | d
  ·omega
  rcases Zk.mp d with rfl | d
  ·decide
  ·have:=N.az c d;omega
def lX(h:Ro r):(GQ r).length<=29:=by
 have:=h.GB;unfold GQ;rw[Zf,Zf,Zf,Zy];omega
theorem pU(k:Nat):∀l:List Tx,(∀x∈l,x.length<=k)->total l<=l.length*k
 |[],_=>Yw _
 |a :: l,h=>by
  have e:=pU k l λx b=>h x (Zx _ b);have d:=h a Zw;show a.length+total l<=(l.length+1)*k;rw[Nat.succ_mul];omega
theorem m8(c:Nat):∀l:List Tx,(bc [c] l).length<=total l+l.length
 |[]=>Yw _
 |[x]=>by show x.length<=x.length+0+1;omega
 |x :: y :: r=>by
  have:=m8 c (y :: r);show (x++[c]++bc [c] (y :: r)).length<=x.length+total (y :: r)+((y :: r).length+1);rw[Zt,Zt,Za];omega
theorem rY:∀{l:List Tx},y∈bc [c] l->y=c\/∃x∈l,y∈x
 |[x],h=>.inr ⟨x,Zw,h⟩
 |x :: z :: r,h=>by
  rcases Zd.mp (show y∈x++[c]++bc [c] (z :: r) from h) with h | h
  ·rcases Zd.mp h with h | h
   ·exact .inr ⟨x,Zw,h⟩
   ·exact .inl (Zj.mp h)
  ·rcases rY h with h | ⟨q,b,a⟩
   ·exact .inl h
   ·exact .inr ⟨q,Zx _ b,a⟩
def si(h:Ro r):(Gi r).length<=400/\∀c∈Gi r,32<=c/\c<=122:=by
 have f:=tD h;have l:=lX h;have t:=pU 11 (GQ r) λx a=>(f x a).1;have j:=m8 32 (GQ r);refine⟨by unfold Gi;omega,λc b=>?_⟩;rcases rY b with rfl | ⟨x,a,b⟩
 ·decide
 ·have:=(f x a).2 c b;omega
def qc{m:Md}{ss:List Tx}(h:total ss+ss.length<=16777216):iX (m,.str [c]) [(n,.lst (ss.map .str))]=Z (.fr,.str (bc [c] ss)):=by
 have e:=strs_map id ss;rw[Wy]at e;show (strs? (ss.map .str)).bind _=_;rw[show ss.map T.str=ss.map (λx=>T.str (id x)) from rfl,e,Zs];exact Zp (by show _<=16777216;rw[Za];omega)
def zX{x:Val}(g:o U=Z x)(e:b U=Z a)(d:f x a=Z v):eM f o b U=Z v:=by
 show (o U).bind _=_;rw[g,Zs,e];exact d
def sj{U:Env}{r:Row}(h:U[0]?=Z (pc (cR r))):e2 ay (ab 0) (Q3 0) U=Z (.fr,.int (r.1:Int))/\e2 ay (ab 0) (Q3 1) U=Z (.fr,.int (r.2.1:Int))/\e2 ay (ab 0) (Q3 2) U=Z (.fr,DP r.2.2.1)/\e2 ay (ab 0) (Q3 3) U=Z (.fr,Hk r.2.2.2):=by
 have v:ab 0 U=Z (.fr,cR r):=by
  unfold ab;rw[h];exact congrArg Z (gq (qd r))
 exact⟨e2v v Y Y,e2v v Y Y,e2v v Y (congrArg Z (gq (gO _))),e2v v Y (congrArg Z (gq (iU _)))⟩
def C6{m:Md}(h:n<G9):sP (m,.int (n:Int))=Z (.fr,.str (Gd n)):=(wA (m:=m) h)
def xX{s t:Tx}(h:s.length+t.length<=16777216):oW (m,.str s) (n,.str t)=Z (.fr,.str (s++t)):=Zp h
def RW{x y:Val}(d:a U=Z x)(b:f x=Z y):e1 f a U=Z y:=by
 show (a U).bind _=_;rw[d];exact b
def vQ(h:c U=Z (m,.bl B))(q:a U=v):Kx c a b U=v:=by
 show (c U).bind _=_;rw[h];exact q
def xD(h:c U=Z (m,.bl O))(q:b U=v):Kx c a b U=v:=by
 show (c U).bind _=_;rw[h];exact q
def o8{m:Md}{t:T}(h:a U=Z (m,t)):vm a U=Z (.fr,.bl (Lm t)):=by
 show (a U).bind _=_;rw[h];rfl
def sD(h:Ro r):iy [cR r]=Z (.fr,.str (Gi r)):=by
 obtain⟨v,u,a,s⟩:=sj (U:=[pc (cR r),L,L]) (r:=r) Y;obtain⟨q,o,n,l⟩:=sj (U:=[pc (cR r),Q2 (Ie r.2.2.1),L]) (r:=r) Y;obtain⟨j,i,_,_⟩:=sj (U:=[pc (cR r),Q2 (Ie r.2.2.1),pc (.lst ((r.2.2.2.map Gg).map .str))]) (r:=r) Y;have e:=lX h;have t:=pU 11 (GQ r) λx f=>(tD h x f).1;have lk:Kx (vm (e2 ay (ab 0) (Q3 2))) (eC (.str [45])) (eN g6 (ae (e2 ay (ab 0) (Q3 2)) ag)) [pc (cR r),L,L]=Z (.fr,.str (Ie r.2.2.1)):=by
  cases b:r.2.2.1 with
  |none=>exact vQ (o8 (by rw[b]at a;exact a)) Y
  |some k=>exact xD (o8 (t:=.int (k:Int)) (by rw[b]at a;exact a)) (nk (by rw[b]at a;exact a) (h.lk k b))
 have wy:cT 2 (jM [ba 0,ba 1]) (fE (e2 ay (ab 0) (Q3 3))) L (e2 oW (e2 oW (e1 sP (ab 0)) (eC (.str [58]))) (e1 sP (ab 1))) [pc (cR r),Q2 (Ie r.2.2.1),L]=Z (.fr,.lst ((r.2.2.2.map Gg).map .str)):=by
  rw[ZF];refine bX (m:=.fr) (λp:Nat×Nat=>T.tup [.str [p.1],.int (p.2:Int)]) (λp=>T.str (Gg p)) r.2.2.2 ?_ Y (ZY h.GB (by decide)) λp g=>⟨[Q2 ([p.1]),Q0 (p.2:Int),pc (cR r),Q2 (Ie r.2.2.1),L],rfl,?_⟩
  ·show (e2 ay (ab 0) (Q3 3) _).bind pb=_;rw[l];rfl
  ·obtain⟨_,_,d⟩:=h.ws p g;have N:=(eA d).len;exact e2v (e2v (RW (x:=(.fr,.str [p.1])) (y:=(.fr,.str [p.1])) Y Y) (y:=(.fr,.str [58])) Y (xX (by show 2<=16777216;decide))) (RW (x:=(.fr,.int (p.2:Int))) Y (C6 d)) (xX (by show 2+(Gd p.2).length<=_;omega))
 refine cA (U:=[pc (cR r),Q2 (Ie r.2.2.1),pc (.lst ((r.2.2.2.map Gg).map .str))]) Y (sq (ax lk (by decide) (by decide:1<3)) (sq (ax wy (by decide) (by decide:2<3)) (bQ ?_)));refine zX (x:=(.fr,.str [32])) Y (xv (r:=ag) (CG (x:=[Gd r.1,Gd r.2.1,Ie r.2.2.1]) (y:=r.2.2.2.map Gg) (Dq [Gd r.1,Gd r.2.1,Ie r.2.2.1] (xv (nk j h.lo) (xv (nk i h.hi) (xv (r:=ag) (x:=(.fr,.str (Ie r.2.2.1))) Y Y))) (by show 3<=_;decide)) Y ?_) Y) (qc (ss:=GQ r) (by omega));show 3+_<=_;rw[Zy];have:=h.GB;omega
def txt(R:List Row):Tx:=bc [10] (R.map Gi)
structure Tb(R:List Row):Prop where
 ro:∀r∈R,Ro r
 GB:R.length<=300
 ne:R≠[]
def pO(h:Tb R):total (R.map Gi)+(R.map Gi).length<=200000:=by
 have t:=pU 400 (R.map Gi) λx a=>by
  obtain⟨r,b,rfl⟩:=Z0.mp a;exact(si (h.ro r b)).1
 have:=h.GB;rw[Zy]at t ⊢;omega
def CC(h:Tb R):fF [FV R]=Z (.fr,.str (txt R)):=by
 refine cA (U:=[pc (FV R)]) Y (bQ (zX (x:=(.fr,.str [10])) Y (xv (r:=ag) (x:=(.fr,.lst ((R.map Gi).map .str))) ?_ Y) (qc (by have:=pO h;omega))));rw[ZF];refine bX (m:=.pu) cR (λr=>T.str (Gi r)) R Y Y (ZY h.GB (by decide)) λr a=>⟨[pc (cR r),pc (FV R)],rfl,aN (xv (r:=ag) (x:=(.fr,cR r)) ?_ Y) (sD (h.ro r a))⟩
 exact congrArg Z (gq (qd r))
theorem oF(c:Nat)(x:Tx):∀l:List Tx,bc [c] (x :: l)=x++(l.map λy=>c :: y).flatten
 |[]=>(ZJ x).symm
 |y :: l=>by
  show x++[c]++bc [c] (y :: l)=_;rw[oF c y l,Z2];rfl
def LA(r:Row):Tx:=Gd r.1++[32]++Gd r.2.1++[32]++Ie r.2.2.1
def L3(l:List (Nat×Nat)):Tx:=(l.map λp=>32 :: Gg p).flatten
def Ds(r:Row):Gi r=LA r++L3 r.2.2.2:=by
 unfold Gi GQ LA L3;rw[oF,Zi,Zi,ZR,ZR,ZF];simp only[Z2,YR,YK];rfl
abbrev EV(R:List Row)(e:List Tx)(a b c d:Vz)(f:Vz)(x y:Vz):Env:=[pc (FV R),oc (.lst (e.map .str)),a,b,c,d,f,x,y]
theorem D8{R:List Row}{ls:List Tx}{a b c d:Vz}:∀(l:List (Nat×Nat))(s:Tx)(x y:Vz),(∀p∈l,p.2<G9)->s.length+12*l.length<=100000 →
  ∃g f,forL (jM [ba 7,ba 8]) kE (l.map λp=>T.tup [.str [p.1],.int (p.2:Int)]) (EV R ls a b c d (Q2 s) x y)=Z (.nx (EV R ls a b c d (Q2 (s++L3 l)) g f))
 |[],s,x,y,_,_=>⟨x,y,by unfold L3;rw[Xg,Xg,List.flatten_nil,ZJ];rfl⟩
 |p :: l,s,x,y,h,o=>by
  have i:=h p Zw;have N:=(eA i).len;rw[Zf]at o;have e:s++[32]++[p.1]++[58]++Gd p.2=s++32 :: Gg p:=by
   simp only[Z2,YR,YK];rfl
  have r:(s++32 :: Gg p).length=s.length+(3+(Gd p.2).length):=by
   rw[Zt];show s.length+((Gd p.2).length+1+1+1)=_;omega
  obtain⟨g,f,q⟩:=D8 l (s++32 :: Gg p) (Q2 ([p.1])) (Q0 (p.2:Int)) (λq j=>h q (Zx _ j)) (by rw[r];omega);refine⟨g,f,?_⟩;rw[Zi];refine(dU (U1:=EV R ls a b c d (Q2 s) (Q2 ([p.1])) (Q0 (p.2:Int))) Y (ax (m:=.fr) (t:=.str (s++32 :: Gg p)) ?_ (by decide) (by show 6<9;decide))).trans (q.trans ?_)
  ·rw[← e];refine iC (iC (iC (iC (m:=.fr) (n:=.fr) Y Y ?_) (m:=.fr) (n:=.fr) (y:=[p.1]) Y ?_) (n:=.fr) (y:=[58]) Y ?_) (nk (m:=.fr) Y i) ?_
   all_goals (simp only[Zt,Za];omega)
  ·rw[show L3 (p :: l)=(32 :: Gg p)++L3 l from rfl,Z2]
def Fb{R:List Row}(h:Ro r){ls:List Tx}(w:ls.length<1000)(a b c d e x y:Vz):∃j g,(∃U1,jM [ba 2,ba 3,ba 4,ba 5] (cR r) (EV R ls a b c d e x y)=Z U1/\fC U1=Z (.nx (EV R (ls++[Gi r]) (Q0 (r.1:Int)) (Q0 (r.2.1:Int)) (pc (DP r.2.2.1)) (pc (Hk r.2.2.2)) (Q2 (Gi r)) j g))):=by
 have C:=(eA h.lo).len;have A:=(eA h.hi).len;have z:=(xf h).1;have hw:(LA r).length<=40:=by
  unfold LA;simp only[Zt,Za];omega
 obtain⟨j,g,q⟩:=D8 (R:=R) (ls:=ls) (a:=Q0 (r.1:Int)) (b:=Q0 (r.2.1:Int)) (c:=pc (DP r.2.2.1)) (d:=pc (Hk r.2.2.2)) r.2.2.2 (LA r) x y (λp s=>(h.ws p s).2.2) (by have:=h.GB;omega);refine⟨j,g,_,rfl,?_⟩;unfold fC;refine sq (U1:=EV R ls (Q0 (r.1:Int)) (Q0 (r.2.1:Int)) (pc (DP r.2.2.1)) (pc (Hk r.2.2.2)) (Q2 (Gd r.1++[32]++Gd r.2.1++[32])) x y) (ax (m:=.fr) ?_ (by decide) (by show 6<9;decide)) (sq (U1:=EV R ls (Q0 (r.1:Int)) (Q0 (r.2.1:Int)) (pc (DP r.2.2.1)) (pc (Hk r.2.2.2)) (Q2 (LA r)) x y) ?_ (sq (U1:=EV R ls (Q0 (r.1:Int)) (Q0 (r.2.1:Int)) (pc (DP r.2.2.1)) (pc (Hk r.2.2.2)) (Q2 (Gi r)) j g) ?_ ?_))
 ·refine iC (iC (iC (nk (m:=.fr) Y h.lo) (n:=.fr) (y:=[32]) Y ?_) (nk (m:=.fr) Y h.hi) ?_) (n:=.fr) (y:=[32]) Y ?_
  all_goals (simp only[Zt,Za];omega)
 ·have u:(Gd r.1++[32]++Gd r.2.1++[32]).length+9<=16777216:=by
   simp only[Zt,Za];omega
  have f:ab 4 (EV R ls (Q0 (r.1:Int)) (Q0 (r.2.1:Int)) (pc (DP r.2.2.1)) (pc (Hk r.2.2.2)) (Q2 (Gd r.1++[32]++Gd r.2.1++[32])) x y)=Z (.fr,DP r.2.2.1):=congrArg Z (gq (gO _));unfold LA;cases o:r.2.2.1 with
  |none =>
   rw[o]at f;exact Ks (o8 f) (ax (m:=.fr) (iC (m:=.fr) (n:=.fr) Y Y (by show _+1<=_;omega)) (by decide) (by show 6<9;decide))
  |some k =>
   rw[o]at f;have N:=(eA (h.lk k o)).len;exact iH (o8 (t:=.int (k:Int)) f) (ax (m:=.fr) (iC (m:=.fr) (y:=Gd k) Y (nk (m:=.fr) f (h.lk k o)) (by omega)) (by decide) (by show 6<9;decide))
 ·rw[← Ds]at q;refine(eZ (m:=.fr) (l:=r.2.2.2.map λp=>T.tup [.str [p.1],.int (p.2:Int)]) ?_ Y).trans q;show ((Z (up .pu (Hk r.2.2.2))).bind pb)=_;rw[gq (iU _)];rfl
 ·rw[lA (i:=1) (l:=ls.map .str) (v:=.str (Gi r)) Y Y (by rw[Zy];omega)];show Z (Out.nx [pc (FV R),oc (.lst (ls.map T.str++[T.str (Gi r)])),_,_,_,_,_,_,_])=_;rw[show ls.map T.str++[T.str (Gi r)]=(ls++[Gi r]).map T.str by rw[Z3];rfl]
theorem DZ{R:List Row}:∀(l:List Row)(ls:List Tx)(a b c d e x y:Vz),(∀r∈l,Ro r)->ls.length+l.length<=900->∃o n m j i g f,forL (jM [ba 2,ba 3,ba 4,ba 5]) fC (l.map cR) (EV R ls a b c d e x y)=Z (.nx (EV R (ls++l.map Gi) o n m j i g f))
 |[],ls,a,b,c,d,e,x,y,_,_=>⟨a,b,c,d,e,x,y,by rw[Xg,Xg,ZJ];rfl⟩
 |r :: l,ls,a,b,c,d,e,x,y,h,u=>by
  rw[Zf]at u;obtain⟨s,p,U1,w,v⟩:=Fb (R:=R) (h r Zw) (ls:=ls) (by omega) a b c d e x y;obtain⟨o,n,m,j,i,g,f,q⟩:=DZ l (ls++[Gi r]) _ _ _ _ _ s p (λz t=>h z (Zx _ t)) (by rw[Zt,Za];omega);refine⟨o,n,m,j,i,g,f,?_⟩;rw[Zi];exact(dU w v).trans (q.trans (by rw[Z2];rfl))
def DY(h:Tb R):jc [FV R]=Z (.fr,.str (txt R)):=by
 obtain⟨a,b,c,d,e,x,y,q⟩:=DZ (R:=R) R [] L L L L L L L h.ro (by have:=h.GB;show 0+_<=_;omega);refine cA (U:=[pc (FV R),pc (.lst ((R.map Gi).map .str)),a,b,c,d,e,x,y]) Y (sq (U1:=EV R [] L L L L L L L) Y (sq (U1:=EV R (R.map Gi) a b c d e x y) ((eZ (m:=.pu) (l:=R.map cR) Y Y).trans q) (sq Y (bQ (zX (x:=(.fr,.str [10])) Y (xv (r:=ag) (x:=up .pu (.lst ((R.map Gi).map .str))) Y Y) (qc (by have:=pO h;omega)))))))
theorem jx(s:Nat):∀(w:Tx)(l:List Tx),(∀x∈w :: l,s∉x)->aZ s (bc [s] (w :: l))=w :: l
 |[],[],_=>rfl
 |[],y :: r,h=>by
  have b:=jx s y r (λx d=>h x (Zx _ d));simp only[bc,YK,YR,aZ,Zp,b]
 |a :: w,l,h=>by
  have g:a≠s:=λe=>h (a :: w) Zw (by simp[e]);have b:=jx s w l (λx d=>by
   rcases Zk.mp d with e | e
   ·subst e;exact λf=>h (a :: x) Zw (Zx _ f)
   ·exact h x (Zx _ e))
  have:bc [s] ((a :: w) :: l)=a :: bc [s] (w :: l):=by cases l<;>simp[bc]
  rw[this];simp only[aZ,Zn g,b]
def qK{a:Ex}{m:Md}{l:List Tx}(h:a U=Z (m,.str (bc [s] l)))(e:s<256)(f:(bc [s] l).length<16777216)(d:l≠[])(b:∀x∈l,s∉x):eM gK a (ae (eC (.str [s])) ag) U=Z (.fr,.lst (l.map .str)):=by
 obtain⟨w,l,rfl⟩:=List.exists_cons_of_ne_nil d;refine zX h Y ((Zp ⟨e,f⟩).trans ?_);rw[jx s w l b]
def yd{α:Type}(l:List α)(k:Nat):cut l L (Z (k:Int))=l.take k:=by
 have a:clip l.length (k:Int)=min k l.length:=by
  unfold clip;rw[Zn (by omega),Z9]
 show (l.drop 0).take (clip l.length (k:Int)-0)=_;rw[a,Wx,Nat.sub_zero,← List.take_eq_take_min]
def mq{α:Type}(l:List α)(k:Nat)(h:k<=l.length):cut l (Z (k:Int)) L=l.drop k:=by
 have a:clip l.length (k:Int)=k:=by
  unfold clip;rw[Zn (by omega),Z9,Yd h]
 show (l.drop (clip l.length (k:Int))).take (l.length-clip l.length (k:Int))=_;rw[a];exact Y0 (by rw[YC];exact Zm _)
def sI{x:Val}{l h:Option Int}(e:a U=Z x)(g:rK b U=Z l)(f:rK d U=Z h)(q:MD x l h=v):HM a b d U=v:=by
 unfold HM;rw[e,Zs,g,Zs,f,Zs];exact q
def su(l:List Tx)(h:l.length<=16777216):Hu m (l.map .str)=Z (.fr,.lst (l.map .str)):=by
 rw[jt (by rw[Zy];exact h),hZ _ (λ_=>rfl) l];rfl
def yQ{l:List Tx}{k:Nat}(h:l.length<=16777216):MD (m,.lst (l.map .str)) L (Z (k:Int))=Z (.fr,.lst ((l.take k).map .str)):=by
 show Hu m (cut (l.map T.str) L (Z (k:Int)))=_;rw[yd,← List.map_take,su _ (ZY (List.length_take_le' k l) h)]
def xC{l:List Tx}{k:Nat}(a:k<=l.length)(h:l.length<=16777216):MD (m,.lst (l.map .str)) (Z (k:Int)) L=Z (.fr,.lst ((l.drop k).map .str)):=by
 show Hu m (cut (l.map T.str) (Z (k:Int)) L)=_;rw[mq _ _ (by rw[Zy];exact a),← List.map_drop,su _ (by rw[YC];omega)]
def QL(a b:Nat):oLe (m,.str [a]) (n,.str [b])=Z (.fr,.bl (decide (a<=b))):=by
 have:(!IE [b] [a])=decide (a<=b):=by
  show (!(if b<a then B else if a<b then O else IE [] []))=_;by_cases h:b<a
  ·rw[Zp h,ZK (by omega)];rfl
  ·rw[Zn h,decide_eq_true (by omega)];split<;>rfl
 show Z (Md.fr,T.bl (!IE [b] [a]))=_;rw[this]
def ub{α:Type}(l:List α):n8 [(m,.lst (l.map λ_=>T.bl B))]=Z (.fr,.bl B):=by
 show (lq (l.map λ_=>T.bl B)).bind _=_;rw[oh (λ_=>B) l,Zs];rw[ZE.mpr λx a=>by obtain⟨_,_,rfl⟩:=Z0.mp a;rfl]
def yD{m:Md}(he:e U=Z (m,.str t))(f:t.length<=16777216)(h:∀c∈t,a<=c/\c<=b):eN n8 (ae (cT 1 (ba 0) (fE e) L (gP oLe oLe (eC (.str [a])) (ab 0) (eC (.str [b])))) ag) U=Z (.fr,.bl B):=by
 refine fJ (xv (r:=ag) (bX (m:=.fr) (λ(c:Nat)=>T.str [c]) (λ_=>T.bl B) t ?_ Y f λc d=>⟨Q2 ([c]) :: U,rfl,?_⟩) Y) (ub t)
 ·show (e U).bind pb=_;rw[he];rfl
 ·refine qj (x:=(.fr,.str [a])) (y:=(.fr,.str [c])) (z:=(.fr,.str [b])) Y Y ((QL _ _).trans ?_) Y ((QL _ _).trans ?_)
  ·rw[decide_eq_true (h c d).1]
  ·rw[decide_eq_true (h c d).2]
def Bh(h:Nm t):bE [.str t,.int 9]=Z (.fr,.bl B):=by
 obtain⟨c,r,e,q⟩:=h.hd;have d:1<=t.length:=by rw[e];exact Yl (Yw _)
 have a:=h.len;have ln:eN cP (ae (ab 0) ag) [Q2 t,Q0 9]=Z (.fr,.int (t.length:Int)):=rfl;refine cA (U:=[Q2 t,Q0 9]) Y (sq (U1:=[Q2 t,Q0 9]) (iH (m:=.fr) (wO (m:=.fr) (x:=O) ?_ (λ_=>pQ (m:=.fr) (x:=c==48) (v:=(.fr,.bl O)) ?_ (λz=>?_) λ_=>rfl) (λz=>nomatch z)) Y) (bQ (yD (m:=.fr) Y (by omega) h.az)))
 ·refine i4 (m:=.fr) (b:=B) (qj (x:=(.fr,.int 1)) (y:=(.fr,.int (t.length:Int))) (z:=(.fr,.int 9)) Y ln ?_ Y ?_)
  ·show Z (Md.fr,T.bl (decide ((1:Int)<=(t.length:Int))))=_;rw[decide_eq_true (by omega)]
  ·show Z (Md.fr,T.bl (decide ((t.length:Int)<=9)))=_;rw[decide_eq_true (by omega)]
 ·refine e2v (e2v (x:=(.fr,.str t)) (y:=(.fr,.int 0)) Y Y (qg t 0 (by decide) (by omega))) (y:=(.fr,.str [48])) Y (gx Y Y ?_);rw[e];show ([c]==[48])=_;by_cases z:c=48
  ·rw[z];rfl
  ·rw[ZO.mpr z,ZO.mpr λw=>z (List.cons.inj w).1]
 ·refine e2v ln (y:=(.fr,.int 1)) Y ?_;show Z (Md.fr,T.bl (decide ((1:Int)<(t.length:Int))))=_;have:=q (beq_iff_eq.mp z);rw[e,this];rfl
def yj(h:97<=c/\c<=122):df [.str [c]]=Z (.fr,.bl B) :=
 cA (U:=[Q2 ([c])]) Y (bQ (rX (m:=.fr) (n:=.fr) (x:=B) (y:=B) Y (yD (m:=.fr) Y (by show 1<=_;decide) λx a=>by rw[Zj.mp a];exact h)))
def Ed{p:Nat×Nat}(h:97<=p.1/\p.1<=122/\p.2<G9):dM [.str (Gg p)]=Z (.fr,.bl B):=by
 have N:=eA h.2.2;have two:2<=(Gg p).length:=by show 2<=(Gd p.2).length+1+1;omega
 have d:HM (ab 0) L (Z (Q3 1)) [Q2 (Gg p)]=Z (.fr,.str [p.1]):=sI (x:=(.fr,.str (Gg p))) (l:=L) (h:=Z ((1:Nat):Int)) Y Y Y (by
  show Z (Md.fr,T.str (cut (Gg p) L (Z ((1:Nat):Int))))=_;rw[yd];rfl)
 have b:HM (ab 0) (Z (Q3 1)) (Z (Q3 2)) [Q2 (Gg p)]=Z (.fr,.str [58]):=sI (x:=(.fr,.str (Gg p))) (l:=Z ((1:Nat):Int)) (h:=Z (((1:Nat):Int)+((1:Nat):Int))) Y Y Y (by
  show Z (Md.fr,T.str (cut (Gg p) (Z ((1:Nat):Int)) (Z (((1:Nat):Int)+((1:Nat):Int)))))=_;rw[A2 _ 1 1 (by omega)];rfl)
 have a:HM (ab 0) (Z (Q3 2)) L [Q2 (Gg p)]=Z (.fr,.str (Gd p.2)):=sI (x:=(.fr,.str (Gg p))) (l:=Z ((2:Nat):Int)) (h:=L) Y Y Y (by
  show Z (Md.fr,T.str (cut (Gg p) (Z ((2:Nat):Int)) L))=_;rw[mq _ 2 two];rfl)
 exact cA (U:=[Q2 (Gg p)]) Y (bQ (rX (m:=.fr) (n:=.fr) (x:=B) (y:=B) (aN (xv (r:=ag) d Y) (yj ⟨h.1,h.2.1⟩)) (rX (m:=.fr) (n:=.fr) (x:=B) (y:=B) (e2v b (y:=(.fr,.str [58])) Y (gx Y Y Y)) (aN (xv a (xv (r:=ag) (x:=(.fr,.int 9)) Y Y)) (Bh N)))))
def AX{l:W7}(h:l.Pairwise (· < ·)):d7 (dedup (l.map λc=>[c]))=l.map λc=>[c]:=by
 refine(kQ ((XH ((h.imp λh=>Zg h:l.Nodup).map _ λa b d e=>d (List.cons.inj e).1) (iL _)).mpr λt=>(h9 _ t).symm) ?_).symm;rw[Y8];refine h.imp λ{a b} d h=>?_;rcases Y7.mp h with h | ⟨_,h⟩
 ·exact absurd d (Nat.lt_asymm h)
 ·exact absurd h (List.not_lt_nil _)
def vG(l:List Tx):GD 60 (.lst (l.map .str))=B:=by
 show (List.map T.str l).all (GD 59)=B;rw[List.all_map];exact ZE.mpr λ_ _=>rfl
theorem ur:∀l:List Tx,rE (l.map T.str) (l.map T.str)=B
 |[]=>rfl
 |a :: l=>by
  show ((a==a)&&rE (l.map T.str) (l.map T.str))=B;rw[ur l,beq_self_eq_true];rfl
def BP{l:W7}(h:l.Pairwise (· < ·))(b:l.length<=26):pV [.lst ((l.map λc=>[c]).map .str)]=Z (.fr,.bl B):=by
 have a:=strs_map id (l.map λc=>[c]);rw[Wy]at a;refine cA (U:=[pc (.lst ((l.map λc=>[c]).map .str))]) Y (bQ (e2v (fJ (xv (r:=ag) (x:=up .pu (.lst ((l.map λc=>[c]).map .str))) Y Y) (su (l.map λc=>[c]) (by rw[Zy];omega))) (fJ (xv (r:=ag) (x:=up .pu (.lst ((l.map λc=>[c]).map .str))) Y Y) (v:=(.fr,.lst ((l.map λc=>[c]).map .str))) ?_) (gx (vG _) (vG _) (ur _))));show (strs? ((l.map λc=>[c]).map T.str)).bind _=_;rw[show (l.map λc=>[c]).map T.str=(l.map λc=>[c]).map (λx=>T.str (id x)) from rfl,a,Zs,Zp (by rw[Zy];omega),AX h];rfl
def Em{m:Md}{l:List Tx}(h:a U=Z (m,.lst (l.map .str))):eN cP (ae a ag) U=Z (.fr,.int (l.length:Int)):=fJ (xv (r:=ag) h Y) (by
 show Z (Md.fr,T.int (((l.map T.str).length:Nat):Int))=_;rw[Zy])
def Aw{U:Env}{a e:Ex}{m n:Md}{l:List Tx}{i:Nat}(d:a U=Z (m,.lst (l.map .str)))(he:e U=Z (n,.int (i:Int)))(b:i<l.length):e2 ay a e U=Z (.fr,.str (l.getD i [])):=e2v d he (nO T.str l i [] b)
def oR{r:Row}(h:Ro r)(d:ab 0 U=Z (.fr,.str (Gi r))):eM gK (ab 0) (ae (eC (.str [32])) ag) U=Z (.fr,.lst ((GQ r).map .str)) :=
 qK (l:=GQ r) d (by decide) (YA (si h).1 (by decide)) (λz=>nomatch z) λx a b=>by have:=((tD h x a).2 32 b).1;omega
def f3(r:Row):3<=(GQ r).length:=by
 show 3<=(r.2.2.2.map Gg).length+1+1+1;omega
def dash(h:Ro r){U:Env}(a:ab 1 U=Z (.pu,.lst ((GQ r).map .str))):e2 oEq (e2 ay (ab 1) (Q3 2)) (eC (.str [45])) U=Z (.fr,.bl r.2.2.1.isNone):=by
 refine e2v (Aw (i:=2) a (n:=.fr) Y (f3 r)) (y:=(.fr,.str [45])) Y (gx Y Y ?_);show (Ie r.2.2.1==[45])=_;cases e:r.2.2.1 with
 |none=>rfl
 |some k =>
  refine ZO.mpr λz=>?_;have:=(eA (h.lk k e)).az 45 (by rw[show Gd k=[45] from z];exact Zj.mpr Y);omega
def AK(h:Ro r){U:Env}(b:ab 1 U=Z (.pu,.lst ((GQ r).map .str))):∃ns:List Tx,Kx (e2 oEq (e2 ay (ab 1) (Q3 2)) (eC (.str [45]))) (HM (ab 1) L (Z (Q3 2))) (HM (ab 1) L (Z (Q3 3))) U=Z (.fr,.lst (ns.map .str))/\(∀x∈ns,Nm x)/\ns.length<=3:=by
 have d:=dash h b;have f:(GQ r).length<=16777216:=ZY (lX h) (by decide);cases e:r.2.2.1 with
 |none =>
  rw[e]at d;refine⟨(GQ r).take 2,vQ d (sI (l:=L) (h:=Z ((2:Nat):Int)) b Y Y (yQ f)),λx a=>?_,ZY (List.length_take_le _ _) (by decide)⟩;rcases Zk.mp (show x∈[Gd r.1,Gd r.2.1] from a) with rfl | a
  ·exact eA h.lo
  ·rw[Zj.mp a];exact eA h.hi
 |some k =>
  rw[e]at d;refine⟨(GQ r).take 3,xD d (sI (l:=L) (h:=Z ((3:Nat):Int)) b Y Y (yQ f)),λx a=>?_,List.length_take_le _ _⟩;rcases Zk.mp (show x∈[Gd r.1,Gd r.2.1,Ie r.2.2.1] from a) with rfl | a
  ·exact eA h.lo
  rcases Zk.mp a with rfl | a
  ·exact eA h.hi
  ·rw[Zj.mp a,e];exact eA (h.lk k e)
def tZ{r:Row}(h:Ro r)(a:ab 1 U=Z (.pu,.lst ((GQ r).map .str))):HM (ab 1) (Z (Q3 3)) L U=Z (.fr,.lst ((r.2.2.2.map Gg).map .str)) :=
 sI (l:=Z ((3:Nat):Int)) (h:=L) a Y Y (xC (k:=3) (f3 r) (ZY (lX h) (by decide)))
def Eo(p:Nat×Nat){m:Md}(h:ab 0 U=Z (m,.str (Gg p))):e2 ay (ab 0) (Q3 0) U=Z (.fr,.str [p.1]):=e2v h (y:=(.fr,.int 0)) Y (qg (Gg p) 0 (by decide) (by show (0:Int)<(((Gd p.2).length+1+1:Nat):Int);omega))
def Ah{r:Row}(h:Ro r):dN [.str (Gi r)]=Z (.fr,.bl B):=by
 have i:=f3 r;obtain⟨ns,f,e,d⟩:=AK h (U:=[Q2 (Gi r),pc (.lst ((GQ r).map .str)),pc (.lst ((r.2.2.2.map Gg).map .str)),L]) Y;refine cA (U:=[Q2 (Gi r),pc (.lst ((GQ r).map .str)),pc (.lst ((r.2.2.2.map Gg).map .str)),pc (.lst (ns.map .str))]) Y (sq (ax (oR h Y) (by decide) (by decide:1<4)) (sq (ax (tZ h Y) (by decide) (by decide:2<4)) (sq (iH (m:=.fr) ?_ Y) (sq (ax f (by decide) (by decide:3<4)) (bQ (rX (m:=.fr) (n:=.fr) (x:=B) (y:=B) (fJ (xv (r:=ag) (x:=(.fr,.lst (ns.map λ_=>T.bl B))) ?_ Y) (ub ns)) (aN (xv (r:=ag) (x:=(.fr,.lst (((r.2.2.2.map λp=>p.1).map λc=>[c]).map .str))) ?_ Y) (BP ?_ (by rw[Zy];exact h.GB)))))))))
 ·refine MB (m:=.fr) (n:=.fr) (x:=O) (y:=O) (e2v (Em (m:=.pu) Y) (y:=(.fr,.int 3)) Y ?_) (i4 (m:=.fr) (b:=B) (fJ (xv (r:=ag) (x:=(.fr,.lst (r.2.2.2.map λ_=>T.bl B))) ?_ Y) (ub r.2.2.2)))
  ·show Z (Md.fr,T.bl (decide (((GQ r).length:Int)<3)))=_;rw[ZK (by omega)]
  ·refine bX (m:=.pu) (λp=>T.str (Gg p)) (λ_=>T.bl B) r.2.2.2 ?_ Y (ZY h.GB (by decide)) λp a=>⟨[Q2 (Gg p),Q2 (Gi r),pc (.lst ((GQ r).map .str)),pc (.lst ((r.2.2.2.map Gg).map .str)),L],rfl,aN (xv (r:=ag) (x:=(.fr,.str (Gg p))) Y Y) (Ed (h.ws p a))⟩
   show Z (Md.pu,(r.2.2.2.map Gg).map T.str)=_;rw[ZF];rfl
 ·exact bX (m:=.pu) (λt:Tx=>T.str t) (λ_=>T.bl B) ns Y Y (ZY d (by decide)) λt g=>⟨[Q2 t,Q2 (Gi r),pc (.lst ((GQ r).map .str)),pc (.lst ((r.2.2.2.map Gg).map .str)),pc (.lst (ns.map .str))],rfl,aN (xv (x:=(.fr,.str t)) Y (xv (r:=ag) (x:=(.fr,.int 9)) Y Y)) (Bh (e t g))⟩
 ·refine(bX (m:=.pu) (λp=>T.str (Gg p)) (λp=>T.str [p.1]) r.2.2.2 ?_ Y (ZY h.GB (by decide)) λp a=>⟨[Q2 (Gg p),Q2 (Gi r),pc (.lst ((GQ r).map .str)),pc (.lst ((r.2.2.2.map Gg).map .str)),pc (.lst (ns.map .str))],rfl,Eo p (m:=.fr) Y⟩).trans ?_
  ·show Z (Md.pu,(r.2.2.2.map Gg).map T.str)=_;rw[ZF];rfl
  ·rw[ZF,ZF];rfl
 ·rw[Y8];exact h.up
def vx(h:Ro r):iB [.str (Gi r)]=Z (.fr,cR r):=by
 have j:=f3 r;have e:∀{b},Kx (e2 oEq (e2 ay (ab 1) (Q3 2)) (eC (.str [45]))) (eC .non) (eN jm (ae (e2 ay (ab 1) (Q3 2)) ag)) [Q2 (Gi r),pc (.lst ((GQ r).map .str)),L,b]=Z (.fr,DP r.2.2.1):=λ{b}=>by
  have d:=dash h (U:=[Q2 (Gi r),pc (.lst ((GQ r).map .str)),L,b]) Y;have i:=Aw (U:=[Q2 (Gi r),pc (.lst ((GQ r).map .str)),L,b]) (a:=ab 1) (e:=Q3 2) (i:=2) (m:=.pu) (n:=.fr) (l:=GQ r) Y Y j;rw[show (GQ r).getD 2 []=Ie r.2.2.1 from rfl]at i;cases f:r.2.2.1 with
  |none =>
   rw[f]at d;exact vQ d Y
  |some k =>
   rw[f]at d i;exact xD d (uG i (h.lk k f))
 refine cA (U:=[Q2 (Gi r),pc (.lst ((GQ r).map .str)),pc (DP r.2.2.1),pc (Hk r.2.2.2)]) Y (sq (ax (oR h Y) (by decide) (by decide:1<4)) (sq (ax e (by decide) (by decide:2<4)) (sq (ax (m:=.fr) (t:=Hk r.2.2.2) (fJ (xv (r:=ag) (x:=(.fr,.lst (r.2.2.2.map λp=>T.tup [.str [p.1],.int (p.2:Int)]))) ?_ Y) ?_) (by decide) (by decide:3<4)) (bQ (zG (uG (n:=r.1) (Aw (i:=0) (m:=.pu) (n:=.fr) (l:=GQ r) Y Y (by omega)) h.lo) (uG (n:=r.2.1) (Aw (i:=1) (m:=.pu) (n:=.fr) (l:=GQ r) Y Y (by omega)) h.hi) (congrArg Z (gq (gO _))) (congrArg Z (gq (iU _))))))))
 ·refine bX (m:=.fr) (λp=>T.str (Gg p)) (λp:Nat×Nat=>T.tup [.str [p.1],.int (p.2:Int)]) r.2.2.2 ?_ Y (ZY h.GB (by decide)) λp g=>⟨[Q2 (Gg p),Q2 (Gi r),pc (.lst ((GQ r).map .str)),pc (DP r.2.2.1),L],rfl,?_⟩
  ·show (HM (ab 1) (Z (Q3 3)) L _).bind pb=_;rw[tZ h Y];show Z (Md.fr,(r.2.2.2.map Gg).map T.str)=_;rw[ZF];rfl
  ·have two:2<=(Gg p).length:=by show 2<=(Gd p.2).length+1+1;omega
   have i:HM (ab 0) (Z (Q3 2)) L [Q2 (Gg p),Q2 (Gi r),pc (.lst ((GQ r).map .str)),pc (DP r.2.2.1),L]=Z (.fr,.str (Gd p.2)):=sI (x:=(.fr,.str (Gg p))) (l:=Z ((2:Nat):Int)) (h:=L) Y Y Y (by
    show Z (Md.fr,T.str (cut (Gg p) (Z ((2:Nat):Int)) L))=_;rw[mq _ 2 two];rfl)
   show (ae _ (ae _ ag) _).bind oC=_;rw[xv (Eo p (m:=.fr) Y) (xv (r:=ag) (uG i (h.ws p g).2.2) Y)];rfl
 ·exact(Zp (by rw[Zy];exact ZY h.GB (by decide))).trans (congrArg Z (gq (iU _)))
theorem tP{t:Tx}:∀(R done:List Row)(a b:Vz),(∀r∈R,Ro r)->done.length+R.length<=300->∃e d,forL (jM [ba 2,ba 3]) iF (iS done.length ((R.map Gi).map .str)) [Q2 t,oc (FV done),a,b]=Z (.nx [Q2 t,oc (FV (done++R)),e,d])
 |[],done,a,b,_,_=>⟨a,b,by rw[ZJ];rfl⟩
 |r :: R,done,a,b,h,j=>by
  rw[Zf]at j;obtain⟨e,d,q⟩:=tP R (done++[r]) (Q0 (done.length:Int)) (Q2 (Gi r)) (λx g=>h x (Zx _ g)) (by rw[Zt,Za];omega);rw[Zt,Za,Z2]at q;have f:=h r Zw;refine⟨e,d,(dU (U1:=[Q2 t,oc (FV done),Q0 (done.length:Int),Q2 (Gi r)]) (U2:=[Q2 t,oc (FV (done++[r])),Q0 (done.length:Int),Q2 (Gi r)]) Y (sq (iH (m:=.fr) (MB (m:=.fr) (n:=.fr) (x:=O) (y:=O) (e2v (x:=(.fr,.int (done.length:Int))) (y:=(.fr,.int 300)) Y Y ?_) (i4 (m:=.fr) (b:=B) (aN (xv (r:=ag) (x:=(.fr,.str (Gi r))) Y Y) (Ah f)))) Y) ((lA (i:=1) (l:=done.map cR) (v:=cR r) Y (aN (xv (r:=ag) (x:=(.fr,.str (Gi r))) Y Y) (vx f)) (by rw[Zy];omega)).trans ?_))).trans q⟩
  ·show Z (Md.fr,T.bl (decide ((300:Int)<=(done.length:Int))))=_;rw[ZK (by omega)]
  ·unfold FV;rw[Z3];rfl
def vP(h:Tb R):dX [.str (txt R)]=Z (.fr,FV R):=by
 obtain⟨a,b,q⟩:=tP (t:=txt R) R [] L L h.ro (by have:=h.GB;show 0+_<=_;omega);have g:=pO h;have j:=m8 10 (R.map Gi);refine cA (U:=[Q2 (txt R),L,a,b]) Y (sq (iH (m:=.fr) Y Y) (sq (U1:=[Q2 (txt R),oc (FV []),L,L]) Y (sq ((eZ (m:=.fr) (l:=iS 0 ((R.map Gi).map .str)) ?_ Y).trans q) Y)));show (eM gK (ab 0) (ae (eC (.str [10])) ag) _).bind Bn=_;rw[qK (a:=ab 0) (m:=.fr) (l:=R.map Gi) Y (by decide) (by omega) (λz=>h.ne (List.map_eq_nil_iff.mp z)) λx d f=>by
  obtain⟨r,e,rfl⟩:=Z0.mp d;have:=((si (h.ro r e)).2 10 f).1;omega]
 rfl
def LS:Nat->Fn
 |0=>λ_=>L
 |n+1=>br (LS n)
inductive Al:Nat->T->Prop
 |non {n}:Al (n+1) .non
 |int {n} (i:Int):Al (n+1) (.int i)
 |str {n} (s:Tx):Al (n+1) (.str s)
 |tup {n} {l:Vw} (hl:l.length<=1000) (h:∀x∈l,Al n x):Al (n+1) (.tup l)
 |lst {n} {l:Vw} (hl:l.length<=1000) (h:∀x∈l,Al n x):Al (n+1) (.lst l)
def uQ{l:Vw}(u:l.length<=1000)(h:∀x∈l,LS n [x,x]=Z (.fr,.bl B)){b:Bool}(q:r9 t=Z B)(p:lS t=B)(j:C1 t=Z l.length)(f:∀m k,k<l.length->ay (m,t) (.fr,.int ((k:Nat):Int))=Z (sub m (l.getD k .non))):LS (n+1) [t,t]=Z (.fr,.bl B):=by
 have s:ab 0 [pc t,pc t]=Z (up .pu t):=rfl;have g:∀(ty:Ty)(i:Nat),ab i [pc t,pc t]=Z (up .pu t)->Hy ty (ab i) [pc t,pc t]=Z (.fr,.bl (jz ty t)):=λty i hi=>by
  unfold Hy;rw[hi];exact Zp p
 have ne:∀ty,e2 IQ (Hy ty (ab 0)) (Hy ty (ab 1)) [pc t,pc t]=Z (.fr,.bl O):=λty=>e2v (g ty 0 Y) (g ty 1 Y) (uE (r:=B) Y Y (by show (jz ty t==jz ty t)=B;exact beq_self_eq_true _));have o:cP [up .pu t]=Z (.fr,.int (l.length:Int)):=by
  show Option.map (λn:Int=>((Md.fr,T.int n):Val)) ((C1 t).bind λa=>Z ((a:Nat):Int))=_;rw[j];rfl
 have e:∀i:Nat,ab i [pc t,pc t]=Z (up .pu t)->eN cP (ae (ab i) ag) [pc t,pc t]=Z (.fr,.int (l.length:Int)):=λi hi=>fJ (xv (r:=ag) hi Y) o;show br (LS n) [t,t]=_;refine cA (U:=[pc t,pc t]) Y (kH (Ks (m:=.fr) ?_ (sq (iH (m:=.fr) (MB (m:=.fr) (n:=.fr) (x:=O) (y:=O) (ne .list) (ne .tuple)) Y) (bQ (rX (m:=.fr) (n:=.fr) (x:=B) (y:=B) (e2v (e 0 Y) (e 1 Y) (gx Y Y ?_)) (fJ (xv (r:=ag) (x:=(.fr,.lst ((List.range l.length).map λ_=>T.bl B))) ?_ Y) (ub _)))))))
 ·show ((Z (up .pu t)).bind λx=>(r9 x.2).map λb=>(Md.fr,T.bl b))=_;show (r9 t).map _=_;rw[q];rfl
 ·show (((l.length:Nat):Int)==((l.length:Nat):Int))=B;exact beq_self_eq_true _
 ·refine bX (m:=.fr) (λ(k:Nat)=>T.int (k:Int)) (λ_=>T.bl B) (List.range l.length) (wK (e 1 Y) (by omega)) Y (by rw[Z1];omega) λk d=>⟨[Q0 (k:Int),pc t,pc t],rfl,?_⟩
  have d:=YX.mp d;refine aN (xv (e2v (x:=up .pu t) (y:=(.fr,.int (k:Int))) Y Y (f _ k d)) (xv (r:=ag) (e2v (x:=up .pu t) (y:=(.fr,.int (k:Int))) Y Y (f _ k d)) Y)) ?_;refine h _ ?_;rw[Zr,Zq d];exact Z7 d
def m7(g:r9 t=Z O)(e:lS t=B)(f:jz .bool t=O)(d:GD 60 t=B)(he:eqT t t=B):LS (n+1) [t,t]=Z (.fr,.bl B):=by
 have a:∀(ty:Ty)(i:Nat),ab i [pc t,pc t]=Z (up .pu t)->Hy ty (ab i) [pc t,pc t]=Z (.fr,.bl (jz ty t)):=λty i hi=>by
  unfold Hy;rw[hi];exact Zp e
 show br (LS n) [t,t]=_;refine cA (U:=[pc t,pc t]) Y (sq (iH (m:=.fr) ?_ Y) (bQ (rX (m:=.fr) (n:=.fr) (x:=B) (y:=B) (e2v (x:=up .pu t) (y:=up .pu t) Y Y (gx d d he)) (rX (m:=.fr) (n:=.fr) (x:=B) (y:=B) (i4 (m:=.fr) (b:=O) ((a .bool 0 Y).trans (by rw[f]))) (e2v (a .int 0 Y) (a .int 1 Y) (gx Y Y (by show (jz .int t==jz .int t)=B;exact beq_self_eq_true _)))))));show (r9 t).map _=_;rw[g];rfl
def Dn:∀{n:Nat}{t:T},Al n t->LS n [t,t]=Z (.fr,.bl B):=by
 intro n t h
 induction h with
 |non=>exact m7 Y Y Y Y Y
 |int i=>exact m7 Y Y Y Y (beq_self_eq_true i)
 |str s=>exact m7 Y Y Y Y (beq_self_eq_true s)
 |@tup n l e _ d =>
  exact uQ (b:=B) e d Y Y Y λm k a=>by
   show (G8 l.length (k:Int)).bind _=_;rw[sF a,Zs,Zr,Zq a];rfl
 |@lst n l e _ d =>
  exact uQ (b:=B) e d Y Y Y λm k a=>by
   show (G8 l.length (k:Int)).bind _=_;rw[sF a,Zs,Zr,Zq a];rfl
def DX(h:Tb R):Al 5 (FV R):=by
 refine .lst (by rw[Zy];have:=h.GB;omega) λx a=>?_;obtain⟨r,b,rfl⟩:=Z0.mp a;refine .tup (by show 4<=1000;decide) λx a=>?_;rcases Zk.mp a with rfl | a
 ·exact .int _
 rcases Zk.mp a with rfl | a
 ·exact .int _
 rcases Zk.mp a with rfl | a
 ·cases r.2.2.1
  ·exact .non
  ·exact .int _
 rw[Zj.mp a];refine .tup (by rw[Zy];have:=(h.ro r b).GB;omega) λx a=>?_;obtain⟨p,_,rfl⟩:=Z0.mp a;refine .tup (by show 2<=1000;decide) λx a=>?_;rcases Zk.mp a with rfl | a
 ·exact .str _
 rw[Zj.mp a];exact .int _
def t7(h:Tb R):ff [FV R,FV R]=Z (.fr,.bl B):=Dn (DX h)
def md(x:Int){d:Int}(h:0<d)(e:d<=1000000000):∃n:Nat,x%d=(n:Int)/\n<G9:=by
 have a:=Ym x (b:=d) (by omega);have b:=Yz x h;exact⟨(x%d).toNat,by omega,by show _<1000000000;omega⟩
def pick{a e:Ex}{U:Env}{m n:Md}{l:W8}{x d:Int}(g:a U=Z (m,.lst (l.map .int)))(he:e U=Z (n,.int x))(i:d=l.length)(f:0<d):e2 ay a (e2 oMod e (Q3 d)) U=Z (.fr,.int (l.getD (x%d).toNat 0)):=by
 have h:=Ym x (b:=d) (by omega);have j:=Yz x f;exact e2v g (e2v he (y:=(.fr,.int d)) Y (cj f)) (sN T.int l (x%d) 0 h (by omega) Y)
def mW{l:W8}{x d:Int}(f:d=l.length)(e:0<d):l.getD (x%d).toNat 0∈l:=by
 have h:=Ym x (b:=d) (by omega);have g:=Yz x e;have a:(x%d).toNat<l.length:=by omega
 rw[Zr,Zq a];exact Z7 a
noncomputable def AZ:Tx:=[97,98,99,100,101,102,103,104,105,106,107,108,109,110,111,112,113,114,115,116,117,118,119,120,121,122]
def Eh:∀k,k<26->AZ.getD k 0=97+k:=by decide
noncomputable abbrev Kh(l:List (Nat×Nat)):Vw:=l.map λp=>T.tup [.str [p.1],.int (p.2:Int)]
def Aj(l:List (Nat×Nat))(c n:Nat):Kh l++[T.tup [.str [c],.int (n:Int)]]=Kh (l++[(c,n)]):=by
 show _=List.map _ (l++[(c,n)]);rw[Z3];rfl
abbrev EM(g:W8)(k:Nat)(R:List Row)(j:Nat)(b:Int)(a:Option Nat)(f:List (Nat×Nat))(e d:Vz):Env:=[pc (.scr g),Q0 (k:Int),oc (FV R),Q0 (j:Int),Q0 b,pc (DP a),oc (.lst (Kh f)),e,d]
def fd{e:Ex}{U:Env}{m:Md}{x d:Int}(he:e U=Z (m,.int x))(h:0<d/\d<1073741824):e2 bC e (Q3 d) U=Z (.fr,.int (x/d)):=e2v he (y:=(.fr,.int d)) Y (ic h)
structure Wo(l:List (Nat×Nat))(r:W7):Prop where
 ws:∀p∈l,97<=p.1/\p.1<=122/\p.2<G9
 up:l.Pairwise (λa b=>a.1<b.1)
 GB:l.length+r.length<=26
 lt:∀p∈l,∀k∈r,p.1<97+k
 rs:r.Pairwise (· < ·)
 NH:∀k∈r,k<26
def Wo.tail(h:Wo a (k :: r)):Wo a r:=⟨h.ws,h.up,by have:=h.GB;rw[Zf]at this;omega,λp b i hi=>h.lt p b i (Zx _ hi),(Xp.mp h.rs).2,λi hi=>h.NH i (Zx _ hi)⟩
def Wo.more(h:Wo e (k :: r))(f:n<G9):Wo (e++[(97+k,n)]) r:=by
 have j:=h.NH k Zw;refine⟨λp d=>?_,?_,?_,λp d i hi=>?_,h.tail.rs,h.tail.NH⟩
 ·rcases Zd.mp d with d | d
  ·exact h.ws p d
  ·rw[Zj.mp d];exact⟨by show 97<=97+k;omega,by show 97+k<=122;omega,f⟩
 ·refine List.pairwise_append.mpr ⟨h.up,List.pairwise_singleton _ _,λa g b hb=>?_⟩;rw[Zj.mp hb];exact h.lt a g k Zw
 ·have:=h.GB;rw[Zf]at this;rw[Zt,Za];omega
 ·rcases Zd.mp d with d | d
  ·exact h.tail.lt p d i hi
  ·rw[Zj.mp d];have:=(Xp.mp h.rs).1 i hi;show 97+k<97+i;omega
def Ez(g:W8)(k:Nat)(R:List Row)(j:Nat)(b:Int)(f:Option Nat)(t s:Vz):∃ws p o,forL (ba 7) gR ((List.range 26).map λ(i:Nat)=>T.int (i:Int)) (EM g k R j b f [] t s)=Z (.nx (EM g k R j b f ws p o))/\Wo ws []:=by
 obtain⟨M,e,ws,p,o,rfl,h⟩:=jT (tg:=ba 7) (body:=gR) (λ(i:Nat)=>T.int (i:Int)) (λr U=>∃ws p o,U=EM g k R j b f ws p o/\Wo ws r) (by
  rintro i r _ ⟨ws,p,o,rfl,h⟩;have J:=h.NH i Zw;obtain⟨v,E⟩:=o5 b i (by omega) (by omega);have D:=mW (l:=[2,5,30]) (x:=b/6) (d:=3) Y (by decide);have C:=mW (l:=[9,1000,1000000000]) (x:=b/18) (d:=3) Y (by decide);have A:=pick (a:=cQ (ae (Q3 2) (ae (Q3 5) (ae (Q3 30) ag)))) (U:=EM g k R j b f ws (Q0 (i:Int)) (Q0 v)) (e:=e2 bC (ab 4) (Q3 6)) (l:=[2,5,30]) (d:=3) (m:=.fr) Y (fd (m:=.fr) (x:=b) Y (by decide)) Y (by decide);have z:=pick (a:=cQ (ae (Q3 9) (ae (Q3 1000) (ae (e2 vz (Q3 10) (Q3 9)) ag)))) (U:=EM g k R j b f ws (Q0 (i:Int)) (Q0 v)) (e:=e2 bC (ab 4) (Q3 18)) (l:=[9,1000,1000000000]) (d:=3) (m:=.fr) Y (fd (m:=.fr) (x:=b) Y (by decide)) Y (by decide);generalize ([2,5,30]:W8).getD (b/6%3).toNat 0=d2 at D A;generalize ([9,1000,1000000000]:W8).getD (b/18%3).toNat 0=d3 at C z;have G:0<d2:=by
   have:∀x∈([2,5,30]:W8),0<x:=by decide
   exact this _ D
  have u:0<d3/\d3<=1000000000:=by
   have:∀x∈([9,1000,1000000000]:W8),0<x/\x<=1000000000:=by decide
   exact this _ C
  obtain⟨n,H,F⟩:=md (v/7) u.1 u.2;have q:e2 oEq (e2 oMod (ab 8) (e2 ay (cQ (ae (Q3 2) (ae (Q3 5) (ae (Q3 30) ag)))) (e2 oMod (e2 bC (ab 4) (Q3 6)) (Q3 3)))) (Q3 0) (EM g k R j b f ws (Q0 (i:Int)) (Q0 v))=Z (.fr,.bl (v%d2==0)):=e2v (e2v (x:=(.fr,.int v)) Y A (cj G)) (y:=(.fr,.int 0)) Y (gx Y Y Y);have w:aB 8 (aQ b6 (ae (ab 4) (ae (ab 7) ag))) (EM g k R j b f ws (Q0 (i:Int)) o)=Z (.nx (EM g k R j b f ws (Q0 (i:Int)) (Q0 v))):=ax (m:=.fr) (aN (xv (x:=(.fr,.int b)) Y (xv (r:=ag) (x:=(.fr,.int (i:Int))) Y Y)) E) (by decide) (by show 8<9;decide);refine⟨EM g k R j b f ws (Q0 (i:Int)) o,?_⟩;cases hb:v%d2==0 with
  |false=>exact⟨_,rfl,sq w (iH (by rw[hb]at q;exact q) Y),ws,_,_,rfl,h.tail⟩
  |true =>
   refine⟨EM g k R j b f (ws++[(97+i,n)]) (Q0 (i:Int)) (Q0 v),rfl,sq w (Ks (by rw[hb]at q;exact q) ((lA (i:=6) (l:=Kh ws) (v:=.tup [.str [97+i],.int (n:Int)]) Y ?_ ?_).trans ?_)),_,_,_,rfl,h.more F⟩
   ·show (ae _ (ae _ ag) _).bind oC=_;rw[xv (x:=(.fr,.str [97+i])) (e2v (x:=(.fr,.str AZ)) (y:=(.fr,.int (i:Int))) Y Y ((qg AZ (i:Int) (by omega) (by show (i:Int)<26;omega)).trans (by rw[Z9,Eh i J]))) (xv (r:=ag) (x:=(.fr,.int (n:Int))) (e2v (fd (m:=.fr) (x:=v) Y (by decide)) z ((cj u.1).trans (by rw[H]))) Y)];rfl
   ·have:=h.GB;rw[Zy];omega
   ·show Z (Out.nx [_,_,_,_,_,_,oc (.lst (Kh ws++[T.tup [.str [97+i],.int (n:Int)]])),_,_])=_;rw[Aj]) (List.range 26) (EM g k R j b f [] t s) ⟨[],t,s,rfl,λ_ h=>(nomatch h),.nil,by decide,λ_ h=>(nomatch h),by decide,by decide⟩
 exact⟨ws,p,o,e,h⟩
def zL{U:Env}{a e:Ex}{m n:Md}{x c:Int}(g:a U=Z (m,.int x))(he:e U=Z (n,.int c))(i:0<=x)(j:x<400):∃o:Option Nat,e2 ay (cQ (ae (eC .non) (ae a ag))) (e2 oMod e (Q3 2)) U=Z (.fr,DP o)/\∀k,o=Z k->k<G9:=by
 have d:cQ (ae (eC .non) (ae a ag)) U=Z (.fr,.lst [.non,.int x]):=by
  unfold cQ;rw[xv (x:=(.fr,.non)) Y (xv (r:=ag) g Y),Zs];exact(jt (by show 2<=_;decide)).trans Y
 have em:=e2v (f:=oMod) (b:=Q3 2) he (y:=(.fr,.int 2)) Y (cj (by decide));have p:=Ym c (b:=2) (by decide);have l:=Yz c (b:=2) (by decide);have:c%2=0\/c%2=1:=by omega
 rcases this with z | z
 ·rw[z]at em;exact⟨L,e2v d em Y,λk h=>nomatch h⟩
 ·rw[z]at em;refine⟨Z x.toNat,e2v d em ?_,λk h=>?_⟩
  ·show Z (Md.fr,T.int x)=Z (Md.fr,T.int ((x.toNat:Nat):Int));rw[Wt i]
  ·cases h;show x.toNat<1000000000;omega
abbrev EN(h:W8)(k:Nat)(R:List Row)(g f e d b a:Vz):Env:=[pc (.scr h),Q0 (k:Int),oc (FV R),g,f,e,d,b,a]
def E5(f:W8)(k j:Nat)(X:k<=2)(hj:j<9)(R:List Row)(hR:R.length<=100)(C w u q p:Vz):∃r F E D h g,Ro r/\eW (EN f k R (Q0 (j:Int)) C w u q p)=Z (.nx (EN f k (R++[r]) (Q0 (j:Int)) F E D h g)):=by
 obtain⟨v,G⟩:=o5 (cellAt f (21+k)) (9*(k:Int)+j) (by omega) (by omega);have S:=Ym (v/3) (b:=400) (by decide);have Q:=Yz (v/3) (b:=400) (by decide);obtain⟨o,eo,H⟩:=zL (U:=EN f k R (Q0 (j:Int)) (Q0 v) w u q p) (a:=e2 oMod (e2 bC (ab 4) (Q3 3)) (Q3 400)) (e:=ab 4) (m:=.fr) (n:=.fr) (c:=v) (e2v (fd (m:=.fr) (x:=v) Y (by decide)) (y:=(.fr,.int 400)) Y (cj (by decide))) Y S Q;obtain⟨ws,h,g,M,W⟩:=Ez f k R j v o q p;have A:=mW (l:=[5,1000000000]) (x:=v) (d:=2) Y (by decide);have z:=pick (a:=cQ (ae (Q3 5) (ae (e2 vz (Q3 10) (Q3 9)) ag))) (U:=EN f k R (Q0 (j:Int)) (Q0 v) (pc (DP o)) (pc (.lst (Kh ws))) h g) (e:=ab 4) (l:=[5,1000000000]) (d:=2) (m:=.fr) (n:=.fr) (x:=v) Y Y Y (by decide);generalize ([5,1000000000]:W8).getD (v%2).toNat 0=d2 at A z;have s:0<d2/\d2<=1000000000:=by
  have:∀x∈([5,1000000000]:W8),0<x/\x<=1000000000:=by decide
  exact this _ A
 obtain⟨a,P,J⟩:=md (v/40) s.1 s.2;obtain⟨b,N,hb⟩:=md (v/11) (d:=300) (by decide) (by decide);refine⟨(a,b,o,ws),Q0 v,pc (DP o),pc (.lst (Kh ws)),h,g,⟨J,hb,H,W.ws,W.up,by have:=W.GB;exact this⟩,?_⟩;unfold eW;refine sq (ax (m:=.fr) (t:=.int v) (aN (xv (x:=(.fr,.int (cellAt f (21+k)))) (kf (k:=21+k) Y (e2v (x:=(.fr,.int 21)) (y:=(.fr,.int (k:Int))) Y Y ?_)) (xv (r:=ag) (x:=(.fr,.int (9*(k:Int)+j))) (e2v (e2v (x:=(.fr,.int 9)) (y:=(.fr,.int (k:Int))) Y Y (lu (by decide))) (y:=(.fr,.int (j:Int))) Y Y) Y)) G) (by decide) (by show 4<9;decide)) (sq (ax eo (by decide) (by show 5<9;decide)) (sq (U1:=EM f k R j v o [] q p) Y (sq ((eZ (m:=.fr) (wK (m:=.fr) (n:=26) Y (by decide)) Y).trans M) (sq (U1:=EN f k R (Q0 (j:Int)) (Q0 v) (pc (DP o)) (pc (.lst (Kh ws))) h g) Y ((lA (i:=2) (l:=R.map cR) (v:=cR (a,b,o,ws)) Y (zG ?_ ?_ (congrArg Z (gq (gO _))) ?_) (by rw[Zy];omega)).trans ?_)))))
 ·show Z (Md.fr,T.int (21+(k:Int)))=_;rw[show (21+(k:Int))=((21+k:Nat):Int) by omega]
 ·exact e2v (fd (m:=.fr) (x:=v) Y (by decide)) z ((cj s.1).trans (by rw[P]))
 ·exact e2v (fd (m:=.fr) (x:=v) Y (by decide)) (y:=(.fr,.int 300)) Y ((cj (by decide)).trans (by rw[N]))
 ·exact fJ (xv (r:=ag) (x:=(.pu,.lst (Kh ws))) Y Y) ((Zp (by rw[Zy];have:=W.GB;show _<=16777216;omega)).trans (congrArg Z (gq (iU _))))
 ·show Z (Out.nx [_,_,oc (.lst (R.map cR++[cR (a,b,o,ws)])),_,_,_,_,_,_])=_;rw[show R.map cR++[cR (a,b,o,ws)]=(R++[(a,b,o,ws)]).map cR by rw[Z3];rfl];rfl
def vZ(a:W8)(k:Nat)(A:k<=2):∃R,fN [.scr a,.int (k:Int)]=Z (.fr,FV R)/\Tb R:=by
 have N:=Ym (cellAt a (20+k)) (b:=9) (by decide);have M:=Yz (cellAt a (20+k)) (b:=9) (by decide);obtain⟨n,D⟩:∃n:Nat,1+cellAt a (20+k)%9=(n:Int):=⟨(1+cellAt a (20+k)%9).toNat,by omega⟩
 obtain⟨P,e,R,t,o,l,g,f,d,rfl,s,u,_⟩:=jT (tg:=ba 3) (body:=eW) (λ(i:Nat)=>T.int (i:Int)) (λr U=>∃R t o l g f d,U=EN a k R t o l g f d/\R.length+r.length=n/\(∀x∈R,Ro x)/\∀j∈r,j<9) (by
  rintro j r _ ⟨R,t,o,l,g,f,d,rfl,s,u,v⟩;rw[Zf]at s;obtain⟨x,J,H,G,F,E,w,q⟩:=E5 a k j A (v j Zw) R (by omega) o l g f d;refine⟨_,_,rfl,q,R++[x],_,_,_,_,_,_,rfl,by rw[Zt,Za];omega,λy p=>?_,λi hi=>v i (Zx _ hi)⟩;rcases Zd.mp p with p | p
  ·exact u y p
  ·rw[Zj.mp p];exact w) (List.range n) (EN a k [] L L L L L L) ⟨[],L,L,L,L,L,L,rfl,by rw[Z1];exact Xj _,λ_ h=>(nomatch h),λj C=>by have:=YX.mp C;omega⟩
 rw[show ([]:W7).length=0 from rfl]at s;refine⟨R,cA (U:=[pc (.scr a),Q0 (k:Int),L,t,o,l,g,f,d]) Y (sq (U1:=EN a k [] L L L L L L) Y (sq ((eZ (m:=.fr) (wK (m:=.fr) (n:=n) (e2v (x:=(.fr,.int 1)) (y:=(.fr,.int (cellAt a (20+k)%9))) Y (e2v (kf (k:=20+k) Y (e2v (x:=(.fr,.int 20)) (y:=(.fr,.int (k:Int))) Y Y ?_)) (y:=(.fr,.int 9)) Y (cj (by decide))) ?_) (by omega)) Y).trans e) Y)),u,by omega,λz=>?_⟩
 ·show Z (Md.fr,T.int (20+(k:Int)))=_;rw[show (20+(k:Int))=((20+k:Nat):Int) by omega]
 ·show Z (Md.fr,T.int (1+cellAt a (20+k)%9))=_;rw[D]
 ·rw[z]at s;have:(0:Nat)=n:=s;omega
def C8(h:Js d):Tb (tabOf d):=by
 obtain⟨_,nd,D,H,l,_,v,u,_⟩:=h.k;have hw:∀n,n<(dI d).lg.length->(dI d).lg.getD n 0<=120:=λn f=>by
  rw[← H.i.len]at f;rw[H.i.lg n f];obtain⟨p,g,y⟩:=(H.some _).mp ⟨n,H.i.top f⟩;have a:=y.length_le;rcases g with rfl | ⟨t,w,g⟩
  ·exact ZY a (Yw _)
  ·have:=g.length_le;have:=Js.Lc w;have:=h.sum;omega
 have ix:∀x,(gF d).idxOf x<G9:=λx=>YA List.idxOf_le_length (by rw[u];show _<1000000000;omega);have st:∀n,(∀p∈steps (dI d) (gF d) n,97<=p.1/\p.1<=122/\p.2<G9)/\(steps (dI d) (gF d) n).Pairwise (λa b=>a.1<b.1)/\(steps (dI d) (gF d) n).length<=26:=λn=>by
  refine⟨λp g=>?_,?_,?_⟩
  ·obtain⟨c,C,rfl⟩:=Z0.mp g;have:=List.mem_range'_1.mp (XS.mp C).1;exact⟨this.1,by have:=this.2;show c<=122;omega,ix _⟩
  ·unfold steps;rw[Y8];have:(List.range' 97 26).Pairwise (· < ·):=by decide
   exact List.Pairwise.filter _ this
  ·unfold steps sk;rw[Zy];exact ZY (Xa _ _) (by decide)
 refine⟨λr A=>?_,?_,λz=>?_⟩
 ·obtain⟨n,f,rfl⟩:=Z0.mp A;have f:=(v n).mp f;obtain⟨s,o,m⟩:=st n;unfold row;cases e:(dI d).lk.getD n L with
  |none=>exact⟨by show 0<1000000000;decide,by show 0<1000000000;decide,λk h=>(nomatch h),s,o,m⟩
  |some q =>
   have:=hw q (H.i.wf.up n q e);have:=hw n f;exact⟨by show _+1<1000000000;omega,by show (dI d).lg.getD n 0<1000000000;omega,λk h=>by cases h;exact ix q,s,o,m⟩
 ·unfold tabOf tab;rw[Zy,u];omega
 ·have e:(gF d).map (row (dI d) (gF d))=[]:=z;have j:=(v 0).mpr H.i.wf.pos;rw[List.map_eq_nil_iff.mp e]at j;cases j
def xO(R:List Row):ij (R.map cR)=B:=hZ _ qd R
def AN(r:Row):GD 59 (cR r)=B:=by
 have d:GD 58 (DP r.2.2.1)=B:=by cases r.2.2.1<;>rfl
 have b:GD 58 (Hk r.2.2.2)=B:=by
  show (r.2.2.2.map λp=>T.tup [.str [p.1],.int (p.2:Int)]).all (GD 57)=B;rw[ZE];intro x a;obtain⟨p,_,rfl⟩:=Z0.mp a;rfl
 show (B&&(B&&(GD 58 (DP r.2.2.1)&&(GD 58 (Hk r.2.2.2)&&B))))=B;rw[d,b];rfl
def sS(t:List Row):GD 60 (FV t)=B:=by
 show (t.map cR).all (GD 59)=B;rw[ZE];intro x a;obtain⟨r,_,rfl⟩:=Z0.mp a;exact AN r
def zy{l:Vw}(h:e U=Z (.fr,.lst l))(a:i<U.length):lP i e U=Z (.nx (U.set i (Z (.ow (.lst l))))):=by
 show (e U).bind _=_;rw[h];exact Zp a
def turn(h:Tb R)(a:W8)(f e d:Vz):nc [pc (.scr a),pc (FV R),f,e,d]=Z (.nx [pc (.scr a),pc (FV R),pc (FV R),Q2 (txt R),pc (.lst [])]):=by
 have GB:=h.GB;unfold nc;refine sq (ax (m:=.fr) (t:=FV R) (fJ (xv (r:=ag) (x:=(.pu,FV R)) Y Y) ?_) (by decide) (by show 2<5;decide)) (sq (ax (aN (xv (r:=ag) (x:=(.pu,FV R)) Y Y) (CC h)) (by decide) (by show 3<5;decide)) (sq (iH (m:=.fr) (MB (m:=.fr) (n:=.fr) (x:=O) (y:=O) Y (MB (m:=.fr) (n:=.fr) (x:=O) (y:=O) (e2v (x:=(.fr,.str (txt R))) Y (aN (xv (r:=ag) (x:=(.pu,FV R)) Y Y) (DY h)) (uE (r:=B) Y Y (beq_self_eq_true (txt R)))) (e2v (x:=(.pu,FV R)) (y:=(.pu,FV R)) Y Y (uE (r:=B) (sS R) (sS R) (rG 60 _ (sS R)))))) Y) (sq (zy (l:=R.map cR) (aN (xv (r:=ag) (x:=(.fr,.str (txt R))) Y Y) (vP h)) (by show 4<5;decide)) (sq (iH (m:=.fr) (i4 (m:=.fr) (b:=B) (aN (xv (x:=(.bo,FV R)) Y (xv (r:=ag) (x:=(.pu,FV R)) Y Y)) (t7 h))) Y) (sq (U1:=[pc (.scr a),pc (FV R),pc (FV R),Q2 (txt R),oc (.lst [])]) Y (sq (U1:=[pc (.scr a),pc (FV R),pc (FV R),Q2 (txt R),pc (.lst [])]) Y (iH (m:=.fr) (i4 (m:=.fr) (b:=B) (aN (xv (aN (xv (r:=ag) (x:=(.fr,.str (txt R))) Y Y) (vP h)) (xv (r:=ag) (x:=(.pu,FV R)) Y Y)) (t7 h))) Y)))))));show Hu .pu (R.map cR)=_;rw[jt (by rw[Zy];omega),xO];rfl
def wm(a:W8):xG [.scr a]=Z (.fr,.bl B):=by
 obtain⟨bk,e1,n,j,o⟩:=Cs a;have f:Js bk:=⟨n,by unfold d9;rw[← List.length_flatten];exact j,o⟩
 obtain⟨R2,h,t2⟩:=vZ a 0 (by decide);obtain⟨b,g,t3⟩:=vZ a 2 (by decide);have d:=C8 f;generalize i:tabOf bk=R1 at d;have e:=AE f (U:=[pc (.scr a),L,L,L,L]) (arg:=aQ fP (ae (ab 0) ag)) (m:=.fr) (aN (xv (r:=ag) (x:=(.fr,.scr a)) Y Y) e1);rw[i]at e;refine cA (U:=[pc (.scr a),pc (FV b),pc (FV b),Q2 (txt b),pc (.lst [])]) Y (sq ((eZ (m:=.fr) (l:=[FV R1,FV R2,FV b]) ?_ Y).trans ((dU (U1:=[pc (.scr a),pc (FV R1),L,L,L]) Y (turn d a _ _ _)).trans ((dU (U1:=[pc (.scr a),pc (FV R2),pc (FV R1),Q2 (txt R1),pc (.lst [])]) Y (turn t2 a _ _ _)).trans ((dU (U1:=[pc (.scr a),pc (FV b),pc (FV R2),Q2 (txt R2),pc (.lst [])]) Y (turn t3 a _ _ _)).trans Y)))) Y);show (cQ _ [pc (.scr a),L,L,L,L]).bind pb=_;unfold cQ;rw[xv e (xv (aN (xv (x:=(.fr,.scr a)) Y (xv (r:=ag) (x:=(.fr,.int 0)) Y Y)) h) (xv (r:=ag) (aN (xv (x:=(.fr,.scr a)) Y (xv (r:=ag) (x:=(.fr,.int 2)) Y Y)) g) Y)),Zs];show (Hu .fr [FV R1,FV R2,FV b]).bind pb=_;rw[jt (by show 3<=_;decide)];rfl
end T51
end
section
namespace T51
open PySem PySem.Spec PyProof.Rows L2 VS
def qv{X:Cx}(i:Nat)(a:{`q8,X.N[i]?=Z x})(b:Iw X.env.scope x:=by exact Or.inl Y)(c:{`q2,K3 x})(d:{`q2,K4 x}):PV G X (.Name x p) (ab i):=bA i a b c d
def Q4{α:Sort _}{x:α}{b:Prop}:x=x∨b:=.inl Y
abbrev Q5:List Str:=["_law_cell", "_law_k"]
abbrev Q6:List Str:=["_law_got", "_law_due_here"]
abbrev Q7:List Str:=["_law_j", "_law_script", "_law_cell", "_law_letters", "_law_count", "_law_most"]
abbrev Q8:List Str:=["_law_k", "_law_got", "_law_due_here"]
abbrev Q9:List Str:=["_law_script", "_law_k"]
abbrev Qa:List Str:=["_law_script", "_law_letters", "_law_most", "_law_j"]
abbrev Qb:List Str:=["_law_script"]
abbrev Qc:List Str:=["book", "number"]
abbrev Qd:List Str:=["number", "line", "fields", "ways", "numbers"]
abbrev Qe:List Str:=["self", "head", "sign"]
abbrev Qf:List Str:=["self", "head", "word"]
abbrev Qg:List Str:=["self", "long", "link", "ways"]
abbrev Qh:List Str:=["self", "node", "numbers"]
abbrev Qi:List Str:=["self", "node", "sign"]
abbrev Qj:List Str:=["self", "text", "word"]
abbrev Qk:List Str:=["self"]
abbrev Ql:List Str:=["sign", "number", "row", "link", "ways"]
abbrev Qm:List Str:=["sign", "self", "node", "numbers", "link", "ways", "steps"]
abbrev Qn:List Str:=["text", "most"]
abbrev Qo:List Str:=["thing"]
abbrev Qp:List Str:=["way", "line", "fields", "link", "ways"]
abbrev Qq:List Str:=["way", "line", "fields", "ways", "numbers"]
noncomputable def top(i:Nat):Stmt:=PySem.Challenge.pw_allparts_k51_tables_written.main.body.getD i (.Pass ⟨0,0,0,0⟩)
structure GN(mg:W3):Prop where
 Io:mg "all" = none
 JT:mg "bool" = none
 LQ:mg "dict" = none
 Im:mg "enumerate" = none
 Hj:mg "int" = none
 gV:mg "isinstance" = none
 FU:mg "len" = none
 G5:mg "list" = none
 Nq:mg "max" = none
 Np:mg "min" = none
 G0:mg "range" = none
 Nn:mg "set" = none
 Hi:mg "sorted" = none
 GS:mg "str" = none
 Nl:mg "sum" = none
 GR:mg "tuple" = none
 GJ:∃t,mg "MOST_FIGURES" = some (.int 9 t)
 HQ:∃t,mg "MOST_LINES" = some (.int 300 t)
 HP:∃t,mg "MOST_SIGNS" = some (.int 120 t)
 HN:∃t,mg "MOST_TEXTS" = some (.int 8 t)
noncomputable abbrev KQ:List Str:=["  ", "longs", "links", "ways", "texts", "heads", "nodes"]
abbrev gX(K:W0)(C D:KB):Gx:=J9 KQ K C D
def gJ{K:W0}:jL ((J9 KQ K C D).at m):=zC (by decide +kernel) (by decide +kernel)
structure Gu(K:W0)(mg:W3)(C D:KB):Prop where
 xa:G6 K C
 JE:mg "Nodes" = some (.ref C)
 Gn:aS K C "longs"
 Gp:aS K C "links"
 Gv:aS K C "ways"
 Gk:aS K C "texts"
 Gq:aS K C "heads"
 Gm:aS K C "nodes"
 p0:G6 K D
 ID:mg "Machine" = some (.ref D)
 FZ:aS K D "longs"
 Ga:aS K D "links"
 Gh:aS K D "ways"
 FX:aS K D "texts"
 Gb:aS K D "heads"
 FY:aS K D "nodes"
def fh{K:W0}(O:Gu K a C D):GT ((J9 KQ K C D).at m) K 1 "longs" := vA Y O.xa O.p0 O.Gn O.FZ
def fi{K:W0}(O:Gu K a C D):GT ((J9 KQ K C D).at m) K 2 "links" := vA Y O.xa O.p0 O.Gp O.Ga
def dY{K:W0}(O:Gu K a C D):GT ((J9 KQ K C D).at m) K 3 "ways" := vA Y O.xa O.p0 O.Gv O.Gh
def d0{K:W0}(O:Gu K a C D):GT ((J9 KQ K C D).at m) K 4 "texts" := vA Y O.xa O.p0 O.Gk O.FX
def kb{K:W0}(O:Gu K a C D):GT ((J9 KQ K C D).at m) K 5 "heads" := vA Y O.xa O.p0 O.Gq O.Gb
def mU{K:W0}(O:Gu K a C D):GT ((J9 KQ K C D).at m) K 6 "nodes" := vA Y O.xa O.p0 O.Gm O.FY
section
variable(P:Pv)(w:SL)(base:SC){K:W0}
abbrev eE:Stmt:=inClass (top 24) 1
def kD:bt Qg Qg (ai eE):=by constructor<;>first | rfl | decide +kernel
def aI(F:xh K "new_node" "Nodes.new_node" eE f d)(a:Meth K C "new_node" f)(B:GN mg)(O:Gu K mg C D) :
  MtAt P w K mg base 1 (gX K C D) 0 "new_node" Qg [false,false,true] aF:=lB F a O.xa (gg (by decide +kernel) (by decide +kernel)) kD Y Y (λ_ _ _ _ _ _ e b=>by obtain⟨_,_,_,_,rfl⟩:=L2.El b;rfl) λ_ _ _ _ _ _ _ g =>
  (ah (qf gJ (fo 1 (fh O) (bL 0)) (aa (qv 1) af))
  (ah (qf gJ (fo 2 (fi O) (bL 0)) (aa (qv 2) af))
  (ah (zx gJ (fo 3 (dY O) (bL 0)) Y Y Q4 Y Y Y Y Y Y Y Y)
  (ak (aL (gE sO sy (eu B.FU (aa (w_fld gJ (fh O) (qv 0)) af)) aj))))))
abbrev eJ:Stmt:=inClass (top 24) 0
def jY:bt Qk Qk (ai eJ):=by constructor<;>first | rfl | decide +kernel
def cu(F:xh K "__init__" "Nodes.__init__" eJ f e)(b:Mk K C f)(B:GN mg)(O:Gu K mg C D)(g:MtAt P w K mg base 1 (gX K C D) 0 "new_node" Qg [false,false,true] aF) :
  InAt P w K mg base 2 (gX K C D) 0 0 "Nodes" Qk dg:=CZ F b O.JE jY Y Y (λ_ _ _ _ _ _ h d=>by obtain⟨_,rfl⟩:=L2.iw d;rfl) λ_ _ _ _ _ _ _ a =>
  (ah (kM 0 1 gJ (fh O) (cq af))
  (ah (kM 0 2 gJ (fi O) (cq af))
  (ah (kM 0 3 gJ (dY O) (cq af))
  (ak (qu (ip gJ g.at a (by decide) (bL 0) (aa aj (aa qb (aa wZ af)))) Y)))))
abbrev cf:Stmt:=inClass (top 24) 4
def aW:bt ["self", "node", "sign", "old", "long", "half"] Qi (ai cf):=by constructor<;>first | rfl | decide +kernel
def aP(F:xh K "node_just_behind" "Nodes.node_just_behind" cf f e)(b:Meth K C "node_just_behind" f)(B:GN mg)(O:Gu K mg C D)(g:MtAt P w K mg base 1 (gX K C D) 0 "new_node" Qg [false,false,true] aF) :
  MtAt P w K mg base 2 (gX K C D) 0 "node_just_behind" Qi [false,false] au:=lB F b O.xa (gg (by decide +kernel) (by decide +kernel)) aW Y Y (λ_ _ _ _ _ _ h d=>by obtain⟨_,_,_,rfl⟩:=L2.u6 d;rfl) λ_ _ _ _ _ _ _ a =>
  (ah (av (xA a (aV (w_fld gJ (dY O) (qv 0)) (qv 1) (λ_ _=>rfl)) (qv 2) (λ_ _=>rfl)) aW.nd Y Q4)
  (ah (av (w_add (aV (w_fld gJ (fh O) (qv 0)) (qv 1) (λ_ _=>rfl)) aj) aW.nd Y Q4)
  (ah (bM (ku a (aV (w_fld gJ (fh O) (qv 0)) (qv 3) (λ_ _=>rfl)) (qv 4)) (ak (gn 3 Y (Or.inl Y) Y Y)) bx)
  (ah (pk (ip gJ g.at a (by decide) (bL 0) (aa (qv 4) (aa (aV (w_fld gJ (fi O) (qv 0)) (qv 3) (λ_ _=>rfl)) (aa (zE B.LQ (aa (aV (w_fld gJ (dY O) (qv 0)) (qv 3) (λ_ _=>rfl)) af) Y Y) af)))) aW.nd Y Q4 Y Q4)
  (ah (jV gJ a (fo 2 (fi O) (bL 0)) (qv 3) (qv 5))
  (ah (lh Yp (Iy.JW (lR (l8 (qv 1)) (lV (ku a (w_get a (aV (w_fld gJ (dY O) (qv 0)) (qv 1) (λ_ _=>rfl)) (qv 2) Y Y Y Y) (qv 3)))))
  (ah (jV gJ a (Bk a (fo 3 (dY O) (bL 0)) (qv 1) (λ_ _=>rfl) Y) (qv 2) (qv 5))
  (ak (av (aV (w_fld gJ (fi O) (qv 0)) (qv 1) (λ_ _=>rfl)) aW.nd Y Q4))))
  (ak (gn 5 Y (Or.inl Y) Y Y))))))))
abbrev dj:Stmt:=inClass (top 24) 3
def b7:bt ["self", "head", "sign", "fresh", "node"] Qe (ai dj):=by constructor<;>first | rfl | decide +kernel
def bI(F:xh K "head_behind" "Nodes.head_behind" dj f g)(d:Meth K C "head_behind" f)(B:GN mg)(O:Gu K mg C D)(h:MtAt P w K mg base 1 (gX K C D) 0 "new_node" Qg [false,false,true] aF)(b:MtAt P w K mg base 2 (gX K C D) 0 "node_just_behind" Qi [false,false] au) :
  MtAt P w K mg base 3 (gX K C D) 0 "head_behind" Qe [false,false] bH:=lB F d O.xa (gg (by decide +kernel) (by decide +kernel)) b7 Y Y (λ_ _ _ _ _ _ i e=>by obtain⟨_,_,_,rfl⟩:=L2.u6 e;rfl) λ_ _ _ _ _ _ _ a =>
  (ah (bM (EL a (qv 2) (aV (w_fld gJ (dY O) (qv 0)) (qv 1) (λ_ _=>rfl)) (by with_unfolding_all rfl) Y) (ak (zJ (ip gJ b.at a (by decide) (bL 0) (aa (qv 1) (aa (qv 2) af))))) bx)
  (ah (pk (ip gJ h.at a (by decide) (bL 0) (aa (w_add (aV (w_fld gJ (fh O) (qv 0)) (qv 1) (λ_ _=>rfl)) aj) (aa aj (aa wZ af)))) b7.nd Y Q4 Y Q4)
  (ah (av (qv 1) b7.nd Y Q4)
  (ah (lh Yp (Iy.JW (lR (l8 (qv 4)) (lV (xn a (qv 2) (aV (w_fld gJ (dY O) (qv 0)) (qv 4) (λ_ _=>rfl)) (by with_unfolding_all rfl) Y))))
  (ah (jV gJ a (Bk a (fo 3 (dY O) (bL 0)) (qv 4) (λ_ _=>rfl) Y) (qv 2) (qv 3))
  (ak (av (aV (w_fld gJ (fi O) (qv 0)) (qv 4) (λ_ _=>rfl)) b7.nd Y Q4))))
  (ah (bM (l8 (qv 4)) (ak (tU gJ a (fo 2 (fi O) (bL 0)) (qv 3) (ip gJ b.at a (by decide) (bL 0) (aa (qv 4) (aa (qv 2) af))) (λ_=>rfl) Y Y Y)) bx)
  (ak (gn 3 Y (Or.inl Y) Y Y)))))))
abbrev dD:Stmt:=inClass (top 24) 2
def dk:bt ["self", "head", "word", "sign"] Qf (ai dD):=by constructor<;>first | rfl | decide +kernel
def bS(F:xh K "head_grown" "Nodes.head_grown" dD f e)(b:Meth K C "head_grown" f)(B:GN mg)(O:Gu K mg C D)(g:MtAt P w K mg base 3 (gX K C D) 0 "head_behind" Qe [false,false] bH) :
  MtAt P w K mg base 4 (gX K C D) 0 "head_grown" Qf [false,false] aM:=lB F b O.xa (gg (by decide +kernel) (by decide +kernel)) dk Y Y (λ_ _ _ _ _ _ h d=>by obtain⟨_,_,_,rfl⟩:=L2.u6 d;rfl) λ_ _ _ _ _ _ _ a =>
  (ah (eU Yp Y (cn (qv 2)) (aG 3 dk.nd Y Q4 Q4)
  (ak (pk (ip gJ g.at a (by decide) (bL 0) (aa (qv 1) (aa (qv 3) af))) dk.nd Y Q4 Y Q4)))
  (ak (gn 1 Y (Or.inl Y) Y Y)))
abbrev cw:Stmt:=inClass (top 24) 6
def aH:bt ["self", "numbers", "met", "done", "ways", "sign"] Qk (ai cw):=by constructor<;>first | rfl | decide +kernel
def bg{m:Me}(F:xh K "numbers_by_node" "Nodes.numbers_by_node" cw f e)(b:Meth K C "numbers_by_node" f)(B:GN mg)(O:Gu K mg C D) :
  MpAt P w K mg base 1 ((gX K C D).at m) 0 "numbers_by_node" Qk aD:=m6 F b O.xa (gg (by decide +kernel) (by decide +kernel)) aH Y Y (λ_ _ _ _ _ _ g d=>by obtain⟨_,rfl⟩:=L2.iw d;rfl) λ_ _ _ _ _ _ a =>
  (ah (fI BD aH.nd Y Q4)
  (ah (fI (cq (aa aj af)) aH.nd Y Q4)
  (ah (av aj aH.nd Y Q4)
  (ah (lh Yp (dP p8 uk iN (qv 3) (eu B.FU (aa (qv 2) af)) (gQ _))
  (ah (av (aV (w_fld gJ (dY O) (qv 0)) (aV (qv 2) (qv 3) (λ_ _=>rfl)) (λ_ _=>rfl)) aH.nd Y Q4)
  (ah (eU Yp Y (cn (t6 B.Hi (aa (qv 4) af))) (aG 5 aH.nd Y Q4 Q4)
  (ak (bM (xn a (xA a (qv 4) (qv 5) (λ_ _=>rfl)) (qv 1) (by with_unfolding_all rfl) Y) (ah (BB 1 a (xA a (qv 4) (qv 5) (λ_ _=>rfl)) (eu B.FU (aa (qv 2) af)) Y Q4 Y Y (λ_=>rfl) Y Y Y)
  (ak (fQ 2 (aa (xA a (qv 4) (qv 5) (λ_ _=>rfl)) af) Y Y Q4 Y Y))) bx)))
  (ak (av (w_add (qv 3) aj) aH.nd Y Q4)))))
  (jU 2 (ak (gn 1 Y (Or.inl Y) Y Y)))))))
abbrev fK:Stmt:=inClass (top 24) 7
def dB:bt ["self", "node", "numbers", "link", "ways", "steps"] Qh (ai fK):=by constructor<;>first | rfl | decide +kernel
def cV{m:Me}(F:xh K "row_of" "Nodes.row_of" fK f e)(b:Meth K C "row_of" f)(B:GN mg)(O:Gu K mg C D) :
  MpAt P w K mg base 1 ((gX K C D).at m) 0 "row_of" Qh bU:=m6 F b O.xa (gg (by decide +kernel) (by decide +kernel)) dB Y Y (λ_ _ _ _ _ _ g d=>by obtain⟨_,_,_,rfl⟩:=L2.u6 d;rfl) λ_ _ _ _ _ _ a =>
  (ah (av (aV (w_fld gJ (fi O) (qv 0)) (qv 1) (λ_ _=>rfl)) dB.nd Y Q4)
  (ah (av (aV (w_fld gJ (dY O) (qv 0)) (qv 1) (λ_ _=>rfl)) dB.nd Y (Or.inr Y))
  (ah (av (oX B.GR (aa (d6 1 Qm Y (cn (t6 B.Hi (aa (bA 4 Y (Or.inr Q4) Y Y) af))) (cU) (λ_ _ _ _ _=>(aG 0 (show List.Nodup Qm from by decide +kernel) Y Q4 (Or.inr Y))) (λ_ _ _ _ _=>(jw (aa (qv 0) (aa (Bc a (bA 3 Y (Or.inr Q4) Y Y) (xA a (bA 5 Y (Or.inr Q4) Y Y) (qv 0) (λ_ _=>rfl)) (λ_ _=>rfl) Y) af)))) Y Y (by decide)) af)) dB.nd Y Q4)
  (ah (bM (sR (qv 3)) (ak (aL (jw (aa aj (aa aj (aa qb (aa (qv 5) af))))))) bx)
  (ak (aL (jw (aa (w_add (aV (w_fld gJ (fh O) (qv 0)) (qv 3) (λ_ _=>rfl)) aj) (aa (aV (w_fld gJ (fh O) (qv 0)) (qv 1) (λ_ _=>rfl)) (aa (Bc a (bA 2 Y (Or.inr Q4) Y Y) (qv 3) (λ_ _=>rfl) Y) (aa (qv 5) af)))))))))))
abbrev gH:Stmt:=inClass (top 24) 5
def i8:bt ["self", "numbers"] Qk (ai gH):=by constructor<;>first | rfl | decide +kernel
def dr{m:Me}(F:xh K "table" "Nodes.table" gH f e)(b:Meth K C "table" f)(B:GN mg)(O:Gu K mg C D)(h:∀m,MpAt P w K mg base 1 ((gX K C D).at m) 0 "numbers_by_node" Qk aD)(g:∀m,MpAt P w K mg base 1 ((gX K C D).at m) 0 "row_of" Qh bU) :
  MpAt P w K mg base 2 ((gX K C D).at m) 0 "table" Qk dm:=m6 F b O.xa (gg (by decide +kernel) (by decide +kernel)) i8 Y Y (λ_ _ _ _ _ _ i d=>by obtain⟨_,rfl⟩:=L2.iw d;rfl) λ_ _ _ _ _ _ a =>
  (ah (fI (nN (h _) a (by decide) (bA 0 Y (Or.inr Q4) Y Y) Y) i8.nd Y (Or.inr Y))
  (ak (B6 1 ["node", "self", "numbers"] Y Y (Or.inr Q4) Y Y (cU) (λ_ _ _ _ _=>(aG 0 (show List.Nodup (["node", "self", "numbers"]:List Str) from by decide +kernel) Y Q4 (Or.inr Y))) (λ_ _ _ _ _=>(zZ (g _) a (by decide) (bA 1 Y (Or.inr Q4) Y Y) (aa (qv 0) (aa (bA 2 Y (Or.inr Q4) Y Y) af)) Y Y Y)) Y Y (by decide) (λ_=>rfl))))
abbrev fq:Stmt:=inClass (top 26) 1
def kY:bt Qk Qk (ai fq):=by constructor<;>first | rfl | decide +kernel
def cM(F:xh K "begin" "Machine.begin" fq f d)(a:Meth K D "begin" f)(B:GN mg)(O:Gu K mg C D) :
  MtAt P w K mg base 1 (gX K C D) 1 "begin" Qk [] bw:=lB F a O.p0 (gg (by decide +kernel) (by decide +kernel)) kY Y Y (λ_ _ _ _ _ _ e b=>by obtain⟨_,rfl⟩:=L2.iw b;rfl) λ_ _ _ _ _ _ _ g =>
  (ah (bM (dP (Bu.or oo) A6 qF (eu B.FU (aa (w_fld gJ (d0 O) (qv 0)) af)) (kx B.HN Y Y) (gQ _)) (ak mJ) bx)
  (ah (qf gJ (fo 4 (d0 O) (bL 0)) (aa (bp (by decide +kernel) (by decide)) af))
  (ah (qf gJ (fo 5 (kb O) (bL 0)) (aa aj af))
  (ak (aL (gE sO sy (eu B.FU (aa (w_fld gJ (d0 O) (qv 0)) af)) aj))))))
abbrev jG:Stmt:=top 8
def qX:bt Qo Qo (ai jG):=by constructor<;>first | rfl | decide +kernel
def gj{m:Me}(F:xh K "is_whole" "is_whole" jG f d)(a:mg "is_whole" = Z (.ref f))(B:GN mg)(O:Gu K mg C D) :
  FnAt P w K mg base 1 "is_whole" Qo ((gX K C D).at m) jH:=dQ F a qX Y Y (λ_ _ _ _ _ _ e b=>by obtain⟨_,rfl⟩:=L2.iw b;rfl) λ_ _ _ _ _ _ g =>
  (ak (aL (iI (w_is .int B.gV B.Hj (qv 0)) (kT (wC (w_is .bool B.gV B.JT (qv 0)))))))
abbrev eG:Stmt:=top 10
def j8:bt Qc Qc (ai eG):=by constructor<;>first | rfl | decide +kernel
def cy{m:Me}(F:xh K "refuse_no_text" "refuse_no_text" eG f g)(b:mg "refuse_no_text" = Z (.ref f))(B:GN mg)(O:Gu K mg C D)(e:∀m,FnAt P w K mg base 1 "is_whole" Qo ((gX K C D).at m) jH) :
  FnAt P w K mg base 2 "refuse_no_text" Qc ((gX K C D).at m) bh:=dQ F b j8 Y Y (λ_ _ _ _ _ _ h d=>by obtain⟨_,_,rfl⟩:=L2.ed d;rfl) λ_ _ _ _ _ _ a =>
  (ak (bM (Iy.JW (jD (fG (gw (bj (e _) a (aa (qv 1) af) (by decide) Y Y))) (la (fG (nR aj (qv 1) (eu B.FU (aa (qv 0) af)) (by with_unfolding_all rfl)))))) (ak mJ) bx))
abbrev jv:Stmt:=top 11
def qM:bt ["book"] ["book"] (ai jv):=by constructor<;>first | rfl | decide +kernel
def fS{m:Me}(F:xh K "signs_in" "signs_in" jv f d)(a:mg "signs_in" = Z (.ref f))(B:GN mg)(O:Gu K mg C D) :
  FnAt P w K mg base 1 "signs_in" ["book"] ((gX K C D).at m) fW:=dQ F a qM Y Y (λ_ _ _ _ _ _ e b=>by obtain⟨_,rfl⟩:=L2.iw b;rfl) λ_ _ _ _ _ _ g =>
  (ak (aL (w_sum B.Nl (aa (d6 1 ["text", "book"] Y (cn (qv 0)) (cU) (λ_ _ _ _ _=>(aG 0 (show List.Nodup (["text", "book"]:List Str) from by decide +kernel) Y Q4 (Or.inr Y))) (λ_ _ _ _ _=>(eu B.FU (aa (qv 0) af))) Y Y (by decide)) af))))
abbrev gm:Stmt:=inClass (top 26) 2
def lQ:bt Qj Qj (ai gm):=by constructor<;>first | rfl | decide +kernel
def c4(F:xh K "grow" "Machine.grow" gm f e)(b:Meth K D "grow" f)(B:GN mg)(O:Gu K mg C D)(i:MtAt P w K mg base 4 (gX K C D) 0 "head_grown" Qf [false,false] aM)(h:∀m,FnAt P w K mg base 2 "refuse_no_text" Qc ((gX K C D).at m) bh)(g:∀m,FnAt P w K mg base 1 "signs_in" ["book"] ((gX K C D).at m) fW) :
  MtAt P w K mg base 5 (gX K C D) 1 "grow" Qj [false,false] bu:=lB F b O.p0 (gg (by decide +kernel) (by decide +kernel)) lQ Y Y (λ_ _ _ _ _ _ j d=>by obtain⟨_,_,_,rfl⟩:=L2.u6 d;rfl) λ_ _ _ _ _ _ _ a =>
  (ah (Cq (bj (h _) a (aa (w_fld gJ (d0 O) (qv 0)) (aa (qv 1) af)) (by decide) Y Y) Y)
  (ah (bM (dP (Br.or oN) Bf qC (w_add (bj (g _) a (aa (w_fld gJ (d0 O) (qv 0)) af) (by decide) Y Y) (eu B.FU (aa (qv 2) af))) (kx B.HP Y Y) (gQ _)) (ak mJ) bx)
  (ah (tU gJ a (fo 5 (kb O) (bL 0)) (qv 1) (ip gJ i.at a (by decide) (fo 6 (mU O) (bL 0)) (aa (aV (w_fld gJ (kb O) (qv 0)) (qv 1) (λ_ _=>rfl)) (aa (qv 2) af))) (λ_=>rfl) Y Y Y)
  (ak (jV gJ a (fo 4 (d0 O) (bL 0)) (qv 1) (w_add (aV (w_fld gJ (d0 O) (qv 0)) (qv 1) (λ_ _=>rfl)) (qv 2)))))))
abbrev bT:Stmt:=inClass (top 26) 0
def fB:bt ["self", "book", "text"] ["self", "book"] (ai bT):=by constructor<;>first | rfl | decide +kernel
def bR(F:Jk K "__init__" "Machine.__init__" bT f h)(e:Mk K D f)(B:GN mg)(O:Gu K mg C D)(j:MtAt P w K mg base 1 (gX K C D) 1 "begin" Qk [] bw)(l:MtAt P w K mg base 5 (gX K C D) 1 "grow" Qj [false,false] bu)(i:InAt P w K mg base 2 (gX K C D) 0 0 "Nodes" Qk dg) :
  InAt P w K mg base 6 (gX K C D) 1 1 "Machine" ["self", "book"] aR:=zW F e O.ID fB Y Y (λ_ _ _ _ _ _ _ _ _ _ m X d b g=>by obtain⟨_,_,rfl⟩:=L2.ed g;exact PySem.W.binds_K X Y d b Y Y) λ_ _ _ _ _ _ _ a =>
  (ah (kM 0 4 gJ (d0 O) (cq af))
  (ah (kM 0 5 gJ (kb O) (cq af))
  (ah (kM 0 6 gJ (mU O) (zK i.at a (by decide) Y Y))
  (ak (bM (l8 (qv 1)) (ak (eU Yp Y (cn (qv 1)) (aG 2 fB.nd Y Q4 Q4)
  (ak (qu (C4 l.at a (by decide) Y Q4 Y Y (xV gJ j.at a (by decide) (bL 0) Y) (aa (qv 2) af) Y Y Y) Y)))) bx)))))
abbrev fT:Stmt:=inClass (top 26) 3
def lL:bt Qk Qk (ai fT):=by constructor<;>first | rfl | decide +kernel
def iQ{m:Me}(F:xh K "book" "Machine.book" fT f d)(a:Meth K D "book" f)(B:GN mg)(O:Gu K mg C D) :
  MpAt P w K mg base 1 ((gX K C D).at m) 1 "book" Qk mf:=m6 F a O.p0 (gg (by decide +kernel) (by decide +kernel)) lL Y Y (λ_ _ _ _ _ _ e b=>by obtain⟨_,rfl⟩:=L2.iw b;rfl) λ_ _ _ _ _ _ g =>
  (ak (aL (pY B.G5 (aa (w_fld gJ (d0 O) (qv 0)) af))))
abbrev fz:Stmt:=inClass (top 26) 4
def k8:bt Qk Qk (ai fz):=by constructor<;>first | rfl | decide +kernel
def cI{m:Me}(F:xh K "table" "Machine.table" fz f e)(b:Meth K D "table" f)(B:GN mg)(O:Gu K mg C D)(g:∀m,MpAt P w K mg base 2 ((gX K C D).at m) 0 "table" Qk dm) :
  MpAt P w K mg base 3 ((gX K C D).at m) 1 "table" Qk bY:=m6 F b O.p0 (gg (by decide +kernel) (by decide +kernel)) k8 Y Y (λ_ _ _ _ _ _ h d=>by obtain⟨_,rfl⟩:=L2.iw d;rfl) λ_ _ _ _ _ _ a =>
  (ak (aL (nN (g _) a (by decide) (w_fld gJ (mU O) (qv 0)) Y)))
abbrev eT:Stmt:=top 9
def kz:bt Qo Qo (ai eT):=by constructor<;>first | rfl | decide +kernel
def cx{m:Me}(F:xh K "has_only_signs" "has_only_signs" eT f d)(a:mg "has_only_signs" = Z (.ref f))(B:GN mg)(O:Gu K mg C D) :
  FnAt P w K mg base 1 "has_only_signs" Qo ((gX K C D).at m) df:=dQ F a kz Y Y (λ_ _ _ _ _ _ e b=>by obtain⟨_,rfl⟩:=L2.iw b;rfl) λ_ _ _ _ _ _ g =>
  (ak (aL (iI (w_is .str B.gV B.GS (qv 0)) (kT (w_all B.Io (aa (d6 1 ["sign", "thing"] Y (cn (qv 0)) (cU) (λ_ _ _ _ _=>(aG 0 (show List.Nodup (["sign", "thing"]:List Str) from by decide +kernel) Y Q4 (Or.inr Y))) (λ_ _ _ _ _=>(jk (bp (by decide +kernel) (by decide)) (qv 0) (bp (by decide +kernel) (by decide)) (by with_unfolding_all rfl))) Y Y (by decide)) af))))))
abbrev jQ:Stmt:=top 16
def iM:bt ["row", "link", "ways"] ["row"] (ai jQ):=by constructor<;>first | rfl | decide +kernel
def fM{m:Me}(F:xh K "show_row" "show_row" jQ f d)(a:mg "show_row" = Z (.ref f))(B:GN mg)(O:Gu K mg C D) :
  FnAt P w K mg base 1 "show_row" ["row"] ((gX K C D).at m) iy:=dQ F a iM Y Y (λ_ _ _ _ _ _ e b=>by obtain⟨_,rfl⟩:=L2.iw b;rfl) λ_ _ _ _ _ _ g =>
  (ah (av (vY (sR (aV (qv 0) aj (λ_ _=>rfl))) (bp (by decide +kernel) (by decide)) (jE B.GS (aa (aV (qv 0) aj (λ_ _=>rfl)) af))) iM.nd Y Q4)
  (ah (yB 2 Ql (λ_ _ _ h=>AR h) Y (cn (aV (qv 0) aj (λ_ _=>rfl))) (v8 (cU) (cU)) (λ_ _ _ _ _=>(lZ Y (cO (aG 0 (show List.Nodup Ql from by decide +kernel) Y Q4 (Or.inr Y)) (cO (aG 1 (show List.Nodup Ql from by decide +kernel) Y Q4 (Or.inr Y)) kJ)))) (λ_ _ _ _ _=>(Af (Bw (qv 0)) (bp (by decide +kernel) (by decide)) (Bw (qv 1)))) iM.nd Y Q4 Y Y (by decide))
  (ak (aL (lY (bp (by decide +kernel) (by decide)) (aa (w_add (cq (aa (jE B.GS (aa (aV (qv 0) aj (λ_ _=>rfl)) af)) (aa (jE B.GS (aa (aV (qv 0) aj (λ_ _=>rfl)) af)) (aa (qv 1) af)))) (qv 2)) af))))))
abbrev ir:Stmt:=top 15
def n9:bt ["table"] ["table"] (ai ir):=by constructor<;>first | rfl | decide +kernel
def dR{m:Me}(F:xh K "show_table" "show_table" ir f e)(b:mg "show_table" = Z (.ref f))(B:GN mg)(O:Gu K mg C D)(g:∀m,FnAt P w K mg base 1 "show_row" ["row"] ((gX K C D).at m) iy) :
  FnAt P w K mg base 2 "show_table" ["table"] ((gX K C D).at m) fF:=dQ F b n9 Y Y (λ_ _ _ _ _ _ h d=>by obtain⟨_,rfl⟩:=L2.iw d;rfl) λ_ _ _ _ _ _ a =>
  (ak (aL (lY (bp (by decide +kernel) (by decide)) (aa (d6 1 ["row", "table"] Y (cn (qv 0)) (cU) (λ_ _ _ _ _=>(aG 0 (show List.Nodup (["row", "table"]:List Str) from by decide +kernel) Y Q4 (Or.inr Y))) (λ_ _ _ _ _=>(bj (g _) a (aa (qv 0) af) (by decide) Y Y)) Y Y (by decide)) af))))
abbrev dZ:Stmt:=top 17
def jJ:bt Qn Qn (ai dZ):=by constructor<;>first | rfl | decide +kernel
def aX{m:Me}(F:xh K "is_shown_number" "is_shown_number" dZ f e)(b:mg "is_shown_number" = Z (.ref f))(B:GN mg)(O:Gu K mg C D) :
  FnAt P w K mg base 1 "is_shown_number" Qn ((gX K C D).at m) bE:=dQ F b jJ Y Y (λ_ _ _ _ _ _ g d=>by obtain⟨_,_,rfl⟩:=L2.ed d;rfl) λ_ _ _ _ _ _ a =>
  (ah (bM (Iy.JW (jD (fG (nM aj (eu B.FU (aa (qv 0) af)) (qv 1) (by with_unfolding_all rfl))) (la (Iy.JW (lR (ku a (aV (qv 0) aj (λ_ _=>rfl)) (bp (by decide +kernel) (by decide))) (lV (dP (Br.or oN) Bf qC (eu B.FU (aa (qv 0) af)) aj (gQ _)))))))) (ak (aL nB)) bx)
  (ak (aL (w_all B.Io (aa (d6 1 ["figure", "text", "most"] Y (cn (qv 0)) (cU) (λ_ _ _ _ _=>(aG 0 (show List.Nodup (["figure", "text", "most"]:List Str) from by decide +kernel) Y Q4 (Or.inr Y))) (λ_ _ _ _ _=>(jk (bp (by decide +kernel) (by decide)) (qv 0) (bp (by decide +kernel) (by decide)) (by with_unfolding_all rfl))) Y Y (by decide)) af)))))
abbrev tm:Stmt:=top 18
def Ac:bt ["signs"] ["signs"] (ai tm):=by constructor<;>first | rfl | decide +kernel
def ny{m:Me}(F:xh K "rise" "rise" tm f e)(b:mg "rise" = Z (.ref f))(B:GN mg)(O:Gu K mg C D) :
  FnAt P w K mg base 1 "rise" ["signs"] ((gX K C D).at m) pV:=dQ F b Ac Y Y (λ_ _ _ _ _ _ g d=>by obtain⟨_,rfl⟩:=L2.iw d;rfl) λ_ _ _ _ _ _ a =>
  (ak (aL (w_eq a (pY B.G5 (aa (qv 0) af)) (rR B.Hi B.Nn (aa (qv 0) af)))))
abbrev gb:Stmt:=top 21
def lO:bt ["field"] ["field"] (ai gb):=by constructor<;>first | rfl | decide +kernel
def cY{m:Me}(F:xh K "is_shown_way" "is_shown_way" gb f e)(b:mg "is_shown_way" = Z (.ref f))(B:GN mg)(O:Gu K mg C D)(g:∀m,FnAt P w K mg base 1 "has_only_signs" Qo ((gX K C D).at m) df)(h:∀m,FnAt P w K mg base 1 "is_shown_number" Qn ((gX K C D).at m) bE) :
  FnAt P w K mg base 2 "is_shown_way" ["field"] ((gX K C D).at m) dM:=dQ F b lO Y Y (λ_ _ _ _ _ _ i d=>by obtain⟨_,rfl⟩:=L2.iw d;rfl) λ_ _ _ _ _ _ a =>
  (ak (aL (iI (bj (g _) a (aa (fj (qv 0) fO (d8 aj)) af) (by decide) Y Y) (iI (w_eq a (fj (qv 0) (d8 aj) (d8 aj)) (bp (by decide +kernel) (by decide))) (kT (bj (h _) a (aa (fj (qv 0) (d8 aj) fO) (aa (kx B.GJ Y Y) af)) (by decide) Y Y))))))
abbrev gf:Stmt:=top 20
def dA:bt ["line", "fields", "ways", "numbers"] ["line"] (ai gf):=by constructor<;>first | rfl | decide +kernel
def cW{m:Me}(F:xh K "is_shown_row" "is_shown_row" gf f g)(d:mg "is_shown_row" = Z (.ref f))(B:GN mg)(O:Gu K mg C D)(i:∀m,FnAt P w K mg base 1 "is_shown_number" Qn ((gX K C D).at m) bE)(h:∀m,FnAt P w K mg base 2 "is_shown_way" ["field"] ((gX K C D).at m) dM)(b:∀m,FnAt P w K mg base 1 "rise" ["signs"] ((gX K C D).at m) pV) :
  FnAt P w K mg base 3 "is_shown_row" ["line"] ((gX K C D).at m) dN:=dQ F d dA Y Y (λ_ _ _ _ _ _ j e=>by obtain⟨_,rfl⟩:=L2.iw e;rfl) λ_ _ _ _ _ _ a =>
  (ah (av (mL (qv 0) (aa (bp (by decide +kernel) (by decide)) af)) dA.nd Y Q4)
  (ah (av (fj (qv 1) (d8 aj) fO) dA.nd Y Q4)
  (ah (bM (Iy.JW (jD (dP p8 uk iN (eu B.FU (aa (qv 1) af)) aj (gQ _)) (la (fG (gw (w_all B.Io (aa (d6 1 Qq Y (cn (qv 2)) (cU) (λ_ _ _ _ _=>(aG 0 (show List.Nodup Qq from by decide +kernel) Y Q4 (Or.inr Y))) (λ_ _ _ _ _=>(bj (h _) a (aa (qv 0) af) (by decide) Y Y)) Y Y (by decide)) af))))))) (ak (aL nB)) bx)
  (ah (av (vY (ku a (aV (qv 1) aj (λ_ _=>rfl)) (bp (by decide +kernel) (by decide))) (fj (qv 1) fO (d8 aj)) (fj (qv 1) fO (d8 aj))) dA.nd Y Q4)
  (ak (aL (iI (w_all B.Io (aa (d6 1 Qd Y (cn (qv 3)) (cU) (λ_ _ _ _ _=>(aG 0 (show List.Nodup Qd from by decide +kernel) Y Q4 (Or.inr Y))) (λ_ _ _ _ _=>(bj (i _) a (aa (qv 0) (aa (kx B.GJ Y Y) af)) (by decide) Y Y)) Y Y (by decide)) af)) (kT (bj (b _) a (aa (d6 1 Qq Y (cn (qv 2)) (cU) (λ_ _ _ _ _=>(aG 0 (show List.Nodup Qq from by decide +kernel) Y Q4 (Or.inr Y))) (λ_ _ _ _ _=>(aV (qv 0) aj (λ_ _=>rfl))) Y Y (by decide)) af) (by decide) Y Y)))))))))
abbrev ju:Stmt:=top 22
def gD:bt ["line", "fields", "link", "ways"] ["line"] (ai ju):=by constructor<;>first | rfl | decide +kernel
def gp{m:Me}(F:xh K "read_row" "read_row" ju f e)(b:mg "read_row" = Z (.ref f))(B:GN mg)(O:Gu K mg C D) :
  FnAt P w K mg base 1 "read_row" ["line"] ((gX K C D).at m) iB:=dQ F b gD Y Y (λ_ _ _ _ _ _ g d=>by obtain⟨_,rfl⟩:=L2.iw d;rfl) λ_ _ _ _ _ _ a =>
  (ah (av (mL (qv 0) (aa (bp (by decide +kernel) (by decide)) af)) gD.nd Y Q4)
  (ah (av (vY (ku a (aV (qv 1) aj (λ_ _=>rfl)) (bp (by decide +kernel) (by decide))) qb (pq B.Hj (aa (aV (qv 1) aj (λ_ _=>rfl)) af))) gD.nd Y Q4)
  (ah (av (oX B.GR (aa (d6 1 Qp Y (cn (fj (qv 1) (d8 aj) fO)) (cU) (λ_ _ _ _ _=>(aG 0 (show List.Nodup Qp from by decide +kernel) Y Q4 (Or.inr Y))) (λ_ _ _ _ _=>(jw (aa (aV (qv 0) aj (λ_ _=>rfl)) (aa (pq B.Hj (aa (fj (qv 0) (d8 aj) fO) af)) af)))) Y Y (by decide)) af)) gD.nd Y Q4)
  (ak (aL (jw (aa (pq B.Hj (aa (aV (qv 1) aj (λ_ _=>rfl)) af)) (aa (pq B.Hj (aa (aV (qv 1) aj (λ_ _=>rfl)) af)) (aa (qv 2) (aa (qv 3) af))))))))))
abbrev ig:Stmt:=top 19
def eX:bt ["text", "table", "number", "line"] ["text"] (ai ig):=by constructor<;>first | rfl | decide +kernel
def dh{m:Me}(F:xh K "read_table" "read_table" ig f g)(b:mg "read_table" = Z (.ref f))(B:GN mg)(O:Gu K mg C D)(h:∀m,FnAt P w K mg base 3 "is_shown_row" ["line"] ((gX K C D).at m) dN)(e:∀m,FnAt P w K mg base 1 "read_row" ["line"] ((gX K C D).at m) iB) :
  FnAt P w K mg base 4 "read_table" ["text"] ((gX K C D).at m) dX:=dQ F b eX Y Y (λ_ _ _ _ _ _ i d=>by obtain⟨_,rfl⟩:=L2.iw d;rfl) λ_ _ _ _ _ _ a =>
  (ah (bM (fG (gw (w_is .str B.gV B.GS (qv 0)))) (ak mJ) bx)
  (ah (fI (cq af) eX.nd Y Q4)
  (ah (eU Yp Y (wG (mL (qv 0) (aa (bp (by decide +kernel) (by decide)) af)) Y B.Im Y Y) (lZ Y (cO (aG 2 eX.nd Y Q4 Q4) (cO (aG 3 eX.nd Y Q4 Q4) kJ)))
  (ah (bM (Iy.JW (jD (dP (Bu.or oo) A6 qF (qv 2) (kx B.HQ Y Y) (gQ _)) (la (fG (gw (bj (h _) a (aa (qv 3) af) (by decide) Y Y)))))) (ak mJ) bx)
  (ak (fQ 1 (aa (bj (e _) a (aa (qv 3) af) (by decide) Y Y) af) Y Y Q4 Y Y))))
  (ak (gn 1 Y (Or.inl Y) Y Y)))))
abbrev gS:Stmt:=top 28
def nJ:bt Q9 Q9 (ai gS):=by constructor<;>first | rfl | decide +kernel
def aO{m:Me}(F:xh K "_law_cell_at" "_law_cell_at" gS f d)(a:mg "_law_cell_at" = Z (.ref f))(B:GN mg)(O:Gu K mg C D) :
  FnAt P w K mg base 1 "_law_cell_at" Q9 ((gX K C D).at m) aE:=dQ F a nJ Y Y (λ_ _ _ _ _ _ e b=>by obtain⟨_,_,rfl⟩:=L2.ed b;rfl) λ_ _ _ _ _ _ g =>
  (ah (bM (dP p8 uk iN (qv 1) (eu B.FU (aa (qv 0) af)) (gQ _)) (ak (aL (aV (qv 0) (qv 1) (λ_ _=>rfl)))) bx)
  (ak (aL aj)))
abbrev iZ:Stmt:=top 29
def iA:bt ["_law_cell", "_law_k", "_law_number"] Q5 (ai iZ):=by constructor<;>first | rfl | decide +kernel
def bZ{m:Me}(F:xh K "_law_mixed" "_law_mixed" iZ f d)(a:mg "_law_mixed" = Z (.ref f))(B:GN mg)(O:Gu K mg C D) :
  FnAt P w K mg base 1 "_law_mixed" Q5 ((gX K C D).at m) b6:=dQ F a iA Y Y (λ_ _ _ _ _ _ e b=>by obtain⟨_,_,rfl⟩:=L2.ed b;rfl) λ_ _ _ _ _ _ g =>
  (ah (av (w_mod (w_add (w_add (w_mod (qv 0) aj) (gE k9 ly aj (qv 1))) aj) aj) iA.nd Y Q4)
  (ah (av (w_add (w_mod (gE k9 ly (qv 2) (qv 2)) aj) (gE k9 ly aj (qv 1))) iA.nd Y Q4)
  (ak (aL (w_mod (gE k9 ly (qv 2) (qv 2)) aj)))))
abbrev jO:Stmt:=top 30
def da:bt ["_law_script", "_law_letters", "_law_most", "_law_j", "_law_cell", "_law_size", "_law_signs", "_law_k"] Qa (ai jO):=by constructor<;>first | rfl | decide +kernel
def fX{m:Me}(F:xh K "_law_text" "_law_text" jO f g)(d:mg "_law_text" = Z (.ref f))(B:GN mg)(O:Gu K mg C D)(b:∀m,FnAt P w K mg base 1 "_law_cell_at" Q9 ((gX K C D).at m) aE)(h:∀m,FnAt P w K mg base 1 "_law_mixed" Q5 ((gX K C D).at m) b6) :
  FnAt P w K mg base 2 "_law_text" Qa ((gX K C D).at m) dC:=dQ F d da Y Y (λ_ _ _ _ _ _ i e=>by obtain⟨_,_,_,_,rfl⟩:=L2.El e;rfl) λ_ _ _ _ _ _ a =>
  (ah (av (bj (b _) a (aa (qv 0) (aa (w_add aj (qv 3)) af)) (by decide) Y Y) da.nd Y Q4)
  (ah (av (w_mod (qv 4) (w_add (qv 2) aj)) da.nd Y Q4)
  (ah (av (d4 (qv 4) (w_add (qv 2) aj)) da.nd Y Q4)
  (ah (fI (cq af) da.nd Y Q4)
  (ah (eU Yp Y (gk (qv 5) Y B.G0) (aG 7 da.nd Y Q4 Q4)
  (ak (bM (ku a (w_mod (bj (b _) a (aa (qv 0) (aa aj af)) (by decide) Y Y) aj) aj) (ah (fQ 6 (aa (aV (qv 1) (w_mod (qv 4) (eu B.FU (aa (qv 1) af))) (λ_ _=>rfl)) af) Y Y Q4 Y Y)
  (ak (av (d4 (qv 4) (eu B.FU (aa (qv 1) af))) da.nd Y Q4))) (ak (fQ 6 (aa (aV (qv 1) (w_mod (d4 (bj (h _) a (aa (qv 4) (aa (w_add (gE k9 ly aj (qv 3)) (qv 7)) af)) (by decide) Y Y) aj) (eu B.FU (aa (qv 1) af))) (λ_ _=>rfl)) af) Y Y Q4 Y Y)))))
  (jU 6 (ak (aL (lY (bp (by decide +kernel) (by decide)) (aa (qv 6) af))))))))))
abbrev jC:Stmt:=top 31
def cZ:bt ["_law_script", "_law_cell", "_law_letters", "_law_count", "_law_most"] Qb (ai jC):=by constructor<;>first | rfl | decide +kernel
def fR{m:Me}(F:xh K "_law_book" "_law_book" jC f e)(b:mg "_law_book" = Z (.ref f))(B:GN mg)(O:Gu K mg C D)(h:∀m,FnAt P w K mg base 1 "_law_cell_at" Q9 ((gX K C D).at m) aE)(g:∀m,FnAt P w K mg base 2 "_law_text" Qa ((gX K C D).at m) dC) :
  FnAt P w K mg base 3 "_law_book" Qb ((gX K C D).at m) fP:=dQ F b cZ Y Y (λ_ _ _ _ _ _ i d=>by obtain⟨_,rfl⟩:=L2.iw d;rfl) λ_ _ _ _ _ _ a =>
  (ah (av (bj (h _) a (aa (bA 0 Y (Or.inr Q4) Y Y) (aa aj af)) (by decide) Y Y) cZ.nd Y Q4)
  (ah (av (aV (cq (aa (bp (by decide +kernel) (by decide)) (aa (bp (by decide +kernel) (by decide)) (aa (bp (by decide +kernel) (by decide)) (aa (bp (by decide +kernel) (by decide)) (aa (bp (by decide +kernel) (by decide)) (aa (bp (by decide +kernel) (by decide)) af))))))) (w_mod (d4 (qv 1) aj) aj) (λ_ _=>rfl)) cZ.nd Y (Or.inr Y))
  (ah (av (aV (cq (aa aj (aa aj (aa aj (aa aj (aa aj (aa aj (aa aj (aa aj af))))))))) (w_mod (d4 (qv 1) aj) aj) (λ_ _=>rfl)) cZ.nd Y Q4)
  (ah (av (aV (cq (aa aj (aa aj (aa aj (aa aj af))))) (gE sO sy (Cd B.Np (aa (qv 3) (aa aj af))) aj) (λ_ _=>rfl)) cZ.nd Y (Or.inr Y))
  (ah (bM (ku a (w_mod (d4 (qv 1) aj) aj) aj) (ak (av (d4 aj (CJ B.Nq (aa aj (aa (qv 3) af)))) cZ.nd Y (Or.inr Y))) bx)
  (ah (bM (Iy.JW (lR (ku a (qv 3) aj) (lV (qr a (w_mod (d4 (qv 1) aj) aj) aj)))) (ak (av aj cZ.nd Y (Or.inr Y))) bx)
  (ak (aL (d6 1 Q7 Y (gk (qv 3) Y B.G0) (cU) (λ_ _ _ _ _=>(aG 0 (show List.Nodup Q7 from by decide +kernel) Y Q4 (Or.inr Y))) (λ_ _ _ _ _=>(bj (g _) a (aa (bA 1 Y (Or.inr Q4) Y Y) (aa (bA 3 Y (Or.inr Q4) Y Y) (aa (bA 5 Y (Or.inr Q4) Y Y) (aa (qv 0) af)))) (by decide) Y Y)) Y Y (by decide))))))))))
abbrev jP:Stmt:=top 32
def cz:bt ["_law_script", "_law_k", "_law_rows", "_law_j", "_law_cell", "_law_link", "_law_ways", "_law_at", "_law_more"] Q9 (ai jP):=by constructor<;>first | rfl | decide +kernel
def eD{m:Me}(F:xh K "_law_made" "_law_made" jP f h)(e:mg "_law_made" = Z (.ref f))(B:GN mg)(O:Gu K mg C D)(d:∀m,FnAt P w K mg base 1 "_law_cell_at" Q9 ((gX K C D).at m) aE)(b:∀m,FnAt P w K mg base 1 "_law_mixed" Q5 ((gX K C D).at m) b6) :
  FnAt P w K mg base 2 "_law_made" Q9 ((gX K C D).at m) fN:=dQ F e cz Y Y (λ_ _ _ _ _ _ i g=>by obtain⟨_,_,rfl⟩:=L2.ed g;rfl) λ_ _ _ _ _ _ a =>
  (ah (fI (cq af) cz.nd Y Q4)
  (ah (eU Yp Y (gk (w_add aj (w_mod (bj (d _) a (aa (qv 0) (aa (w_add aj (qv 1)) af)) (by decide) Y Y) aj)) Y B.G0) (aG 3 cz.nd Y Q4 Q4)
  (ah (av (bj (b _) a (aa (bj (d _) a (aa (qv 0) (aa (w_add aj (qv 1)) af)) (by decide) Y Y) (aa (w_add (gE k9 ly aj (qv 1)) (qv 3)) af)) (by decide) Y Y) cz.nd Y Q4)
  (ah (av (aV (cq (aa qb (aa (w_mod (d4 (qv 4) aj) aj) af))) (w_mod (qv 4) aj) (λ_ _=>rfl)) cz.nd Y Q4)
  (ah (fI (cq af) cz.nd Y Q4)
  (ah (eU Yp Y (gk aj Y B.G0) (aG 7 cz.nd Y Q4 Q4)
  (ah (av (bj (b _) a (aa (qv 4) (aa (qv 7) af)) (by decide) Y Y) cz.nd Y Q4)
  (ak (bM (ku a (w_mod (qv 8) (aV (cq (aa aj (aa aj (aa aj af)))) (w_mod (d4 (qv 4) aj) aj) (λ_ _=>rfl))) aj) (ak (fQ 6 (aa (jw (aa (aV (bp (by decide +kernel) (by decide)) (qv 7) (λ_ _=>rfl)) (aa (w_mod (d4 (qv 8) aj) (aV (cq (aa aj (aa aj (aa (gE vS wL aj aj) af)))) (w_mod (d4 (qv 4) aj) aj) (λ_ _=>rfl))) af))) af) Y Y Q4 Y Y)) bx))))
  (jU 6 (ak (fQ 2 (aa (jw (aa (w_mod (d4 (qv 4) aj) (aV (cq (aa aj (aa (gE vS wL aj aj) af))) (w_mod (qv 4) aj) (λ_ _=>rfl))) (aa (w_mod (d4 (qv 4) aj) aj) (aa (qv 5) (aa (oX B.GR (aa (qv 6) af)) af))))) af) Y Y Q4 Y Y))))))))
  (ak (gn 2 Y (Or.inl Y) Y Y))))
abbrev lx:Stmt:=top 33
def bG:bt ["_law_table", "_law_lines", "_law_low", "_law_high", "_law_link", "_law_ways", "_law_line", "_law_sign", "_law_number"] ["_law_table"] (ai lx):=by constructor<;>first | rfl | decide +kernel
def gY{m:Me}(F:xh K "_law_due" "_law_due" lx f d)(a:mg "_law_due" = Z (.ref f))(B:GN mg)(O:Gu K mg C D) :
  FnAt P w K mg base 1 "_law_due" ["_law_table"] ((gX K C D).at m) jc:=dQ F a bG Y Y (λ_ _ _ _ _ _ e b=>by obtain⟨_,rfl⟩:=L2.iw b;rfl) λ_ _ _ _ _ _ g =>
  (ah (fI (cq af) bG.nd Y Q4)
  (ah (eU Yp Y (cn (qv 0)) (lZ Y (cO (aG 2 bG.nd Y Q4 Q4) (cO (aG 3 bG.nd Y Q4 Q4) (cO (aG 4 bG.nd Y Q4 Q4) (cO (aG 5 bG.nd Y Q4 Q4) kJ)))))
  (ah (av (w_add (w_add (w_add (jE B.GS (aa (qv 2) af)) (bp (by decide +kernel) (by decide))) (jE B.GS (aa (qv 3) af))) (bp (by decide +kernel) (by decide))) bG.nd Y Q4)
  (ah (bM (sR (qv 4)) (ak (av (w_add (qv 6) (bp (by decide +kernel) (by decide))) bG.nd Y Q4)) (ak (av (w_add (qv 6) (jE B.GS (aa (qv 4) af))) bG.nd Y Q4)))
  (ah (eU Yp Y (cn (qv 5)) (lZ Y (cO (aG 7 bG.nd Y Q4 Q4) (cO (aG 8 bG.nd Y Q4 Q4) kJ)))
  (ak (av (w_add (w_add (w_add (w_add (qv 6) (bp (by decide +kernel) (by decide))) (qv 7)) (bp (by decide +kernel) (by decide))) (jE B.GS (aa (qv 8) af))) bG.nd Y Q4)))
  (ak (fQ 1 (aa (qv 6) af) Y Y Q4 Y Y))))))
  (jU 1 (ak (aL (lY (bp (by decide +kernel) (by decide)) (aa (qv 1) af)))))))
abbrev gG:Stmt:=top 34
def pZ:bt Q6 Q6 (ai gG):=by constructor<;>first | rfl | decide +kernel
def c7(F:xh K "_law_alike" "_law_alike" gG f e)(b:mg "_law_alike" = Z (.ref f))(B:GN mg)(O:Gu K mg C D)(h:FnAt P w K mg base k "_law_alike" Q6 ((gX K C D).at m) g) :
  FnAt P w K mg base (k+1) "_law_alike" Q6 ((gX K C D).at m) (br g):=dQ F b pZ Y Y (λ_ _ _ _ _ _ i d=>by obtain⟨_,_,rfl⟩:=L2.ed d;rfl) λ_ _ _ _ _ _ a =>
  (ah (bM (gw (Ci (bA 1 Y (Or.inr Q4) Y Y) B.gV B.G5 B.GR Y Y Y Y Y)) (ah (bM (Iy.JW (jD (qr a (w_is .list B.gV B.G5 (bA 0 Y (Or.inr Q4) Y Y)) (w_is .list B.gV B.G5 (bA 1 Y (Or.inr Q4) Y Y))) (la (qr a (w_is .tuple B.gV B.GR (bA 0 Y (Or.inr Q4) Y Y)) (w_is .tuple B.gV B.GR (bA 1 Y (Or.inr Q4) Y Y)))))) (ak (aL nB)) bx)
  (ak (aL (iI (w_eq a (eu B.FU (aa (bA 0 Y (Or.inr Q4) Y Y) af)) (eu B.FU (aa (bA 1 Y (Or.inr Q4) Y Y) af))) (kT (w_all B.Io (aa (d6 1 Q8 Y (gk (eu B.FU (aa (bA 1 Y (Or.inr Q4) Y Y) af)) Y B.G0) (cU) (λ_ _ _ _ _=>(aG 0 (show List.Nodup Q8 from by decide +kernel) Y Q4 (Or.inr Y))) (λ_ _ _ _ _=>(bj h a (aa (aV (bA 1 Y (Or.inr Q4) Y Y) (qv 0) (λ_ _=>rfl)) (aa (aV (bA 2 Y (Or.inr Q4) Y Y) (qv 0) (λ_ _=>rfl)) af)) (Zm _) Y Y)) Y Y (by decide)) af))))))) bx)
  (ak (aL (iI (w_eq a (bA 0 Y (Or.inr Q4) Y Y) (bA 1 Y (Or.inr Q4) Y Y)) (iI (wC (w_is .bool B.gV B.JT (bA 0 Y (Or.inr Q4) Y Y))) (kT (w_eq a (w_is .int B.gV B.Hj (bA 0 Y (Or.inr Q4) Y Y)) (w_is .int B.gV B.Hj (bA 1 Y (Or.inr Q4) Y Y)))))))))
def dF{m:Me}(F:xh K "_law_alike" "_law_alike" gG f d)(a:mg "_law_alike" = Z (.ref f))(B:GN mg)(O:Gu K mg C D) :
  FnAt P w K mg base 5 "_law_alike" Q6 ((gX K C D).at m) ff:=c7 P w base F a B O (c7 P w base F a B O (c7 P w base F a B O (c7 P w base F a B O (c7 P w base F a B O (zk F a (λ_ _ _ _ _ _ e b=>by obtain⟨_,_,rfl⟩:=L2.ed b;rfl))))))
abbrev kC:Stmt:=top 35
def nK:bt ["_law_script", "_law_table", "_law_handed", "_law_text_here", "_law_got"] Qb (ai kC):=by constructor<;>first | rfl | decide +kernel
def Cv{m:Me}(F:xh K "law" "law" kC f b)(B:GN mg)(O:Gu K mg C D)(n:InAt P w K mg base 6 (gX K C D) 1 1 "Machine" ["self", "book"] aR)(l:∀m,MpAt P w K mg base 3 ((gX K C D).at m) 1 "table" Qk bY)(g:∀m,FnAt P w K mg base 5 "_law_alike" Q6 ((gX K C D).at m) ff)(i:∀m,FnAt P w K mg base 3 "_law_book" Qb ((gX K C D).at m) fP)(h:∀m,FnAt P w K mg base 1 "_law_due" ["_law_table"] ((gX K C D).at m) jc)(d:∀m,FnAt P w K mg base 2 "_law_made" Q9 ((gX K C D).at m) fN)(e:∀m,FnAt P w K mg base 4 "read_table" ["text"] ((gX K C D).at m) dX)(j:∀m,FnAt P w K mg base 2 "show_table" ["table"] ((gX K C D).at m) fF) :
  FnOk P w K mg base GF 8 f b Qb (HR ((gX K C D).at m) xG):=Pf F nK Y Y λ_ _ _ _ _ _ a =>
  (ah (eU Yp Y (cn (cq (aa (nN (l _) a (by decide) (BE n.at a (by decide) (aa (bj (i _) a (aa (qv 0) af) (by decide) Y Y) af) EI Y Y Y Y) Y) (aa (bj (d _) a (aa (qv 0) (aa aj af)) (by decide) Y Y) (aa (bj (d _) a (aa (qv 0) (aa aj af)) (by decide) Y Y) af))))) (aG 1 nK.nd Y Q4 Q4)
  (ah (av (pY B.G5 (aa (qv 1) af)) nK.nd Y Q4)
  (ah (av (bj (j _) a (aa (qv 2) af) (by decide) Y Y) nK.nd Y Q4)
  (ah (bM (Iy.JW (jD (fG (gw (w_is .str B.gV B.GS (qv 3)))) (jD (qr a (qv 3) (bj (h _) a (aa (qv 1) af) (by decide) Y Y)) (la (qr a (qv 2) (qv 1)))))) (ak (aL nB)) bx)
  (ah (fI (bj (e _) a (aa (qv 3) af) (by decide) Y Y) nK.nd Y Q4)
  (ah (bM (fG (gw (bj (g _) a (aa (qv 4) (aa (qv 1) af)) (by decide) Y Y))) (ak (aL nB)) bx)
  (ah (AD 4 Y (Or.inl Y) Y Y Y Y Y)
  (jU 4 (ak (bM (fG (gw (bj (g _) a (aa (bj (e _) a (aa (qv 3) af) (by decide) Y Y) (aa (qv 1) af)) (by decide) Y Y))) (ak (aL nB)) bx))))))))))
  (ak (aL nB)))
end
abbrev gN(K:W0)(x:Str)(f:KB):Prop:=PySem.W.nsIn K mainGlobals x=Z (Z (.ref f))
abbrev gZ(K:W0)(x:Str):Prop:=PySem.W.nsIn K mainGlobals x=Z L
def all_mk{l:PySem.W.OpenLaw}{w:SL}{K:W0}{h:SC}{a:W3}{U C D f0 f1 f2 f3 f4 f5 f6 f7 f8 f9 RS RR RQ f RP RO RN RM RL RK RJ RI RH RG RF RE RD RC RB RA Rz Ry g:KB}(X:K.In h)(G:h.Ns mainGlobals a)(TR:a "law" = Z (.ref U)){Oy PZ Ox Nr:Option KB}{Ol Oj:Array (W6)}{OA OK PU Ou Ni PY Oz MN Nf Mz i Ng:KF}(OW:∀ns:W8,xG [.scr ns]=Z (.fr,.bl true))(a0:Meth K C "new_node" f0){Uo:Pi}(F0:xh K "new_node" "Nodes.new_node" eE f0 Uo)(a1:Mk K C f1){Um:Pi}(F1:xh K "__init__" "Nodes.__init__" eJ f1 Um)(a2:Meth K C "node_just_behind" f2){Ul:Pi}(F2:xh K "node_just_behind" "Nodes.node_just_behind" cf f2 Ul)(a3:Meth K C "head_behind" f3){Uk:Pi}(F3:xh K "head_behind" "Nodes.head_behind" dj f3 Uk)(a4:Meth K C "head_grown" f4){Uj:Pi}(F4:xh K "head_grown" "Nodes.head_grown" dD f4 Uj)(a5:Meth K C "numbers_by_node" f5){Ui:Pi}(F5:xh K "numbers_by_node" "Nodes.numbers_by_node" cw f5 Ui)(a6:Meth K C "row_of" f6){Uh:Pi}(F6:xh K "row_of" "Nodes.row_of" fK f6 Uh)(a7:Meth K C "table" f7){Ug:Pi}(F7:xh K "table" "Nodes.table" gH f7 Ug)(a8:Meth K D "begin" f8){Ue:Pi}(F8:xh K "begin" "Machine.begin" fq f8 Ue)(a9:gN K "is_whole" f9){Ud:Pi}(F9:xh K "is_whole" "is_whole" jG f9 Ud)(U5:gN K "refuse_no_text" RS){PH:Pi}(S:xh K "refuse_no_text" "refuse_no_text" eG RS PH)(UZ:gN K "signs_in" RR){PF:Pi}(R:xh K "signs_in" "signs_in" jv RR PF)(UY:Meth K D "grow" RQ){PD:Pi}(Q:xh K "grow" "Machine.grow" gm RQ PD){b:KB}{MC:Obj}{OE:Nat}(UX:Mk K D f)(SX:K.lookup f=Z ⟨OA,Oy,.func (PySem.W.fnOf "__init__" "Machine.__init__" (cG bT) (aY bT) (ai bT) (.ref b) OK PU Ou PZ Ni PY),Ol⟩)(UA:PySem.W.codeIn K Ni "Machine.__init__" = true)(S4:PySem.W.keepIn K (.ref f)=true)(Ss:K.lookup b=Z MC)(Si:MC.data=.seq #[.none] OE)(UW:Meth K D "book" RP){PB:Pi}(P:xh K "book" "Machine.book" fT RP PB)(UU:Meth K D "table" RO){Pz:Pi}(N:xh K "table" "Machine.table" fz RO Pz)(UT:gN K "has_only_signs" RN){Py:Pi}(M:xh K "has_only_signs" "has_only_signs" eT RN Py)(US:gN K "show_row" RM){Px:Pi}(J:xh K "show_row" "show_row" jQ RM Px)(UR:gN K "show_table" RL){Pw:Pi}(H:xh K "show_table" "show_table" ir RL Pw)(UQ:gN K "is_shown_number" RK){Pu:Pi}(E:xh K "is_shown_number" "is_shown_number" dZ RK Pu)(UP:gN K "rise" RJ){Pt:Pi}(A:xh K "rise" "rise" tm RJ Pt)(UO:gN K "is_shown_way" RI){Pr:Pi}(z:xh K "is_shown_way" "is_shown_way" gb RI Pr)(UN:gN K "is_shown_row" RH){Pq:Pi}(y:xh K "is_shown_row" "is_shown_row" gf RH Pq)(UM:gN K "read_row" RG){Pp:Pi}(x:xh K "read_row" "read_row" ju RG Pp)(UL:gN K "read_table" RF){Po:Pi}(u:xh K "read_table" "read_table" ig RF Po)(UK:gN K "_law_cell_at" RE){Pn:Pi}(t:xh K "_law_cell_at" "_law_cell_at" gS RE Pn)(UJ:gN K "_law_mixed" RD){Pm:Pi}(r:xh K "_law_mixed" "_law_mixed" iZ RD Pm)(UI:gN K "_law_text" RC){Pl:Pi}(q:xh K "_law_text" "_law_text" jO RC Pl)(UH:gN K "_law_book" RB){Pk:Pi}(p:xh K "_law_book" "_law_book" jC RB Pk)(UG:gN K "_law_made" RA){Pj:Pi}(o:xh K "_law_made" "_law_made" jP RA Pj)(UE:gN K "_law_due" Rz){Ph:Pi}(n:xh K "_law_due" "_law_due" lx Rz Ph)(UD:gN K "_law_alike" Ry){Pg:Pi}(j:xh K "_law_alike" "_law_alike" gG Ry Pg)(UC:gN K "law" g)(SW:K.lookup g=Z ⟨Oz,Ox,.func (PySem.W.fnOf "law" "law" (cG kC) (aY kC) (ai kC) .none MN Nf Mz Nr i Ng),Oj⟩)(Uz:PySem.W.codeIn K i "law" = true)(SY:PySem.W.keepIn K (.ref g)=true)(Mp:gZ K "all")(K9:gZ K "bool")(K8:gZ K "dict")(HW:gZ K "enumerate")(Mo:gZ K "int")(Hz:gZ K "isinstance")(Mn:gZ K "len")(K7:gZ K "list")(Mm:gZ K "max")(Ml:gZ K "min")(Kg:gZ K "range")(Mj:gZ K "set")(Jt:gZ K "sorted")(Mi:gZ K "str")(Mh:gZ K "sum")(Kf:gZ K "tuple"){Hh:Tok}(Hg:PySem.W.nsIn K mainGlobals "MOST_FIGURES" = Z (Z (.int 9 Hh))){HG:Tok}(HC:PySem.W.nsIn K mainGlobals "MOST_LINES" = Z (Z (.int 300 HG))){HF:Tok}(HB:PySem.W.nsIn K mainGlobals "MOST_SIGNS" = Z (Z (.int 120 HF))){HE:Tok}(HA:PySem.W.nsIn K mainGlobals "MOST_TEXTS" = Z (Z (.int 8 HE)))(w_Nodes:gN K "Nodes" C)(xa:G6 K C)(Gn:aS K C "longs")(Gp:aS K C "links")(Gv:aS K C "ways")(Gk:aS K C "texts")(Gq:aS K C "heads")(Gm:aS K C "nodes")(w_Machine:gN K "Machine" D)(p0:G6 K D)(FZ:aS K D "longs")(Ga:aS K D "links")(Gh:aS K D "ways")(FX:aS K D "texts")(Gb:aS K D "heads")(FY:aS K D "nodes")
  : ∃fd:Pi,(∀(s:FS)(v:KF),BindsTo s fd ⟨[v],[]⟩ [("_law_script",v)])/\∀base:SC,K.In base->base.Ns mainGlobals a->FnOk l.prog w K a base GF 8 U fd Qb (HR (Pd K) zN):=by
 have e:=TR.symm.trans (ZG X G UC);cases e;have B:GN a:=⟨ZA X G Mp,ZA X G K9,ZA X G K8,ZA X G HW,ZA X G Mo,ZA X G Hz,ZA X G Mn,ZA X G K7,ZA X G Mm,ZA X G Ml,ZA X G Kg,ZA X G Mj,ZA X G Jt,ZA X G Mi,ZA X G Mh,ZA X G Kf,⟨_,ZG X G Hg⟩,⟨_,ZG X G HC⟩,⟨_,ZG X G HB⟩,⟨_,ZG X G HA⟩⟩
 have O:Gu K a C D:=⟨xa,ZG X G w_Nodes,Gn,Gp,Gv,Gk,Gq,Gm,p0,ZG X G w_Machine,FZ,Ga,Gh,FX,Gb,FY⟩
 refine⟨PySem.W.fnOf "law" "law" (cG kC) (aY kC) (ai kC) .none MN Nf Mz Nr i Ng,λs v=>.of_eq Y,λbase _ _=>?_⟩;have aI:=aI l.prog w base F0 a0 B O;have cu:=cu l.prog w base F1 a1 B O aI;have aP:=aP l.prog w base F2 a2 B O aI;have bI:=bI l.prog w base F3 a3 B O aI aP;have bS:=bS l.prog w base F4 a4 B O bI;have bg:=λm=>bg (m:=m) l.prog w base F5 a5 B O;have cV:=λm=>cV (m:=m) l.prog w base F6 a6 B O;have dr:=λm=>dr (m:=m) l.prog w base F7 a7 B O bg cV;have cM:=cM l.prog w base F8 a8 B O;have gj:=λm=>gj (m:=m) l.prog w base F9 (ZG X G a9) B O;have cy:=λm=>cy (m:=m) l.prog w base S (ZG X G U5) B O gj;have fS:=λm=>fS (m:=m) l.prog w base R (ZG X G UZ) B O;have c4:=c4 l.prog w base Q UY B O bS cy fS;have bR:=bR l.prog w base ⟨⟨_,_,_,_,_,_,_,_,_,_,_,_,rfl,SX,UA,Ss,Si⟩,S4⟩ UX B O cM c4 cu;have iQ:=λm=>iQ (m:=m) l.prog w base P UW B O;have cI:=λm=>cI (m:=m) l.prog w base N UU B O dr;have cx:=λm=>cx (m:=m) l.prog w base M (ZG X G UT) B O;have fM:=λm=>fM (m:=m) l.prog w base J (ZG X G US) B O;have dR:=λm=>dR (m:=m) l.prog w base H (ZG X G UR) B O fM;have aX:=λm=>aX (m:=m) l.prog w base E (ZG X G UQ) B O;have ny:=λm=>ny (m:=m) l.prog w base A (ZG X G UP) B O;have cY:=λm=>cY (m:=m) l.prog w base z (ZG X G UO) B O cx aX;have cW:=λm=>cW (m:=m) l.prog w base y (ZG X G UN) B O aX cY ny;have gp:=λm=>gp (m:=m) l.prog w base x (ZG X G UM) B O;have dh:=λm=>dh (m:=m) l.prog w base u (ZG X G UL) B O cW gp;have aO:=λm=>aO (m:=m) l.prog w base t (ZG X G UK) B O;have bZ:=λm=>bZ (m:=m) l.prog w base r (ZG X G UJ) B O;have fX:=λm=>fX (m:=m) l.prog w base q (ZG X G UI) B O aO bZ;have fR:=λm=>fR (m:=m) l.prog w base p (ZG X G UH) B O aO fX;have eD:=λm=>eD (m:=m) l.prog w base o (ZG X G UG) B O aO bZ;have gY:=λm=>gY (m:=m) l.prog w base n (ZG X G UE) B O;have dF:=λm=>dF (m:=m) l.prog w base j (ZG X G UD) B O;exact ze Y (Cv l.prog w base (m:=λ_=>L) (xM (st:=kC) SW Uz SY) B O bR cI dF fR gY eD dh dR) OW
end T51
open PySem PySem.W PyProof.Rows PySem.W.X PySem.W.ZRun
set_option maxRecDepth 100000 in
set_option maxHeartbeats 0 in
theorem PySem.Challenge.cw_allparts_k51_tables_written_holds : PySem.Challenge.rw_allparts_k51_tables_written.Holds := by
 w_on;o_law;z_head;(case hw=>w_witness2)
 k_fill
 intro w s₀ s₁ mg mb G y fa o pm cd doc dV kV ho hd hcd hD hmg hg args vals as L hpre hlay hrd hwl hlo
 z_open y L KX ZH ZN ZT
 clear ZH ZN ZT;refine VS.xk (l:=PySem.Challenge.rw_allparts_k51_tables_written) (k:=8) (x := "_law_script") (g:=VS.zN) rfl rfl ⟨rfl,by decide,by decide⟩ (fun _=>rfl) ?F w s₀ s₁ mg mb G KX fa o pm cd doc dV kV ho hd hcd hD hmg hg args vals as hpre hlay hrd hwl hlo
 case F =>
  intro w mg fa h KX G hmg;apply T51.all_mk KX G hmg T51.wm
  (case w_Nodes=>unfold T51.gN;k_is)
  (case w_Machine=>unfold T51.gN;k_is)
  all_goals first | (refine' L2.xM ?l ?c ?k;(case l=>k_is);(case c=>k_is);(case k=>k_is)) | (refine' ⟨?l,?c,?k⟩;(case l=>k_is);(case c=>k_is);(case k=>k_is)) | (refine' ⟨?l,?c,?k,?d⟩;(case l=>k_is);(case c=>k_is);(case k=>k_is);(case d=>k_is)) | (unfold T51.gN;k_is) | (unfold T51.gZ;k_is) | (unfold L2.aS;k_is) | k_is | exact rfl | kernel_rfl
end
